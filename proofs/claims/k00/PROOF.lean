import PyProof.Rows.All
import Wide.All
import OpenK.AllK
import Wide.FinOn
import HandS.ForMost
import HandS.Exc
import HandS.TryOnly
import HandS.ExcOwn
import HandS.WordsExc
import HandS.ExcInit
import HandS.ExcIs
import HandS.ExcField
import HandS.Wide
import HandS.Gcd
import HandS.IsInst
import HandS.Style
import HandS.Flow
import HandS.Conv
import HandS.ClsMeth
import HandS.Property
import HandS.Head0
import HandS.Head1
import HandS.Head2
import HandS.HeadEnd
import HandS.HeadHook1
import HandS.HeadHook2
import HandS.CallSlots
import KE.KOpsOwn
import HandS.Defaults
import KE.KExcIs
import PyProof.InstNe
import HandS.TupAny
import KE.GoesEnum
import PyProof.ReprRoads
import PyProof.ReprBulk
import HandS.Deep
import HandS.IterVal
import HandS.TupMul
import HandS.OwnEq
import PyProof.MaxThree
import KE.GoesRaise
import HandS.MakeKw
import HandS.Text
import HandS.MakeKwOnly
import HandS.SortInts
import KE.KDictZip
import KE.KItemsList
import HandS.ListItems
import HandS.Zip
import HandS.SetFor
import PyProof.StrBlock2
import PySem.Challenge.RW_fourhinges_k00_errors_and_their_fields
set_option Elab.async false
set_option linter.all false
set_option maxRecDepth 100000
set_option maxHeartbeats 4000000
namespace Tw
open PySem L2
abbrev Chk : Type := PySem.W.Frag → Bool
inductive Df where
  | non
  | bl (b : Bool)
  | int (i : Int)
def Df.is : Df → Value → Bool
  | .non, .none => true
  | .bl b, .bool c => decide (b = c)
  | .int i, .int j _ => decide (i = j)
  | _, _ => false
def dfAll : List Df → List Value → Bool
  | [], [] => true
  | d :: ds, v :: vs => d.is v && dfAll ds vs
  | _, _ => false
theorem Df.is_int {i : Int} {v : Value} (h : (Df.int i).is v = true) : ∃ t, v = .int i t := by
  cases v with
  | int j t =>
    have e : i = j := of_decide_eq_true h
    exact ⟨t, by rw [e]⟩
  | _ => cases h
structure FnA where
  at_ : PySem.W.Frag → Addr
  name : Str
  qual : Str
  params : Arguments
  body : List Stmt
  scope : Scope
  dfl : List Df := []
abbrev FnAV : Type := Option (Str × Str × Arguments × FuncBody × Scope × Addr × List (Str × Addr) × Addr)
def fnAO (K : PySem.W.Frag) (d : FnA) : FnAV := match K.lookup (d.at_ K) with
  | some ⟨_, _, .func fd, _⟩ => some (fd.name, fd.qualname, fd.params, fd.body, fd.scope, fd.globals, fd.closure, fd.builtins)
  | _ => none
def FnA.val (d : FnA) : FnAV := some (d.name, d.qual, d.params, .stmts d.body, d.scope, mainGlobals, [], builtinsNs)
def dflOk (K : PySem.W.Frag) (ds : List Df) (v : Value) : Bool := match ds, v with
  | [], .none => true
  | _ :: _, .ref T => (match K.lookup T with
    | some ⟨_, _, .seq its _, _⟩ => dfAll ds its.toList
    | _ => false)
  | _, _ => false
def FnA.ok (K : PySem.W.Frag) (d : FnA) : Bool := match K.lookup (d.at_ K) with
  | some ⟨_, _, .func fd, _⟩ => PySem.W.codeIn K fd.code d.qual && dflOk K d.dfl fd.defaults
  | _ => false
def FnSays (K : PySem.W.Frag) (d : FnA) (df : Value) : Prop := ∃ oc od osl kV doc pm an cdv ct, K.lookup (d.at_ K) = some ⟨oc, od, .func (PySem.W.fnOf d.name d.qual d.params d.body d.scope df kV doc pm an cdv ct), osl⟩ ∧ PySem.W.codeIn K cdv d.qual = true
theorem FnA.get {K : PySem.W.Frag} {d : FnA} (e : fnAO K d = d.val) (c : d.ok K = true) : ∃ df, FnSays K d df ∧ dflOk K d.dfl df = true := by
  unfold fnAO at e
  unfold FnA.ok at c
  cases q : K.lookup (d.at_ K) with
  | none =>
    rw [q] at c
    cases c
  | some o =>
    obtain ⟨oc, od, dt, osl⟩ := o
    rw [q] at c e
    cases dt with
    | func fd =>
      obtain ⟨n1, n2, n3, n4, n5, n6, n7, n8, n9, n10, n11, n12, n13, n14, n15⟩ := fd
      have e2 : (some (n1, n2, n3, n4, n5, n6, n7, n15) : FnAV) = some (d.name, d.qual, d.params, .stmts d.body, d.scope, mainGlobals, [], builtinsNs) := e
      simp only [Option.some.injEq, Prod.mk.injEq] at e2
      obtain ⟨h1, h2, h3, h4, h5, h6, h7, h8⟩ := e2
      subst h1 h2 h3 h4 h5 h6 h7 h8
      obtain ⟨c1, c2⟩ := He.ba c
      exact ⟨n8, ⟨oc, od, osl, n9, n10, n11, n12, n13, n14, q, c1⟩, c2⟩
    | _ => cases c
theorem fnA_no {K : PySem.W.Frag} {d : FnA} (h : ∃ df, FnSays K d df ∧ dflOk K d.dfl df = true) (e : d.dfl = []) : FnSays K d .none := by
  obtain ⟨df, h1, h2⟩ := h
  rw [e] at h2
  cases df with
  | none => exact h1
  | _ => cases h2
def excVe (K : PySem.W.Frag) (C : Addr) : Bool := match K.lookup C with
  | some ⟨.type "type", _, .cls ⟨_, _, mro, _, _, hd, _, _, _, _, del⟩, sl⟩ => (match mro, sl.toList with
    | .ref C' :: bm, [_, _, _, _, some (.builtin n), _] => C' == C && (n == "ValueError.__new__" && (!del && (hd && HandSPX.refsVE bm)))
    | _, _ => false)
  | _ => false
theorem excVe_ok {K : PySem.W.Frag} {C : Addr} (q : excVe K C = true) : ∃ nm qn N bs bm sn sub ab col dd k0 k1 k2 k3 k5, K.lookup C = some (excClassObj nm qn C N bs bm true sn sub ab col dd k0 k1 k2 k3 k5 "ValueError.__new__") ∧ HandSPX.refsVE bm = true := by
  unfold excVe at q
  split at q
  · rename_i dd nm bs mro ns qn hd sn sub ab col del sl ho
    split at q
    · rename_i C' bm k0 k1 k2 k3 n k5 hs
      simp only [Bool.and_eq_true, beq_iff_eq, Bool.not_eq_true'] at q
      obtain ⟨rfl, rfl, hdel, hhd, ht⟩ := q
      subst hdel hhd
      have hsl : sl = #[k0, k1, k2, k3, some (.builtin "ValueError.__new__"), k5] := by
        obtain ⟨l⟩ := sl
        simp only at hs
        rw [hs]
      subst hsl
      exact ⟨nm, qn, ns, bs, bm, sn, sub, ab, col, dd, k0, k1, k2, k3, k5, ho, ht⟩
    · cases q
  · cases q
abbrev AlC : Type := Bool × List FnAV
def obsC (cs : List Chk) (fn : List FnA) (K : PySem.W.Frag) : AlC := ((cs.all fun f => f K) && fn.all fun d => d.ok K, fn.map fun d => fnAO K d)
def valC (fn : List FnA) : AlC := (true, fn.map FnA.val)
def SaysC (cs : List Chk) (fn : List FnA) (K : PySem.W.Frag) : Prop := obsC cs fn K = valC fn
def obsCG (as : List Addr) (cs : List Chk) (fn : List FnA) (g : Addr → Option Obj) : AlC := obsC cs fn (He.frG g as)
section
variable {cs : List Chk} {fn : List FnA} {K : PySem.W.Frag}
theorem SaysC.fact (c : SaysC cs fn K) (i : Nat) {f : Chk} (h : cs[i]? = some f := by rfl) : f K = true := by
  have c1 := (He.ba (show ((cs.all fun f => f K) && fn.all fun d => d.ok K) = true from congrArg (fun z : AlC => z.1) c)).1
  exact List.all_eq_true.mp c1 f (List.mem_of_getElem? h)
theorem SaysC.def_ (c : SaysC cs fn K) (i : Nat) {d : FnA} (h : fn[i]? = some d := by rfl) : ∃ df, FnSays K d df ∧ dflOk K d.dfl df = true := by
  have c2 := (He.ba (show ((cs.all fun f => f K) && fn.all fun d => d.ok K) = true from congrArg (fun z : AlC => z.1) c)).2
  have e : fn.map (fun d => fnAO K d) = fn.map FnA.val := congrArg (fun z : AlC => z.2) c
  have e2 : (fn.map fun d => fnAO K d)[i]? = (fn.map FnA.val)[i]? := by rw [e]
  rw [List.getElem?_map, List.getElem?_map, h] at e2
  exact FnA.get (Option.some.inj e2) (List.all_eq_true.mp c2 d (List.mem_of_getElem? h))
end
abbrev Grp : Type := List Chk × List FnA
def hookL (as : List Addr) (gs : List Grp) : PySem.W.Hook where
  α := List AlC
  obs := fun s => gs.map fun g => obsCG as g.1 g.2 s.heap.get?
  val := fun _ => gs.map fun g => valC g.2
  says := fun _ h => ∃ K : PySem.W.Frag, K.In h ∧ ∀ g ∈ gs, SaysC g.1 g.2 K
  of := fun _ s e => ⟨He.frG s.heap.get? as, He.frG_in, fun g hg => by
    have z := (List.map_inj_left (f := fun g : Grp => obsCG as g.1 g.2 s.heap.get?) (g := fun g : Grp => valC g.2)).mp e g hg
    exact z⟩
  keeps := fun _ _ _ ⟨K, hK, c⟩ k => ⟨K, PySem.W.Frag.In.keeps hK k, c⟩
theorem map_nil_of {σ α β : Type} {E : Option σ} {A : σ → α} {a : α} (h : E.map A = some a) : E.map (fun _ => ([] : List β)) = some [] := by
  cases E with
  | none => cases h
  | some s => rfl
theorem map_cons_of {σ α : Type} {E : Option σ} {A : σ → α} {L : σ → List α} {a : α} {l : List α} (h : E.map A = some a) (h2 : E.map L = some l) : E.map (fun s => A s :: L s) = some (a :: l) := by
  cases E with
  | none => cases h
  | some s =>
    have e1 : A s = a := Option.some.inj h
    have e2 : L s = l := Option.some.inj h2
    show some (A s :: L s) = _
    rw [e1, e2]
noncomputable abbrev endR (r : PySem.W.OpenRow) (M : Nat) (w : World) (os : OsState) : Option PySem.W.SharedT := HandSHeadRun.endF (HandSHeadRun.stepQ (HandSHeadRun.denQ HandSHeadRun.tabQ) r.prog w) M r.prog w os
theorem run_with {r : PySem.W.OpenRow} {q : Program} {H : PySem.W.Hook} {ob : PySem.W.SharedT → H.α} {M : Nat} {loose : List Str} {w : World} (h : HandSHeadRun.RunEq r q PySem.W.Hook.none (fun _ => ()) M loose w)
    (h2 : ∀ os, (endR r M w os).map ob = some (H.val w)) : HandSHeadRun.RunEq r q H ob M loose w := by
  intro os
  have a := h os
  have b := h2 os
  revert a b
  show (endR r M w os).map _ = _ → _ → (endR r M w os).map _ = _
  cases endR r M w os with
  | none => intro a _; cases a
  | some s =>
    intro a b
    have e1 := Option.some.inj a
    have e2 : ob s = H.val w := Option.some.inj b
    show some (_, _, ob s) = _
    rw [e2]
    have e3 := congrArg (fun z => z.1) e1
    have e4 := congrArg (fun z => z.2.1) e1
    dsimp only at e3 e4
    rw [e3, e4]
end Tw
namespace PySem.HandSPX
open PySem PySem.Spec PyProof.Rows
section
variable {M : Model} {A : Around} {E : Value → Shared → Prop} {h : Heap} {g : Array GenState} {d : Drawn} {t : Nat} {os : OsState}
variable {nm q : Str} {C N : Addr} {bs bm bmB : List Value} {hdct : Bool} {sn : List Str} {sub : List Value} {ab : Bool} {col : Option Bool} {dd : Option Addr} {k0 k1 k2 k3 k5 : Option Value} {B newId initId : String}
theorem check_newK (F : ExcBaseFacts B newId initId bmB) (hT : ∀ X : String, bm.contains (.type X) = bmB.contains (.type X)) {rest : List Value} {kw : List (Str × Value)} {Q : Unit → Shared → Prop}
    (hC : h.get? C = some (excClassObj nm q C N bs bm hdct sn sub ab col dd k0 k1 k2 k3 k5 newId)) (hq : Q () ⟨h, g, d, t, os⟩) : wpAny M A (checkBuiltinCall newId ⟨.ref C :: rest, kw⟩) Q E ⟨h, g, d, t, os⟩ := by
  have hcont : (Value.ref C :: bm).contains (.type B) = true := by rw [List.contains_cons, hT, F.hasB, Bool.or_true]
  have hstar := F.noStar
  simp only [checkBuiltinCall, F.newKind, F.newSplit, F.newRow]
  repeat (first | refine wpAny_loadPart_at hC ?_ | (refine wpAny_isSubtype_exc hC ?_; rw [hcont]) | refine wpAny_staticBase_exc hC ?_ | refine wpAny_madeBy_exc hC ?_ | simp only [bne_self_eq_false, Bool.false_eq_true, if_false] | wp_step)
  exact hq
end
section
variable {prog : Program} {w : World} {A : Around} {E : Value → Shared → Prop} {R : Result → Shared → Prop} {h : Heap} {g : Array GenState} {d : Drawn} {t : Nat} {os : OsState}
variable {nm q : Str} {C N : Addr} {bs bm bmB : List Value} {hdct : Bool} {sn : List Str} {sub : List Value} {ab : Bool} {col : Option Bool} {dd : Option Addr} {k0 k1 k2 k3 k5 : Option Value} {B newId initId : String} {kw : List (Str × Value)}
theorem new_ownK (F : ExcBaseFacts B newId initId bmB) (hT : ∀ X : String, bm.contains (.type X) = bmB.contains (.type X)) {rest : List Value}
    (hC : h.get? C = some (excClassObj nm q C N bs bm hdct sn sub ab col dd k0 k1 k2 k3 k5 newId))
    (hq : R (.ok (.ret (.ref (h.objs.size + 1)))) ⟨(h.push { cls := .type "tuple", data := .seq rest.toArray }).push
      { cls := .ref C, data := .fields #[.ref h.objs.size, .none, .none, .none, .bool false, .none] }, g, d, t, os⟩) (hrest : rest.length ≤ sizeLine) :
    codeAny (model prog w) A (.builtin newId ⟨.ref C :: rest, kw⟩) R ⟨h, g, d, t, os⟩ := by
  have hends := F.ends
  have hcB : (Value.ref C :: bm).contains (.type B) = true := by rw [List.contains_cons, hT, F.hasB, Bool.or_true]
  have hcA : (Value.ref C :: bm).contains (.type "AttributeError") = false := by rw [List.contains_cons, hT, F.noAttr]; rfl
  have hcN : (Value.ref C :: bm).contains (.type "NameError") = false := by rw [List.contains_cons, hT, F.noName]; rfl
  refine codeAny_builtinAt F.entry ?_
  unfold Builtin.«BaseException.__new__»
  refine wpAt_bind ?_
  show wpAt _ _ _ (stack >>= _) _ _ _
  refine wpAt_bind (wpAt_stack fun p below => wpAt_of_wpAny ?_)
  wp_walk
  refine wpAt_of_wpAny ?_
  rw [F.owner]
  repeat (first | with_reducible refine wpAny_madeHere_exc F.canon hC ?_ | with_reducible refine wpAny_loadPart_at hC ?_ | (with_reducible refine wpAny_isSubtype_exc hC ?_; first | rw [hcB] | rw [hcA] | rw [hcN]) | wp_step)
  show R _ _
  rw [Heap.size_push]
  exact hq
theorem type_call_ownK (F : ExcBaseFacts B newId initId bmB) (hT : ∀ X : String, bm.contains (.type X) = bmB.contains (.type X)) {rest : List Value} {fI : Addr} {Q : Fin → Shared → Prop}
    (hC : h.get? C = some (excClassObj nm q C N bs bm hdct sn sub ab col dd k0 k1 k2 k3 k5 newId))
    (hi : W.Looks (model prog w) h (typeLookup (.ref C) "__init__") (some (.ref fI))) (hb : ∀ self, W.Looks (model prog w) h (bindSpecial (.ref fI) self) (.ref fI, [self])) (hrest : rest.length ≤ sizeLine)
    (hq : codeAny (model prog w) A (.call (.ref fI) ⟨.ref (h.objs.size + 1) :: rest, kw⟩)
      (fun r s' => match r with | .ok (.ret v) => v = .none ∧ Q (.done (.ret (.ref (h.objs.size + 1)))) s' | .ok _ => False | .error e => E e s')
      ⟨(h.push (W.kdv_tup rest)).push (excO C h.objs.size), g, d, t, os⟩) :
    wpAny (model prog w) A (Builtin.«type.__call__» ⟨.ref C :: rest, kw⟩) Q E ⟨h, g, d, t, os⟩ := by
  repeat (first | with_reducible refine wpAny_loadPart_at hC ?_ | with_reducible refine wpAny_madeBy_exc hC ?_ | wp_step)
  refine codeAny_call_builtin_code (Code.quiet_builtin _ F.quiet) (check_newK F hT hC ?_)
  refine new_ownK F hT hC ?_ hrest
  show wpAny _ _ _ _ _ _
  have k : ∀ b o, h.get? b = some o → ((h.push (W.kdv_tup rest)).push (excO C h.objs.size)).get? b = some o := fun b o e => Heap.get?_push_of_some _ (Heap.get?_push_of_some _ e)
  have hC₁ := k _ _ hC
  have hget : ((h.push (W.kdv_tup rest)).push (excO C h.objs.size)).get? (h.objs.size + 1) = some (excO C h.objs.size) := by heap_get
  have hcC : (Value.ref C :: bm).contains (.ref C) = true := by simp
  have i1 := hi.keeps k
  have b1 := (hb (.ref (h.objs.size + 1))).keeps k
  unfold isInstance
  repeat (first | with_reducible refine wpAny_loadPart_at hget ?_ | (with_reducible refine wpAny_isSubtype_exc hC₁ ?_; rw [hcC]) | wp_step)
  show wpAny _ _ (typeLookup (.ref C) _) _ _ _
  refine i1.at ?_
  refine wpAny_holding (wpAny_bind (b1.at ?_))
  refine wpAny_bind (wpAny_call (codeAny_mono hq fun r s' z => ?_))
  rcases r with e | (v | _ | _ | _) <;> first | exact z | exact z.elim | skip
  obtain ⟨rfl, z⟩ := z
  first
    | exact wpAny_pure (wpAny_pure z)
    | (wp_walk; exact z)
theorem call_ownK (F : ExcBaseFacts B newId initId bmB) (hT : ∀ X : String, bm.contains (.type X) = bmB.contains (.type X)) {rest : List Value} {fI : Addr}
    (hC : h.get? C = some (excClassObj nm q C N bs bm hdct sn sub ab col dd k0 k1 k2 k3 k5 newId))
    (hi : W.Looks (model prog w) h (typeLookup (.ref C) "__init__") (some (.ref fI))) (hb : ∀ self, W.Looks (model prog w) h (bindSpecial (.ref fI) self) (.ref fI, [self])) (hrest : rest.length ≤ sizeLine)
    (hq : codeAny (model prog w) (A.under (.builtin "type.__call__" ⟨.ref C :: rest, kw⟩)) (.call (.ref fI) ⟨.ref (h.objs.size + 1) :: rest, kw⟩) (W.InitBack (h.objs.size + 1) R)
      ⟨(h.push (W.kdv_tup rest)).push (excO C h.objs.size), g, d, t, os⟩) :
    codeAny (model prog w) A (.call (.ref C) ⟨rest, kw⟩) R ⟨h, g, d, t, os⟩ := by
  have f1 := tc_lookup
  have f2 := tc_bind (.ref C)
  have hTy : (⟨h, g, d, t, os⟩ : Shared).TypeIs (.ref C) "type" := ⟨_, hC, rfl⟩
  refine codeAny_of_tree ?_
  show wpAny _ _ (callAny (.ref C) _) _ _ _
  repeat (any_goals (first | assumption | with_reducible refine wpAny_loadPart_at hC ?_ | wp_step))
  refine ⟨rfl, ?_⟩
  refine codeAny_call_builtin_at (Code.quiet_builtin _ (by decide +kernel)) entry_typeCall (wpAny_check_type_call_sub hC (type_call_ownK F hT hC hi hb hrest ?_))
  refine codeAny_mono hq fun r s' z => ?_
  rcases r with e | (v | _ | _ | _) <;> exact z
end
end PySem.HandSPX
namespace PySem.W
open PySem PySem.Spec PySem.Calls PyProof.Rows
section
variable {prog : Program} {w : World} {A : Around} {E : Value → Shared → Prop} {s : Shared} {K : Frag} {x D : Addr} {ox : Obj} {od : Option Obj}
theorem findObj_dataX {C : Addr} {name : Str} {a g : Value} (hc : (clsIn K C).isSome = true) (ha : findIn K (.ref C) name = some (some a)) (hg : specialIn K a "__get__" = some (some g)) (ht : takesIn K a = some true) : findObj K C od name = some (.bind g a) := by
  obtain ⟨cd, hc⟩ := Option.isSome_iff_exists.mp hc
  unfold findObj
  rw [hc, Option.bind_some, ha, Option.bind_some]
  simp [hg, ht]
theorem kin_classX {Q : Option Value → Shared → Prop} (hga : findIn K (.ref D) "__getattribute__" = some (some (.builtin "BaseException.__getattribute__"))) (hgt : findIn K (.ref D) "__getattr__" = some none) (hsub : subIn K (.ref D) (.type "BaseException") = some true)
    (hdct : hasDictIn K D = true) (ha : findIn K (.ref D) "__class__" = some (some (.builtin "object.__class__")))
    (hn : specialIn K (.builtin "object.__class__") "__get__" = some (some (.builtin "getset_descriptor.__get__"))) (htk : takesIn K (.builtin "object.__class__") = some true) (hm : mroIn K D (.type "object") = some true)
    (X : K.In s.heap) (I : InstAt s.heap x ox D od) (h : Q (some (.ref D)) { s with toks := s.toks + 1 }) : wpAny (model prog w) A (getAttr? (.ref x) "__class__") Q E s := by
  have hf : findObj K D od "__class__" = some (.bind (.builtin "getset_descriptor.__get__") (.builtin "object.__class__")) := findObj_dataX (by obtain ⟨cd, hc, _⟩ := any_some hdct; rw [hc]; rfl) ha hn htk
  obtain ⟨hp, g, d, t, os⟩ := s
  have L0 := I.type (M := model prog w)
  have L1 := looks_findIn (M := model prog w) X hga
  have L2 := looks_findIn (M := model prog w) X hgt
  have L3 := looks_find (M := model prog w) X I hf
  have sub : Looks (model prog w) hp (isInstance (.ref x) (.type "BaseException")) true := L0.andThen (looks_subIn X hsub)
  have hx0 : (false && onTheHeap (Value.builtin "BaseException.__getattribute__")) = false := rfl
  have hx2 : (Value.builtin "BaseException.__getattribute__" == Value.builtin "object.__getattribute__") = false := by decide +kernel
  have hx1 : (onTheHeap (Value.ref D) && Value.builtin "BaseException.__getattribute__" == Value.builtin "object.__getattribute__") = false := by rw [hx2]; rfl
  unfold getAttr? getAttrBy? getAttrBy
  refine wpAny_bind (wpAny_mkText (wpAny_bind (wpAny_attempt (wpAny_holding (wpAny_bind (L0.at (wpAny_bind (L1.at ?_))))))))
  show wpAny _ _ (if (onTheHeap (Value.ref D) && Value.builtin "BaseException.__getattribute__" == Value.builtin "object.__getattribute__") = true then _ else _) _ _ _
  rw [hx1, if_neg Bool.false_ne_true]
  unfold getAttrByItsOwn hookBefore
  refine wpAny_bind ?_
  rw [if_pos (show onTheHeap (Value.ref D) = true from rfl)]
  refine L2.at ?_
  refine wpAny_bind (wpAny_attempt (wpAny_holding ?_))
  unfold callGetattribute
  rw [hx0, if_neg Bool.false_ne_true]
  unfold boundAndCalled
  rw [PySem.F.excAttr_ValueError.ga.bind (.ref x)]
  refine wpAny_bind (wpAny_pure ?_)
  show wpAny _ _ (call (.builtin "BaseException.__getattribute__") [.ref x, .str "__class__" t]) _ _ _
  refine wpAny_call (codeAny_call_builtin PySem.F.excAttr_ValueError.ga.plain PySem.F.entry_bexc_ga ?_)
  refine @check_slot (model prog w) _ _ ⟨hp, g, d, t + 1, os⟩ "BaseException.__getattribute__" "BaseException" "__getattribute__" (.ref x) [.str "__class__" t] [] _ (by decide +kernel) (by decide +kernel) sub (PySem.F.args_bexc_ga (.ref x) (.str "__class__" t)) ?_
  unfold Builtin.«object.__getattribute__»
  refine wpAny_bind (wpAny_of_eq (a := ((Value.ref x : Value), [Value.str "__class__" t])) (by first | rfl | (simp only [slotArgs]; rfl)) ?_)
  refine wpAny_bind (wpAny_pure (wpAny_bind (L0.at (wpAny_bind (L3.at ?_)))))
  show wpAny _ _ (holding [Value.builtin "object.__class__"] (call (.builtin "getset_descriptor.__get__") [.builtin "object.__class__", .ref x, .ref D]) >>= ret) _ _ _
  refine wpAny_bind (wpAny_holding (wpAny_call (class_get (s := ⟨hp, g, d, t + 1, os⟩) (ox := ox) (od := od) X I hm ?_)))
  refine wpAny_pure ?_
  show wpAny _ _ (handedOut (.ref D)) _ _ _
  rw [handedOut_of (v := .ref D) rfl]
  first
    | exact wpAny_pure (wpAny_pure h)
    | exact wpAny_pure h
    | exact wpAny_pure (wpAny_bind (wpAny_pure (wpAny_pure h)))
theorem kitX_exo (hga : findIn K (.ref D) "__getattribute__" = some (some (.builtin "BaseException.__getattribute__"))) (hgt : findIn K (.ref D) "__getattr__" = some none) (hsub : subIn K (.ref D) (.type "BaseException") = some true) (hdct : hasDictIn K D = true) (ha : findIn K (.ref D) "__class__" = some (some (.builtin "object.__class__")))
    (hn : specialIn K (.builtin "object.__class__") "__get__" = some (some (.builtin "getset_descriptor.__get__"))) (htk : takesIn K (.builtin "object.__class__") = some true) (hm : mroIn K D (.type "object") = some true) :
    KitX K (.ref x) (.ref D) (fun h => InstAt h x ox D od) where
  ty := fun _ _ _ I => I.type
  it := fun _ _ X _ => by
    obtain ⟨cdD, hcD, _⟩ := any_some hdct
    unfold clsIn at hcD
    split at hcD
    · rename_i c' d' cd' sl' ho
      intro A' Q' E' s' k q
      unfold isType loadHead
      exact wpAny_bind (wpAny_loadPart (k _ _ (X _ _ ho)) (wpAny_pure q))
    · cases hcD
  ne := fun h tp dd its n sl X htp => by
    obtain ⟨cdD, hcD, _⟩ := any_some hdct
    refine Bool.eq_false_iff.mpr fun q => ?_
    have e : D = tp := Value.ref.inj (beq_iff_eq.mp q)
    subst e
    unfold clsIn at hcD
    split at hcD
    · rename_i c' d' cd' sl' ho
      have z := (X _ _ ho).symm.trans htp
      cases z
    · cases hcD
  ca := fun X I k => kin_classX hga hgt hsub hdct ha hn htk hm X I k
end
end PySem.W
namespace Tw
open PySem L2
def mroL (K : PySem.W.Frag) (C : Addr) : Option (List Value) := (PySem.W.clsIn K C).map fun cd => cd.mro
end Tw
set_option autoImplicit false
namespace K00
open PySem L2 PySem.Spec PyProof.Rows
def topS (i : Nat) : Stmt := PySem.Challenge.pw_fourhinges_k00_errors_and_their_fields.main.body.getD i (.Pass ⟨0, 0, 0, 0⟩)
abbrev s__law_take : Stmt := topS 37
abbrev s__law_of : Stmt := topS 38
abbrev s__law_value : Stmt := topS 39
abbrev s__law_pen : Stmt := topS 36
abbrev s__law_first : Stmt := topS 41
abbrev s__law_second : Stmt := topS 42
abbrev s__law_third : Stmt := topS 43
abbrev s__law_classes : Stmt := topS 40
abbrev s__law_by_names : Stmt := topS 44
abbrev s__law_caught : Stmt := topS 45
abbrev s_law : Stmt := topS 46
abbrev si_BridgeError : Stmt := inClass (topS 1) 0
abbrev si_BadRatio : Stmt := inClass (topS 2) 0
abbrev si_BadForce : Stmt := inClass (topS 3) 0
abbrev si_BadLoad : Stmt := inClass (topS 4) 0
abbrev si_OtherSize : Stmt := inClass (topS 5) 0
abbrev si_NoStone : Stmt := inClass (topS 6) 0
abbrev si_NoJoint : Stmt := inClass (topS 7) 0
abbrev si_NoCorner : Stmt := inClass (topS 8) 0
abbrev si_BadBridge : Stmt := inClass (topS 9) 0
abbrev si_NoPart : Stmt := inClass (topS 10) 0
abbrev si_BadRing : Stmt := inClass (topS 11) 0
abbrev si_BadCut : Stmt := inClass (topS 12) 0
abbrev si_BadThrust : Stmt := inClass (topS 13) 0
abbrev si_BadCorners : Stmt := inClass (topS 14) 0
abbrev si_InLine : Stmt := inClass (topS 15) 0
abbrev si_BadMotion : Stmt := inClass (topS 16) 0
abbrev si_BadWeights : Stmt := inClass (topS 17) 0
abbrev si_Unbalanced : Stmt := inClass (topS 18) 0
abbrev si_NotStanding : Stmt := inClass (topS 19) 0
abbrev si_BadPalette : Stmt := inClass (topS 20) 0
abbrev si_BadMix : Stmt := inClass (topS 21) 0
abbrev si_BadRows : Stmt := inClass (topS 22) 0
abbrev si_BadCart : Stmt := inClass (topS 23) 0
abbrev si_BadRule : Stmt := inClass (topS 24) 0
abbrev si_NoCart : Stmt := inClass (topS 25) 0
abbrev si_BadRoad : Stmt := inClass (topS 26) 0
abbrev si_NoLane : Stmt := inClass (topS 27) 0
abbrev si_BadLimit : Stmt := inClass (topS 28) 0
abbrev si_NotSafe : Stmt := inClass (topS 29) 0
abbrev si_BadYard : Stmt := inClass (topS 30) 0
abbrev si_BadStage : Stmt := inClass (topS 31) 0
abbrev si_BadChange : Stmt := inClass (topS 32) 0
abbrev si_NoChange : Stmt := inClass (topS 33) 0
abbrev si_BadRow : Stmt := inClass (topS 34) 0
end K00
namespace K00
open PySem L2 PySem.Spec PyProof.Rows Tw
def v_C_BridgeError (K : PySem.W.Frag) : Addr := He.ga K "BridgeError"
def v_C_BadRatio (K : PySem.W.Frag) : Addr := He.ga K "BadRatio"
def v_C_BadForce (K : PySem.W.Frag) : Addr := He.ga K "BadForce"
def v_C_BadLoad (K : PySem.W.Frag) : Addr := He.ga K "BadLoad"
def v_C_OtherSize (K : PySem.W.Frag) : Addr := He.ga K "OtherSize"
def v_C_NoStone (K : PySem.W.Frag) : Addr := He.ga K "NoStone"
def v_C_NoJoint (K : PySem.W.Frag) : Addr := He.ga K "NoJoint"
def v_C_NoCorner (K : PySem.W.Frag) : Addr := He.ga K "NoCorner"
def v_C_BadBridge (K : PySem.W.Frag) : Addr := He.ga K "BadBridge"
def v_C_NoPart (K : PySem.W.Frag) : Addr := He.ga K "NoPart"
def v_C_BadRing (K : PySem.W.Frag) : Addr := He.ga K "BadRing"
def v_C_BadCut (K : PySem.W.Frag) : Addr := He.ga K "BadCut"
def v_C_BadThrust (K : PySem.W.Frag) : Addr := He.ga K "BadThrust"
def v_C_BadCorners (K : PySem.W.Frag) : Addr := He.ga K "BadCorners"
def v_C_InLine (K : PySem.W.Frag) : Addr := He.ga K "InLine"
def v_C_BadMotion (K : PySem.W.Frag) : Addr := He.ga K "BadMotion"
def v_C_BadWeights (K : PySem.W.Frag) : Addr := He.ga K "BadWeights"
def v_C_Unbalanced (K : PySem.W.Frag) : Addr := He.ga K "Unbalanced"
def v_C_NotStanding (K : PySem.W.Frag) : Addr := He.ga K "NotStanding"
def v_C_BadPalette (K : PySem.W.Frag) : Addr := He.ga K "BadPalette"
def v_C_BadMix (K : PySem.W.Frag) : Addr := He.ga K "BadMix"
def v_C_BadRows (K : PySem.W.Frag) : Addr := He.ga K "BadRows"
def v_C_BadCart (K : PySem.W.Frag) : Addr := He.ga K "BadCart"
def v_C_BadRule (K : PySem.W.Frag) : Addr := He.ga K "BadRule"
def v_C_NoCart (K : PySem.W.Frag) : Addr := He.ga K "NoCart"
def v_C_BadRoad (K : PySem.W.Frag) : Addr := He.ga K "BadRoad"
def v_C_NoLane (K : PySem.W.Frag) : Addr := He.ga K "NoLane"
def v_C_BadLimit (K : PySem.W.Frag) : Addr := He.ga K "BadLimit"
def v_C_NotSafe (K : PySem.W.Frag) : Addr := He.ga K "NotSafe"
def v_C_BadYard (K : PySem.W.Frag) : Addr := He.ga K "BadYard"
def v_C_BadStage (K : PySem.W.Frag) : Addr := He.ga K "BadStage"
def v_C_BadChange (K : PySem.W.Frag) : Addr := He.ga K "BadChange"
def v_C_NoChange (K : PySem.W.Frag) : Addr := He.ga K "NoChange"
def v_C_BadRow (K : PySem.W.Frag) : Addr := He.ga K "BadRow"
def v_f__law_take (K : PySem.W.Frag) : Addr := He.ga K "_law_take"
def v_f__law_of (K : PySem.W.Frag) : Addr := He.ga K "_law_of"
def v_f__law_value (K : PySem.W.Frag) : Addr := He.ga K "_law_value"
def v_f__law_pen (K : PySem.W.Frag) : Addr := He.ga K "_law_pen"
def v_f__law_first (K : PySem.W.Frag) : Addr := He.ga K "_law_first"
def v_f__law_second (K : PySem.W.Frag) : Addr := He.ga K "_law_second"
def v_f__law_third (K : PySem.W.Frag) : Addr := He.ga K "_law_third"
def v_f__law_classes (K : PySem.W.Frag) : Addr := He.ga K "_law_classes"
def v_f__law_by_names (K : PySem.W.Frag) : Addr := He.ga K "_law_by_names"
def v_f__law_caught (K : PySem.W.Frag) : Addr := He.ga K "_law_caught"
def v_f_law (K : PySem.W.Frag) : Addr := He.ga K "law"
def v_I_BridgeError (K : PySem.W.Frag) : Addr := He.ma K (He.ga K "BridgeError") "__init__"
def v_I_BadRatio (K : PySem.W.Frag) : Addr := He.ma K (He.ga K "BadRatio") "__init__"
def v_I_BadForce (K : PySem.W.Frag) : Addr := He.ma K (He.ga K "BadForce") "__init__"
def v_I_BadLoad (K : PySem.W.Frag) : Addr := He.ma K (He.ga K "BadLoad") "__init__"
def v_I_OtherSize (K : PySem.W.Frag) : Addr := He.ma K (He.ga K "OtherSize") "__init__"
def v_I_NoStone (K : PySem.W.Frag) : Addr := He.ma K (He.ga K "NoStone") "__init__"
def v_I_NoJoint (K : PySem.W.Frag) : Addr := He.ma K (He.ga K "NoJoint") "__init__"
def v_I_NoCorner (K : PySem.W.Frag) : Addr := He.ma K (He.ga K "NoCorner") "__init__"
def v_I_BadBridge (K : PySem.W.Frag) : Addr := He.ma K (He.ga K "BadBridge") "__init__"
def v_I_NoPart (K : PySem.W.Frag) : Addr := He.ma K (He.ga K "NoPart") "__init__"
def v_I_BadRing (K : PySem.W.Frag) : Addr := He.ma K (He.ga K "BadRing") "__init__"
def v_I_BadCut (K : PySem.W.Frag) : Addr := He.ma K (He.ga K "BadCut") "__init__"
def v_I_BadThrust (K : PySem.W.Frag) : Addr := He.ma K (He.ga K "BadThrust") "__init__"
def v_I_BadCorners (K : PySem.W.Frag) : Addr := He.ma K (He.ga K "BadCorners") "__init__"
def v_I_InLine (K : PySem.W.Frag) : Addr := He.ma K (He.ga K "InLine") "__init__"
def v_I_BadMotion (K : PySem.W.Frag) : Addr := He.ma K (He.ga K "BadMotion") "__init__"
def v_I_BadWeights (K : PySem.W.Frag) : Addr := He.ma K (He.ga K "BadWeights") "__init__"
def v_I_Unbalanced (K : PySem.W.Frag) : Addr := He.ma K (He.ga K "Unbalanced") "__init__"
def v_I_NotStanding (K : PySem.W.Frag) : Addr := He.ma K (He.ga K "NotStanding") "__init__"
def v_I_BadPalette (K : PySem.W.Frag) : Addr := He.ma K (He.ga K "BadPalette") "__init__"
def v_I_BadMix (K : PySem.W.Frag) : Addr := He.ma K (He.ga K "BadMix") "__init__"
def v_I_BadRows (K : PySem.W.Frag) : Addr := He.ma K (He.ga K "BadRows") "__init__"
def v_I_BadCart (K : PySem.W.Frag) : Addr := He.ma K (He.ga K "BadCart") "__init__"
def v_I_BadRule (K : PySem.W.Frag) : Addr := He.ma K (He.ga K "BadRule") "__init__"
def v_I_NoCart (K : PySem.W.Frag) : Addr := He.ma K (He.ga K "NoCart") "__init__"
def v_I_BadRoad (K : PySem.W.Frag) : Addr := He.ma K (He.ga K "BadRoad") "__init__"
def v_I_NoLane (K : PySem.W.Frag) : Addr := He.ma K (He.ga K "NoLane") "__init__"
def v_I_BadLimit (K : PySem.W.Frag) : Addr := He.ma K (He.ga K "BadLimit") "__init__"
def v_I_NotSafe (K : PySem.W.Frag) : Addr := He.ma K (He.ga K "NotSafe") "__init__"
def v_I_BadYard (K : PySem.W.Frag) : Addr := He.ma K (He.ga K "BadYard") "__init__"
def v_I_BadStage (K : PySem.W.Frag) : Addr := He.ma K (He.ga K "BadStage") "__init__"
def v_I_BadChange (K : PySem.W.Frag) : Addr := He.ma K (He.ga K "BadChange") "__init__"
def v_I_NoChange (K : PySem.W.Frag) : Addr := He.ma K (He.ga K "NoChange") "__init__"
def v_I_BadRow (K : PySem.W.Frag) : Addr := He.ma K (He.ga K "BadRow") "__init__"
def D__law_take : FnA := ⟨v_f__law_take, "_law_take", "_law_take", defArgs s__law_take, defBody s__law_take, defScope s__law_take, []⟩
def D__law_of : FnA := ⟨v_f__law_of, "_law_of", "_law_of", defArgs s__law_of, defBody s__law_of, defScope s__law_of, []⟩
def D__law_value : FnA := ⟨v_f__law_value, "_law_value", "_law_value", defArgs s__law_value, defBody s__law_value, defScope s__law_value, []⟩
def D__law_pen : FnA := ⟨v_f__law_pen, "_law_pen", "_law_pen", defArgs s__law_pen, defBody s__law_pen, defScope s__law_pen, []⟩
def D__law_first : FnA := ⟨v_f__law_first, "_law_first", "_law_first", defArgs s__law_first, defBody s__law_first, defScope s__law_first, []⟩
def D__law_second : FnA := ⟨v_f__law_second, "_law_second", "_law_second", defArgs s__law_second, defBody s__law_second, defScope s__law_second, []⟩
def D__law_third : FnA := ⟨v_f__law_third, "_law_third", "_law_third", defArgs s__law_third, defBody s__law_third, defScope s__law_third, []⟩
def D__law_classes : FnA := ⟨v_f__law_classes, "_law_classes", "_law_classes", defArgs s__law_classes, defBody s__law_classes, defScope s__law_classes, []⟩
def D__law_by_names : FnA := ⟨v_f__law_by_names, "_law_by_names", "_law_by_names", defArgs s__law_by_names, defBody s__law_by_names, defScope s__law_by_names, []⟩
def D__law_caught : FnA := ⟨v_f__law_caught, "_law_caught", "_law_caught", defArgs s__law_caught, defBody s__law_caught, defScope s__law_caught, []⟩
def D_law : FnA := ⟨v_f_law, "law", "law", defArgs s_law, defBody s_law, defScope s_law, []⟩
def D_IBridgeError : FnA := ⟨v_I_BridgeError, "__init__", "BridgeError.__init__", defArgs si_BridgeError, defBody si_BridgeError, defScope si_BridgeError, []⟩
def D_IBadRatio : FnA := ⟨v_I_BadRatio, "__init__", "BadRatio.__init__", defArgs si_BadRatio, defBody si_BadRatio, defScope si_BadRatio, []⟩
def D_IBadForce : FnA := ⟨v_I_BadForce, "__init__", "BadForce.__init__", defArgs si_BadForce, defBody si_BadForce, defScope si_BadForce, []⟩
def D_IBadLoad : FnA := ⟨v_I_BadLoad, "__init__", "BadLoad.__init__", defArgs si_BadLoad, defBody si_BadLoad, defScope si_BadLoad, []⟩
def D_IOtherSize : FnA := ⟨v_I_OtherSize, "__init__", "OtherSize.__init__", defArgs si_OtherSize, defBody si_OtherSize, defScope si_OtherSize, []⟩
def D_INoStone : FnA := ⟨v_I_NoStone, "__init__", "NoStone.__init__", defArgs si_NoStone, defBody si_NoStone, defScope si_NoStone, []⟩
def D_INoJoint : FnA := ⟨v_I_NoJoint, "__init__", "NoJoint.__init__", defArgs si_NoJoint, defBody si_NoJoint, defScope si_NoJoint, []⟩
def D_INoCorner : FnA := ⟨v_I_NoCorner, "__init__", "NoCorner.__init__", defArgs si_NoCorner, defBody si_NoCorner, defScope si_NoCorner, []⟩
def D_IBadBridge : FnA := ⟨v_I_BadBridge, "__init__", "BadBridge.__init__", defArgs si_BadBridge, defBody si_BadBridge, defScope si_BadBridge, []⟩
def D_INoPart : FnA := ⟨v_I_NoPart, "__init__", "NoPart.__init__", defArgs si_NoPart, defBody si_NoPart, defScope si_NoPart, []⟩
def D_IBadRing : FnA := ⟨v_I_BadRing, "__init__", "BadRing.__init__", defArgs si_BadRing, defBody si_BadRing, defScope si_BadRing, []⟩
def D_IBadCut : FnA := ⟨v_I_BadCut, "__init__", "BadCut.__init__", defArgs si_BadCut, defBody si_BadCut, defScope si_BadCut, []⟩
def D_IBadThrust : FnA := ⟨v_I_BadThrust, "__init__", "BadThrust.__init__", defArgs si_BadThrust, defBody si_BadThrust, defScope si_BadThrust, []⟩
def D_IBadCorners : FnA := ⟨v_I_BadCorners, "__init__", "BadCorners.__init__", defArgs si_BadCorners, defBody si_BadCorners, defScope si_BadCorners, []⟩
def D_IInLine : FnA := ⟨v_I_InLine, "__init__", "InLine.__init__", defArgs si_InLine, defBody si_InLine, defScope si_InLine, []⟩
def D_IBadMotion : FnA := ⟨v_I_BadMotion, "__init__", "BadMotion.__init__", defArgs si_BadMotion, defBody si_BadMotion, defScope si_BadMotion, []⟩
def D_IBadWeights : FnA := ⟨v_I_BadWeights, "__init__", "BadWeights.__init__", defArgs si_BadWeights, defBody si_BadWeights, defScope si_BadWeights, []⟩
def D_IUnbalanced : FnA := ⟨v_I_Unbalanced, "__init__", "Unbalanced.__init__", defArgs si_Unbalanced, defBody si_Unbalanced, defScope si_Unbalanced, []⟩
def D_INotStanding : FnA := ⟨v_I_NotStanding, "__init__", "NotStanding.__init__", defArgs si_NotStanding, defBody si_NotStanding, defScope si_NotStanding, []⟩
def D_IBadPalette : FnA := ⟨v_I_BadPalette, "__init__", "BadPalette.__init__", defArgs si_BadPalette, defBody si_BadPalette, defScope si_BadPalette, []⟩
def D_IBadMix : FnA := ⟨v_I_BadMix, "__init__", "BadMix.__init__", defArgs si_BadMix, defBody si_BadMix, defScope si_BadMix, []⟩
def D_IBadRows : FnA := ⟨v_I_BadRows, "__init__", "BadRows.__init__", defArgs si_BadRows, defBody si_BadRows, defScope si_BadRows, []⟩
def D_IBadCart : FnA := ⟨v_I_BadCart, "__init__", "BadCart.__init__", defArgs si_BadCart, defBody si_BadCart, defScope si_BadCart, []⟩
def D_IBadRule : FnA := ⟨v_I_BadRule, "__init__", "BadRule.__init__", defArgs si_BadRule, defBody si_BadRule, defScope si_BadRule, []⟩
def D_INoCart : FnA := ⟨v_I_NoCart, "__init__", "NoCart.__init__", defArgs si_NoCart, defBody si_NoCart, defScope si_NoCart, []⟩
def D_IBadRoad : FnA := ⟨v_I_BadRoad, "__init__", "BadRoad.__init__", defArgs si_BadRoad, defBody si_BadRoad, defScope si_BadRoad, []⟩
def D_INoLane : FnA := ⟨v_I_NoLane, "__init__", "NoLane.__init__", defArgs si_NoLane, defBody si_NoLane, defScope si_NoLane, []⟩
def D_IBadLimit : FnA := ⟨v_I_BadLimit, "__init__", "BadLimit.__init__", defArgs si_BadLimit, defBody si_BadLimit, defScope si_BadLimit, []⟩
def D_INotSafe : FnA := ⟨v_I_NotSafe, "__init__", "NotSafe.__init__", defArgs si_NotSafe, defBody si_NotSafe, defScope si_NotSafe, []⟩
def D_IBadYard : FnA := ⟨v_I_BadYard, "__init__", "BadYard.__init__", defArgs si_BadYard, defBody si_BadYard, defScope si_BadYard, []⟩
def D_IBadStage : FnA := ⟨v_I_BadStage, "__init__", "BadStage.__init__", defArgs si_BadStage, defBody si_BadStage, defScope si_BadStage, []⟩
def D_IBadChange : FnA := ⟨v_I_BadChange, "__init__", "BadChange.__init__", defArgs si_BadChange, defBody si_BadChange, defScope si_BadChange, []⟩
def D_INoChange : FnA := ⟨v_I_NoChange, "__init__", "NoChange.__init__", defArgs si_NoChange, defBody si_NoChange, defScope si_NoChange, []⟩
def D_IBadRow : FnA := ⟨v_I_BadRow, "__init__", "BadRow.__init__", defArgs si_BadRow, defBody si_BadRow, defScope si_BadRow, []⟩
def P0 (K : PySem.W.Frag) : Prop := (PySem.W.nsIn K mainGlobals "_law_take" = some (some (.ref (v_f__law_take K)))) ∧ (PySem.W.keepIn K (.ref (v_f__law_take K)) = true) ∧ (PySem.W.nsIn K mainGlobals "_law_of" = some (some (.ref (v_f__law_of K)))) ∧ (PySem.W.keepIn K (.ref (v_f__law_of K)) = true) ∧ (PySem.W.nsIn K mainGlobals "_law_value" = some (some (.ref (v_f__law_value K)))) ∧ (PySem.W.keepIn K (.ref (v_f__law_value K)) = true) ∧ (PySem.W.nsIn K mainGlobals "_law_pen" = some (some (.ref (v_f__law_pen K)))) ∧ (PySem.W.keepIn K (.ref (v_f__law_pen K)) = true) ∧ (PySem.W.nsIn K mainGlobals "_law_first" = some (some (.ref (v_f__law_first K)))) ∧ (PySem.W.keepIn K (.ref (v_f__law_first K)) = true)
instance iP0 (K : PySem.W.Frag) : Decidable (P0 K) := by unfold P0; infer_instance
def P1 (K : PySem.W.Frag) : Prop := (PySem.W.nsIn K mainGlobals "_law_second" = some (some (.ref (v_f__law_second K)))) ∧ (PySem.W.keepIn K (.ref (v_f__law_second K)) = true) ∧ (PySem.W.nsIn K mainGlobals "_law_third" = some (some (.ref (v_f__law_third K)))) ∧ (PySem.W.keepIn K (.ref (v_f__law_third K)) = true) ∧ (PySem.W.nsIn K mainGlobals "_law_classes" = some (some (.ref (v_f__law_classes K)))) ∧ (PySem.W.keepIn K (.ref (v_f__law_classes K)) = true) ∧ (PySem.W.nsIn K mainGlobals "_law_by_names" = some (some (.ref (v_f__law_by_names K)))) ∧ (PySem.W.keepIn K (.ref (v_f__law_by_names K)) = true) ∧ (PySem.W.nsIn K mainGlobals "_law_caught" = some (some (.ref (v_f__law_caught K)))) ∧ (PySem.W.keepIn K (.ref (v_f__law_caught K)) = true)
instance iP1 (K : PySem.W.Frag) : Decidable (P1 K) := by unfold P1; infer_instance
def P2 (K : PySem.W.Frag) : Prop := (PySem.W.nsIn K mainGlobals "law" = some (some (.ref (v_f_law K)))) ∧ (PySem.W.keepIn K (.ref (v_f_law K)) = true) ∧ (PySem.W.nsIn K mainGlobals "BridgeError" = some (some (.ref (v_C_BridgeError K)))) ∧ (PySem.W.nsIn K mainGlobals "BadRatio" = some (some (.ref (v_C_BadRatio K)))) ∧ (PySem.W.nsIn K mainGlobals "BadForce" = some (some (.ref (v_C_BadForce K)))) ∧ (PySem.W.nsIn K mainGlobals "BadLoad" = some (some (.ref (v_C_BadLoad K)))) ∧ (PySem.W.nsIn K mainGlobals "OtherSize" = some (some (.ref (v_C_OtherSize K)))) ∧ (PySem.W.nsIn K mainGlobals "NoStone" = some (some (.ref (v_C_NoStone K)))) ∧ (PySem.W.nsIn K mainGlobals "NoJoint" = some (some (.ref (v_C_NoJoint K)))) ∧ (PySem.W.nsIn K mainGlobals "NoCorner" = some (some (.ref (v_C_NoCorner K))))
instance iP2 (K : PySem.W.Frag) : Decidable (P2 K) := by unfold P2; infer_instance
def P3 (K : PySem.W.Frag) : Prop := (PySem.W.nsIn K mainGlobals "BadBridge" = some (some (.ref (v_C_BadBridge K)))) ∧ (PySem.W.nsIn K mainGlobals "NoPart" = some (some (.ref (v_C_NoPart K)))) ∧ (PySem.W.nsIn K mainGlobals "BadRing" = some (some (.ref (v_C_BadRing K)))) ∧ (PySem.W.nsIn K mainGlobals "BadCut" = some (some (.ref (v_C_BadCut K)))) ∧ (PySem.W.nsIn K mainGlobals "BadThrust" = some (some (.ref (v_C_BadThrust K)))) ∧ (PySem.W.nsIn K mainGlobals "BadCorners" = some (some (.ref (v_C_BadCorners K)))) ∧ (PySem.W.nsIn K mainGlobals "InLine" = some (some (.ref (v_C_InLine K)))) ∧ (PySem.W.nsIn K mainGlobals "BadMotion" = some (some (.ref (v_C_BadMotion K)))) ∧ (PySem.W.nsIn K mainGlobals "BadWeights" = some (some (.ref (v_C_BadWeights K)))) ∧ (PySem.W.nsIn K mainGlobals "Unbalanced" = some (some (.ref (v_C_Unbalanced K))))
instance iP3 (K : PySem.W.Frag) : Decidable (P3 K) := by unfold P3; infer_instance
def P4 (K : PySem.W.Frag) : Prop := (PySem.W.nsIn K mainGlobals "NotStanding" = some (some (.ref (v_C_NotStanding K)))) ∧ (PySem.W.nsIn K mainGlobals "BadPalette" = some (some (.ref (v_C_BadPalette K)))) ∧ (PySem.W.nsIn K mainGlobals "BadMix" = some (some (.ref (v_C_BadMix K)))) ∧ (PySem.W.nsIn K mainGlobals "BadRows" = some (some (.ref (v_C_BadRows K)))) ∧ (PySem.W.nsIn K mainGlobals "BadCart" = some (some (.ref (v_C_BadCart K)))) ∧ (PySem.W.nsIn K mainGlobals "BadRule" = some (some (.ref (v_C_BadRule K)))) ∧ (PySem.W.nsIn K mainGlobals "NoCart" = some (some (.ref (v_C_NoCart K)))) ∧ (PySem.W.nsIn K mainGlobals "BadRoad" = some (some (.ref (v_C_BadRoad K)))) ∧ (PySem.W.nsIn K mainGlobals "NoLane" = some (some (.ref (v_C_NoLane K)))) ∧ (PySem.W.nsIn K mainGlobals "BadLimit" = some (some (.ref (v_C_BadLimit K))))
instance iP4 (K : PySem.W.Frag) : Decidable (P4 K) := by unfold P4; infer_instance
def P5 (K : PySem.W.Frag) : Prop := (PySem.W.nsIn K mainGlobals "NotSafe" = some (some (.ref (v_C_NotSafe K)))) ∧ (PySem.W.nsIn K mainGlobals "BadYard" = some (some (.ref (v_C_BadYard K)))) ∧ (PySem.W.nsIn K mainGlobals "BadStage" = some (some (.ref (v_C_BadStage K)))) ∧ (PySem.W.nsIn K mainGlobals "BadChange" = some (some (.ref (v_C_BadChange K)))) ∧ (PySem.W.nsIn K mainGlobals "NoChange" = some (some (.ref (v_C_NoChange K)))) ∧ (PySem.W.nsIn K mainGlobals "BadRow" = some (some (.ref (v_C_BadRow K)))) ∧ (excVe K (v_C_BridgeError K) = true) ∧ (PySem.W.findIn K (.ref (v_C_BridgeError K)) "__setattr__" = some (some (.builtin "object.__setattr__"))) ∧ (PySem.W.subIn K (.ref (v_C_BridgeError K)) (.type "BaseException") = some true) ∧ (PySem.W.typeIn K (.ref (v_C_BridgeError K)) = some (.type "type"))
instance iP5 (K : PySem.W.Frag) : Decidable (P5 K) := by unfold P5; infer_instance
def P6 (K : PySem.W.Frag) : Prop := (PySem.W.keepIn K (.ref (v_C_BridgeError K)) = true) ∧ (PySem.W.findIn K (.ref (v_C_BridgeError K)) "__init__" = some (some (.ref (v_I_BridgeError K)))) ∧ (PySem.W.typeIn K (.ref (v_I_BridgeError K)) = some (.type "function")) ∧ (PySem.W.keepIn K (.ref (v_I_BridgeError K)) = true) ∧ (excVe K (v_C_BadRatio K) = true) ∧ (PySem.W.findIn K (.ref (v_C_BadRatio K)) "__setattr__" = some (some (.builtin "object.__setattr__"))) ∧ (PySem.W.subIn K (.ref (v_C_BadRatio K)) (.type "BaseException") = some true) ∧ (PySem.W.typeIn K (.ref (v_C_BadRatio K)) = some (.type "type")) ∧ (PySem.W.keepIn K (.ref (v_C_BadRatio K)) = true) ∧ (PySem.W.findIn K (.ref (v_C_BadRatio K)) "__init__" = some (some (.ref (v_I_BadRatio K))))
instance iP6 (K : PySem.W.Frag) : Decidable (P6 K) := by unfold P6; infer_instance
def P7 (K : PySem.W.Frag) : Prop := (PySem.W.typeIn K (.ref (v_I_BadRatio K)) = some (.type "function")) ∧ (PySem.W.keepIn K (.ref (v_I_BadRatio K)) = true) ∧ (excVe K (v_C_BadForce K) = true) ∧ (PySem.W.findIn K (.ref (v_C_BadForce K)) "__setattr__" = some (some (.builtin "object.__setattr__"))) ∧ (PySem.W.subIn K (.ref (v_C_BadForce K)) (.type "BaseException") = some true) ∧ (PySem.W.typeIn K (.ref (v_C_BadForce K)) = some (.type "type")) ∧ (PySem.W.keepIn K (.ref (v_C_BadForce K)) = true) ∧ (PySem.W.findIn K (.ref (v_C_BadForce K)) "__init__" = some (some (.ref (v_I_BadForce K)))) ∧ (PySem.W.typeIn K (.ref (v_I_BadForce K)) = some (.type "function")) ∧ (PySem.W.keepIn K (.ref (v_I_BadForce K)) = true)
instance iP7 (K : PySem.W.Frag) : Decidable (P7 K) := by unfold P7; infer_instance
def P8 (K : PySem.W.Frag) : Prop := (PySem.W.findIn K (.ref (v_C_BadForce K)) "what" = some none) ∧ (excVe K (v_C_BadLoad K) = true) ∧ (PySem.W.findIn K (.ref (v_C_BadLoad K)) "__setattr__" = some (some (.builtin "object.__setattr__"))) ∧ (PySem.W.subIn K (.ref (v_C_BadLoad K)) (.type "BaseException") = some true) ∧ (PySem.W.typeIn K (.ref (v_C_BadLoad K)) = some (.type "type")) ∧ (PySem.W.keepIn K (.ref (v_C_BadLoad K)) = true) ∧ (PySem.W.findIn K (.ref (v_C_BadLoad K)) "__init__" = some (some (.ref (v_I_BadLoad K)))) ∧ (PySem.W.typeIn K (.ref (v_I_BadLoad K)) = some (.type "function")) ∧ (PySem.W.keepIn K (.ref (v_I_BadLoad K)) = true) ∧ (PySem.W.findIn K (.ref (v_C_BadLoad K)) "what" = some none)
instance iP8 (K : PySem.W.Frag) : Decidable (P8 K) := by unfold P8; infer_instance
def P9 (K : PySem.W.Frag) : Prop := (excVe K (v_C_OtherSize K) = true) ∧ (PySem.W.findIn K (.ref (v_C_OtherSize K)) "__setattr__" = some (some (.builtin "object.__setattr__"))) ∧ (PySem.W.subIn K (.ref (v_C_OtherSize K)) (.type "BaseException") = some true) ∧ (PySem.W.typeIn K (.ref (v_C_OtherSize K)) = some (.type "type")) ∧ (PySem.W.keepIn K (.ref (v_C_OtherSize K)) = true) ∧ (PySem.W.findIn K (.ref (v_C_OtherSize K)) "__init__" = some (some (.ref (v_I_OtherSize K)))) ∧ (PySem.W.typeIn K (.ref (v_I_OtherSize K)) = some (.type "function")) ∧ (PySem.W.keepIn K (.ref (v_I_OtherSize K)) = true) ∧ (excVe K (v_C_NoStone K) = true) ∧ (PySem.W.findIn K (.ref (v_C_NoStone K)) "__setattr__" = some (some (.builtin "object.__setattr__")))
instance iP9 (K : PySem.W.Frag) : Decidable (P9 K) := by unfold P9; infer_instance
def P10 (K : PySem.W.Frag) : Prop := (PySem.W.subIn K (.ref (v_C_NoStone K)) (.type "BaseException") = some true) ∧ (PySem.W.typeIn K (.ref (v_C_NoStone K)) = some (.type "type")) ∧ (PySem.W.keepIn K (.ref (v_C_NoStone K)) = true) ∧ (PySem.W.findIn K (.ref (v_C_NoStone K)) "__init__" = some (some (.ref (v_I_NoStone K)))) ∧ (PySem.W.typeIn K (.ref (v_I_NoStone K)) = some (.type "function")) ∧ (PySem.W.keepIn K (.ref (v_I_NoStone K)) = true) ∧ (PySem.W.findIn K (.ref (v_C_NoStone K)) "stone" = some none) ∧ (excVe K (v_C_NoJoint K) = true) ∧ (PySem.W.findIn K (.ref (v_C_NoJoint K)) "__setattr__" = some (some (.builtin "object.__setattr__"))) ∧ (PySem.W.subIn K (.ref (v_C_NoJoint K)) (.type "BaseException") = some true)
instance iP10 (K : PySem.W.Frag) : Decidable (P10 K) := by unfold P10; infer_instance
def P11 (K : PySem.W.Frag) : Prop := (PySem.W.typeIn K (.ref (v_C_NoJoint K)) = some (.type "type")) ∧ (PySem.W.keepIn K (.ref (v_C_NoJoint K)) = true) ∧ (PySem.W.findIn K (.ref (v_C_NoJoint K)) "__init__" = some (some (.ref (v_I_NoJoint K)))) ∧ (PySem.W.typeIn K (.ref (v_I_NoJoint K)) = some (.type "function")) ∧ (PySem.W.keepIn K (.ref (v_I_NoJoint K)) = true) ∧ (PySem.W.findIn K (.ref (v_C_NoJoint K)) "joint" = some none) ∧ (excVe K (v_C_NoCorner K) = true) ∧ (PySem.W.findIn K (.ref (v_C_NoCorner K)) "__setattr__" = some (some (.builtin "object.__setattr__"))) ∧ (PySem.W.subIn K (.ref (v_C_NoCorner K)) (.type "BaseException") = some true) ∧ (PySem.W.typeIn K (.ref (v_C_NoCorner K)) = some (.type "type"))
instance iP11 (K : PySem.W.Frag) : Decidable (P11 K) := by unfold P11; infer_instance
def P12 (K : PySem.W.Frag) : Prop := (PySem.W.keepIn K (.ref (v_C_NoCorner K)) = true) ∧ (PySem.W.findIn K (.ref (v_C_NoCorner K)) "__init__" = some (some (.ref (v_I_NoCorner K)))) ∧ (PySem.W.typeIn K (.ref (v_I_NoCorner K)) = some (.type "function")) ∧ (PySem.W.keepIn K (.ref (v_I_NoCorner K)) = true) ∧ (PySem.W.findIn K (.ref (v_C_NoCorner K)) "corner" = some none) ∧ (excVe K (v_C_BadBridge K) = true) ∧ (PySem.W.findIn K (.ref (v_C_BadBridge K)) "__setattr__" = some (some (.builtin "object.__setattr__"))) ∧ (PySem.W.subIn K (.ref (v_C_BadBridge K)) (.type "BaseException") = some true) ∧ (PySem.W.typeIn K (.ref (v_C_BadBridge K)) = some (.type "type")) ∧ (PySem.W.keepIn K (.ref (v_C_BadBridge K)) = true)
instance iP12 (K : PySem.W.Frag) : Decidable (P12 K) := by unfold P12; infer_instance
def P13 (K : PySem.W.Frag) : Prop := (PySem.W.findIn K (.ref (v_C_BadBridge K)) "__init__" = some (some (.ref (v_I_BadBridge K)))) ∧ (PySem.W.typeIn K (.ref (v_I_BadBridge K)) = some (.type "function")) ∧ (PySem.W.keepIn K (.ref (v_I_BadBridge K)) = true) ∧ (PySem.W.findIn K (.ref (v_C_BadBridge K)) "what" = some none) ∧ (PySem.W.findIn K (.ref (v_C_BadBridge K)) "joint" = some none) ∧ (excVe K (v_C_NoPart K) = true) ∧ (PySem.W.findIn K (.ref (v_C_NoPart K)) "__setattr__" = some (some (.builtin "object.__setattr__"))) ∧ (PySem.W.subIn K (.ref (v_C_NoPart K)) (.type "BaseException") = some true) ∧ (PySem.W.typeIn K (.ref (v_C_NoPart K)) = some (.type "type")) ∧ (PySem.W.keepIn K (.ref (v_C_NoPart K)) = true)
instance iP13 (K : PySem.W.Frag) : Decidable (P13 K) := by unfold P13; infer_instance
def P14 (K : PySem.W.Frag) : Prop := (PySem.W.findIn K (.ref (v_C_NoPart K)) "__init__" = some (some (.ref (v_I_NoPart K)))) ∧ (PySem.W.typeIn K (.ref (v_I_NoPart K)) = some (.type "function")) ∧ (PySem.W.keepIn K (.ref (v_I_NoPart K)) = true) ∧ (PySem.W.findIn K (.ref (v_C_NoPart K)) "first" = some none) ∧ (PySem.W.findIn K (.ref (v_C_NoPart K)) "last" = some none) ∧ (excVe K (v_C_BadRing K) = true) ∧ (PySem.W.findIn K (.ref (v_C_BadRing K)) "__setattr__" = some (some (.builtin "object.__setattr__"))) ∧ (PySem.W.subIn K (.ref (v_C_BadRing K)) (.type "BaseException") = some true) ∧ (PySem.W.typeIn K (.ref (v_C_BadRing K)) = some (.type "type")) ∧ (PySem.W.keepIn K (.ref (v_C_BadRing K)) = true)
instance iP14 (K : PySem.W.Frag) : Decidable (P14 K) := by unfold P14; infer_instance
def P15 (K : PySem.W.Frag) : Prop := (PySem.W.findIn K (.ref (v_C_BadRing K)) "__init__" = some (some (.ref (v_I_BadRing K)))) ∧ (PySem.W.typeIn K (.ref (v_I_BadRing K)) = some (.type "function")) ∧ (PySem.W.keepIn K (.ref (v_I_BadRing K)) = true) ∧ (PySem.W.findIn K (.ref (v_C_BadRing K)) "what" = some none) ∧ (PySem.W.findIn K (.ref (v_C_BadRing K)) "stone" = some none) ∧ (excVe K (v_C_BadCut K) = true) ∧ (PySem.W.findIn K (.ref (v_C_BadCut K)) "__setattr__" = some (some (.builtin "object.__setattr__"))) ∧ (PySem.W.subIn K (.ref (v_C_BadCut K)) (.type "BaseException") = some true) ∧ (PySem.W.typeIn K (.ref (v_C_BadCut K)) = some (.type "type")) ∧ (PySem.W.keepIn K (.ref (v_C_BadCut K)) = true)
instance iP15 (K : PySem.W.Frag) : Decidable (P15 K) := by unfold P15; infer_instance
def P16 (K : PySem.W.Frag) : Prop := (PySem.W.findIn K (.ref (v_C_BadCut K)) "__init__" = some (some (.ref (v_I_BadCut K)))) ∧ (PySem.W.typeIn K (.ref (v_I_BadCut K)) = some (.type "function")) ∧ (PySem.W.keepIn K (.ref (v_I_BadCut K)) = true) ∧ (PySem.W.findIn K (.ref (v_C_BadCut K)) "one" = some none) ∧ (PySem.W.findIn K (.ref (v_C_BadCut K)) "other" = some none) ∧ (excVe K (v_C_BadThrust K) = true) ∧ (PySem.W.findIn K (.ref (v_C_BadThrust K)) "__setattr__" = some (some (.builtin "object.__setattr__"))) ∧ (PySem.W.subIn K (.ref (v_C_BadThrust K)) (.type "BaseException") = some true) ∧ (PySem.W.typeIn K (.ref (v_C_BadThrust K)) = some (.type "type")) ∧ (PySem.W.keepIn K (.ref (v_C_BadThrust K)) = true)
instance iP16 (K : PySem.W.Frag) : Decidable (P16 K) := by unfold P16; infer_instance
def P17 (K : PySem.W.Frag) : Prop := (PySem.W.findIn K (.ref (v_C_BadThrust K)) "__init__" = some (some (.ref (v_I_BadThrust K)))) ∧ (PySem.W.typeIn K (.ref (v_I_BadThrust K)) = some (.type "function")) ∧ (PySem.W.keepIn K (.ref (v_I_BadThrust K)) = true) ∧ (excVe K (v_C_BadCorners K) = true) ∧ (PySem.W.findIn K (.ref (v_C_BadCorners K)) "__setattr__" = some (some (.builtin "object.__setattr__"))) ∧ (PySem.W.subIn K (.ref (v_C_BadCorners K)) (.type "BaseException") = some true) ∧ (PySem.W.typeIn K (.ref (v_C_BadCorners K)) = some (.type "type")) ∧ (PySem.W.keepIn K (.ref (v_C_BadCorners K)) = true) ∧ (PySem.W.findIn K (.ref (v_C_BadCorners K)) "__init__" = some (some (.ref (v_I_BadCorners K)))) ∧ (PySem.W.typeIn K (.ref (v_I_BadCorners K)) = some (.type "function"))
instance iP17 (K : PySem.W.Frag) : Decidable (P17 K) := by unfold P17; infer_instance
def P18 (K : PySem.W.Frag) : Prop := (PySem.W.keepIn K (.ref (v_I_BadCorners K)) = true) ∧ (excVe K (v_C_InLine K) = true) ∧ (PySem.W.findIn K (.ref (v_C_InLine K)) "__setattr__" = some (some (.builtin "object.__setattr__"))) ∧ (PySem.W.subIn K (.ref (v_C_InLine K)) (.type "BaseException") = some true) ∧ (PySem.W.typeIn K (.ref (v_C_InLine K)) = some (.type "type")) ∧ (PySem.W.keepIn K (.ref (v_C_InLine K)) = true) ∧ (PySem.W.findIn K (.ref (v_C_InLine K)) "__init__" = some (some (.ref (v_I_InLine K)))) ∧ (PySem.W.typeIn K (.ref (v_I_InLine K)) = some (.type "function")) ∧ (PySem.W.keepIn K (.ref (v_I_InLine K)) = true) ∧ (PySem.W.findIn K (.ref (v_C_InLine K)) "corners" = some none)
instance iP18 (K : PySem.W.Frag) : Decidable (P18 K) := by unfold P18; infer_instance
def P19 (K : PySem.W.Frag) : Prop := (excVe K (v_C_BadMotion K) = true) ∧ (PySem.W.findIn K (.ref (v_C_BadMotion K)) "__setattr__" = some (some (.builtin "object.__setattr__"))) ∧ (PySem.W.subIn K (.ref (v_C_BadMotion K)) (.type "BaseException") = some true) ∧ (PySem.W.typeIn K (.ref (v_C_BadMotion K)) = some (.type "type")) ∧ (PySem.W.keepIn K (.ref (v_C_BadMotion K)) = true) ∧ (PySem.W.findIn K (.ref (v_C_BadMotion K)) "__init__" = some (some (.ref (v_I_BadMotion K)))) ∧ (PySem.W.typeIn K (.ref (v_I_BadMotion K)) = some (.type "function")) ∧ (PySem.W.keepIn K (.ref (v_I_BadMotion K)) = true) ∧ (excVe K (v_C_BadWeights K) = true) ∧ (PySem.W.findIn K (.ref (v_C_BadWeights K)) "__setattr__" = some (some (.builtin "object.__setattr__")))
instance iP19 (K : PySem.W.Frag) : Decidable (P19 K) := by unfold P19; infer_instance
def P20 (K : PySem.W.Frag) : Prop := (PySem.W.subIn K (.ref (v_C_BadWeights K)) (.type "BaseException") = some true) ∧ (PySem.W.typeIn K (.ref (v_C_BadWeights K)) = some (.type "type")) ∧ (PySem.W.keepIn K (.ref (v_C_BadWeights K)) = true) ∧ (PySem.W.findIn K (.ref (v_C_BadWeights K)) "__init__" = some (some (.ref (v_I_BadWeights K)))) ∧ (PySem.W.typeIn K (.ref (v_I_BadWeights K)) = some (.type "function")) ∧ (PySem.W.keepIn K (.ref (v_I_BadWeights K)) = true) ∧ (PySem.W.findIn K (.ref (v_C_BadWeights K)) "what" = some none) ∧ (excVe K (v_C_Unbalanced K) = true) ∧ (PySem.W.findIn K (.ref (v_C_Unbalanced K)) "__setattr__" = some (some (.builtin "object.__setattr__"))) ∧ (PySem.W.subIn K (.ref (v_C_Unbalanced K)) (.type "BaseException") = some true)
instance iP20 (K : PySem.W.Frag) : Decidable (P20 K) := by unfold P20; infer_instance
def P21 (K : PySem.W.Frag) : Prop := (PySem.W.typeIn K (.ref (v_C_Unbalanced K)) = some (.type "type")) ∧ (PySem.W.keepIn K (.ref (v_C_Unbalanced K)) = true) ∧ (PySem.W.findIn K (.ref (v_C_Unbalanced K)) "__init__" = some (some (.ref (v_I_Unbalanced K)))) ∧ (PySem.W.typeIn K (.ref (v_I_Unbalanced K)) = some (.type "function")) ∧ (PySem.W.keepIn K (.ref (v_I_Unbalanced K)) = true) ∧ (excVe K (v_C_NotStanding K) = true) ∧ (PySem.W.findIn K (.ref (v_C_NotStanding K)) "__setattr__" = some (some (.builtin "object.__setattr__"))) ∧ (PySem.W.subIn K (.ref (v_C_NotStanding K)) (.type "BaseException") = some true) ∧ (PySem.W.typeIn K (.ref (v_C_NotStanding K)) = some (.type "type")) ∧ (PySem.W.keepIn K (.ref (v_C_NotStanding K)) = true)
instance iP21 (K : PySem.W.Frag) : Decidable (P21 K) := by unfold P21; infer_instance
def P22 (K : PySem.W.Frag) : Prop := (PySem.W.findIn K (.ref (v_C_NotStanding K)) "__init__" = some (some (.ref (v_I_NotStanding K)))) ∧ (PySem.W.typeIn K (.ref (v_I_NotStanding K)) = some (.type "function")) ∧ (PySem.W.keepIn K (.ref (v_I_NotStanding K)) = true) ∧ (PySem.W.findIn K (.ref (v_C_NotStanding K)) "mechanism" = some none) ∧ (excVe K (v_C_BadPalette K) = true) ∧ (PySem.W.findIn K (.ref (v_C_BadPalette K)) "__setattr__" = some (some (.builtin "object.__setattr__"))) ∧ (PySem.W.subIn K (.ref (v_C_BadPalette K)) (.type "BaseException") = some true) ∧ (PySem.W.typeIn K (.ref (v_C_BadPalette K)) = some (.type "type")) ∧ (PySem.W.keepIn K (.ref (v_C_BadPalette K)) = true) ∧ (PySem.W.findIn K (.ref (v_C_BadPalette K)) "__init__" = some (some (.ref (v_I_BadPalette K))))
instance iP22 (K : PySem.W.Frag) : Decidable (P22 K) := by unfold P22; infer_instance
def P23 (K : PySem.W.Frag) : Prop := (PySem.W.typeIn K (.ref (v_I_BadPalette K)) = some (.type "function")) ∧ (PySem.W.keepIn K (.ref (v_I_BadPalette K)) = true) ∧ (PySem.W.findIn K (.ref (v_C_BadPalette K)) "what" = some none) ∧ (excVe K (v_C_BadMix K) = true) ∧ (PySem.W.findIn K (.ref (v_C_BadMix K)) "__setattr__" = some (some (.builtin "object.__setattr__"))) ∧ (PySem.W.subIn K (.ref (v_C_BadMix K)) (.type "BaseException") = some true) ∧ (PySem.W.typeIn K (.ref (v_C_BadMix K)) = some (.type "type")) ∧ (PySem.W.keepIn K (.ref (v_C_BadMix K)) = true) ∧ (PySem.W.findIn K (.ref (v_C_BadMix K)) "__init__" = some (some (.ref (v_I_BadMix K)))) ∧ (PySem.W.typeIn K (.ref (v_I_BadMix K)) = some (.type "function"))
instance iP23 (K : PySem.W.Frag) : Decidable (P23 K) := by unfold P23; infer_instance
def P24 (K : PySem.W.Frag) : Prop := (PySem.W.keepIn K (.ref (v_I_BadMix K)) = true) ∧ (excVe K (v_C_BadRows K) = true) ∧ (PySem.W.findIn K (.ref (v_C_BadRows K)) "__setattr__" = some (some (.builtin "object.__setattr__"))) ∧ (PySem.W.subIn K (.ref (v_C_BadRows K)) (.type "BaseException") = some true) ∧ (PySem.W.typeIn K (.ref (v_C_BadRows K)) = some (.type "type")) ∧ (PySem.W.keepIn K (.ref (v_C_BadRows K)) = true) ∧ (PySem.W.findIn K (.ref (v_C_BadRows K)) "__init__" = some (some (.ref (v_I_BadRows K)))) ∧ (PySem.W.typeIn K (.ref (v_I_BadRows K)) = some (.type "function")) ∧ (PySem.W.keepIn K (.ref (v_I_BadRows K)) = true) ∧ (excVe K (v_C_BadCart K) = true)
instance iP24 (K : PySem.W.Frag) : Decidable (P24 K) := by unfold P24; infer_instance
def P25 (K : PySem.W.Frag) : Prop := (PySem.W.findIn K (.ref (v_C_BadCart K)) "__setattr__" = some (some (.builtin "object.__setattr__"))) ∧ (PySem.W.subIn K (.ref (v_C_BadCart K)) (.type "BaseException") = some true) ∧ (PySem.W.typeIn K (.ref (v_C_BadCart K)) = some (.type "type")) ∧ (PySem.W.keepIn K (.ref (v_C_BadCart K)) = true) ∧ (PySem.W.findIn K (.ref (v_C_BadCart K)) "__init__" = some (some (.ref (v_I_BadCart K)))) ∧ (PySem.W.typeIn K (.ref (v_I_BadCart K)) = some (.type "function")) ∧ (PySem.W.keepIn K (.ref (v_I_BadCart K)) = true) ∧ (PySem.W.findIn K (.ref (v_C_BadCart K)) "what" = some none) ∧ (excVe K (v_C_BadRule K) = true) ∧ (PySem.W.findIn K (.ref (v_C_BadRule K)) "__setattr__" = some (some (.builtin "object.__setattr__")))
instance iP25 (K : PySem.W.Frag) : Decidable (P25 K) := by unfold P25; infer_instance
def P26 (K : PySem.W.Frag) : Prop := (PySem.W.subIn K (.ref (v_C_BadRule K)) (.type "BaseException") = some true) ∧ (PySem.W.typeIn K (.ref (v_C_BadRule K)) = some (.type "type")) ∧ (PySem.W.keepIn K (.ref (v_C_BadRule K)) = true) ∧ (PySem.W.findIn K (.ref (v_C_BadRule K)) "__init__" = some (some (.ref (v_I_BadRule K)))) ∧ (PySem.W.typeIn K (.ref (v_I_BadRule K)) = some (.type "function")) ∧ (PySem.W.keepIn K (.ref (v_I_BadRule K)) = true) ∧ (PySem.W.findIn K (.ref (v_C_BadRule K)) "what" = some none) ∧ (PySem.W.findIn K (.ref (v_C_BadRule K)) "index" = some none) ∧ (excVe K (v_C_NoCart K) = true) ∧ (PySem.W.findIn K (.ref (v_C_NoCart K)) "__setattr__" = some (some (.builtin "object.__setattr__")))
instance iP26 (K : PySem.W.Frag) : Decidable (P26 K) := by unfold P26; infer_instance
def P27 (K : PySem.W.Frag) : Prop := (PySem.W.subIn K (.ref (v_C_NoCart K)) (.type "BaseException") = some true) ∧ (PySem.W.typeIn K (.ref (v_C_NoCart K)) = some (.type "type")) ∧ (PySem.W.keepIn K (.ref (v_C_NoCart K)) = true) ∧ (PySem.W.findIn K (.ref (v_C_NoCart K)) "__init__" = some (some (.ref (v_I_NoCart K)))) ∧ (PySem.W.typeIn K (.ref (v_I_NoCart K)) = some (.type "function")) ∧ (PySem.W.keepIn K (.ref (v_I_NoCart K)) = true) ∧ (PySem.W.findIn K (.ref (v_C_NoCart K)) "name" = some none) ∧ (excVe K (v_C_BadRoad K) = true) ∧ (PySem.W.findIn K (.ref (v_C_BadRoad K)) "__setattr__" = some (some (.builtin "object.__setattr__"))) ∧ (PySem.W.subIn K (.ref (v_C_BadRoad K)) (.type "BaseException") = some true)
instance iP27 (K : PySem.W.Frag) : Decidable (P27 K) := by unfold P27; infer_instance
def P28 (K : PySem.W.Frag) : Prop := (PySem.W.typeIn K (.ref (v_C_BadRoad K)) = some (.type "type")) ∧ (PySem.W.keepIn K (.ref (v_C_BadRoad K)) = true) ∧ (PySem.W.findIn K (.ref (v_C_BadRoad K)) "__init__" = some (some (.ref (v_I_BadRoad K)))) ∧ (PySem.W.typeIn K (.ref (v_I_BadRoad K)) = some (.type "function")) ∧ (PySem.W.keepIn K (.ref (v_I_BadRoad K)) = true) ∧ (PySem.W.findIn K (.ref (v_C_BadRoad K)) "what" = some none) ∧ (excVe K (v_C_NoLane K) = true) ∧ (PySem.W.findIn K (.ref (v_C_NoLane K)) "__setattr__" = some (some (.builtin "object.__setattr__"))) ∧ (PySem.W.subIn K (.ref (v_C_NoLane K)) (.type "BaseException") = some true) ∧ (PySem.W.typeIn K (.ref (v_C_NoLane K)) = some (.type "type"))
instance iP28 (K : PySem.W.Frag) : Decidable (P28 K) := by unfold P28; infer_instance
def P29 (K : PySem.W.Frag) : Prop := (PySem.W.keepIn K (.ref (v_C_NoLane K)) = true) ∧ (PySem.W.findIn K (.ref (v_C_NoLane K)) "__init__" = some (some (.ref (v_I_NoLane K)))) ∧ (PySem.W.typeIn K (.ref (v_I_NoLane K)) = some (.type "function")) ∧ (PySem.W.keepIn K (.ref (v_I_NoLane K)) = true) ∧ (PySem.W.findIn K (.ref (v_C_NoLane K)) "lane" = some none) ∧ (excVe K (v_C_BadLimit K) = true) ∧ (PySem.W.findIn K (.ref (v_C_BadLimit K)) "__setattr__" = some (some (.builtin "object.__setattr__"))) ∧ (PySem.W.subIn K (.ref (v_C_BadLimit K)) (.type "BaseException") = some true) ∧ (PySem.W.typeIn K (.ref (v_C_BadLimit K)) = some (.type "type")) ∧ (PySem.W.keepIn K (.ref (v_C_BadLimit K)) = true)
instance iP29 (K : PySem.W.Frag) : Decidable (P29 K) := by unfold P29; infer_instance
def P30 (K : PySem.W.Frag) : Prop := (PySem.W.findIn K (.ref (v_C_BadLimit K)) "__init__" = some (some (.ref (v_I_BadLimit K)))) ∧ (PySem.W.typeIn K (.ref (v_I_BadLimit K)) = some (.type "function")) ∧ (PySem.W.keepIn K (.ref (v_I_BadLimit K)) = true) ∧ (PySem.W.findIn K (.ref (v_C_BadLimit K)) "what" = some none) ∧ (excVe K (v_C_NotSafe K) = true) ∧ (PySem.W.findIn K (.ref (v_C_NotSafe K)) "__setattr__" = some (some (.builtin "object.__setattr__"))) ∧ (PySem.W.subIn K (.ref (v_C_NotSafe K)) (.type "BaseException") = some true) ∧ (PySem.W.typeIn K (.ref (v_C_NotSafe K)) = some (.type "type")) ∧ (PySem.W.keepIn K (.ref (v_C_NotSafe K)) = true) ∧ (PySem.W.findIn K (.ref (v_C_NotSafe K)) "__init__" = some (some (.ref (v_I_NotSafe K))))
instance iP30 (K : PySem.W.Frag) : Decidable (P30 K) := by unfold P30; infer_instance
def P31 (K : PySem.W.Frag) : Prop := (PySem.W.typeIn K (.ref (v_I_NotSafe K)) = some (.type "function")) ∧ (PySem.W.keepIn K (.ref (v_I_NotSafe K)) = true) ∧ (PySem.W.findIn K (.ref (v_C_NotSafe K)) "mechanism" = some none) ∧ (excVe K (v_C_BadYard K) = true) ∧ (PySem.W.findIn K (.ref (v_C_BadYard K)) "__setattr__" = some (some (.builtin "object.__setattr__"))) ∧ (PySem.W.subIn K (.ref (v_C_BadYard K)) (.type "BaseException") = some true) ∧ (PySem.W.typeIn K (.ref (v_C_BadYard K)) = some (.type "type")) ∧ (PySem.W.keepIn K (.ref (v_C_BadYard K)) = true) ∧ (PySem.W.findIn K (.ref (v_C_BadYard K)) "__init__" = some (some (.ref (v_I_BadYard K)))) ∧ (PySem.W.typeIn K (.ref (v_I_BadYard K)) = some (.type "function"))
instance iP31 (K : PySem.W.Frag) : Decidable (P31 K) := by unfold P31; infer_instance
def P32 (K : PySem.W.Frag) : Prop := (PySem.W.keepIn K (.ref (v_I_BadYard K)) = true) ∧ (PySem.W.findIn K (.ref (v_C_BadYard K)) "what" = some none) ∧ (excVe K (v_C_BadStage K) = true) ∧ (PySem.W.findIn K (.ref (v_C_BadStage K)) "__setattr__" = some (some (.builtin "object.__setattr__"))) ∧ (PySem.W.subIn K (.ref (v_C_BadStage K)) (.type "BaseException") = some true) ∧ (PySem.W.typeIn K (.ref (v_C_BadStage K)) = some (.type "type")) ∧ (PySem.W.keepIn K (.ref (v_C_BadStage K)) = true) ∧ (PySem.W.findIn K (.ref (v_C_BadStage K)) "__init__" = some (some (.ref (v_I_BadStage K)))) ∧ (PySem.W.typeIn K (.ref (v_I_BadStage K)) = some (.type "function")) ∧ (PySem.W.keepIn K (.ref (v_I_BadStage K)) = true)
instance iP32 (K : PySem.W.Frag) : Decidable (P32 K) := by unfold P32; infer_instance
def P33 (K : PySem.W.Frag) : Prop := (excVe K (v_C_BadChange K) = true) ∧ (PySem.W.findIn K (.ref (v_C_BadChange K)) "__setattr__" = some (some (.builtin "object.__setattr__"))) ∧ (PySem.W.subIn K (.ref (v_C_BadChange K)) (.type "BaseException") = some true) ∧ (PySem.W.typeIn K (.ref (v_C_BadChange K)) = some (.type "type")) ∧ (PySem.W.keepIn K (.ref (v_C_BadChange K)) = true) ∧ (PySem.W.findIn K (.ref (v_C_BadChange K)) "__init__" = some (some (.ref (v_I_BadChange K)))) ∧ (PySem.W.typeIn K (.ref (v_I_BadChange K)) = some (.type "function")) ∧ (PySem.W.keepIn K (.ref (v_I_BadChange K)) = true) ∧ (PySem.W.findIn K (.ref (v_C_BadChange K)) "what" = some none) ∧ (excVe K (v_C_NoChange K) = true)
instance iP33 (K : PySem.W.Frag) : Decidable (P33 K) := by unfold P33; infer_instance
def P34 (K : PySem.W.Frag) : Prop := (PySem.W.findIn K (.ref (v_C_NoChange K)) "__setattr__" = some (some (.builtin "object.__setattr__"))) ∧ (PySem.W.subIn K (.ref (v_C_NoChange K)) (.type "BaseException") = some true) ∧ (PySem.W.typeIn K (.ref (v_C_NoChange K)) = some (.type "type")) ∧ (PySem.W.keepIn K (.ref (v_C_NoChange K)) = true) ∧ (PySem.W.findIn K (.ref (v_C_NoChange K)) "__init__" = some (some (.ref (v_I_NoChange K)))) ∧ (PySem.W.typeIn K (.ref (v_I_NoChange K)) = some (.type "function")) ∧ (PySem.W.keepIn K (.ref (v_I_NoChange K)) = true) ∧ (PySem.W.findIn K (.ref (v_C_NoChange K)) "number" = some none) ∧ (excVe K (v_C_BadRow K) = true) ∧ (PySem.W.findIn K (.ref (v_C_BadRow K)) "__setattr__" = some (some (.builtin "object.__setattr__")))
instance iP34 (K : PySem.W.Frag) : Decidable (P34 K) := by unfold P34; infer_instance
def P35 (K : PySem.W.Frag) : Prop := (PySem.W.subIn K (.ref (v_C_BadRow K)) (.type "BaseException") = some true) ∧ (PySem.W.typeIn K (.ref (v_C_BadRow K)) = some (.type "type")) ∧ (PySem.W.keepIn K (.ref (v_C_BadRow K)) = true) ∧ (PySem.W.findIn K (.ref (v_C_BadRow K)) "__init__" = some (some (.ref (v_I_BadRow K)))) ∧ (PySem.W.typeIn K (.ref (v_I_BadRow K)) = some (.type "function")) ∧ (PySem.W.keepIn K (.ref (v_I_BadRow K)) = true) ∧ (PySem.W.findIn K (.ref (v_C_BadRow K)) "row" = some none) ∧ (PySem.W.findIn K (.ref (v_C_BadRow K)) "what" = some none) ∧ (PySem.W.subIn K (.ref (v_C_NoPart K)) (.type "BaseException") = some true) ∧ (PySem.W.hasDictIn K (v_C_NoPart K) = true)
instance iP35 (K : PySem.W.Frag) : Decidable (P35 K) := by unfold P35; infer_instance
def P36 (K : PySem.W.Frag) : Prop := (PySem.W.typeIn K (.ref (v_C_NoPart K)) = some (.type "type")) ∧ (PySem.W.subIn K (.ref (v_C_BridgeError K)) (.ref (v_C_NoPart K)) = some false) ∧ (PySem.W.subIn K (.ref (v_C_BadRatio K)) (.ref (v_C_NoPart K)) = some false) ∧ (PySem.W.subIn K (.ref (v_C_BadForce K)) (.ref (v_C_NoPart K)) = some false) ∧ (PySem.W.subIn K (.ref (v_C_BadLoad K)) (.ref (v_C_NoPart K)) = some false) ∧ (PySem.W.subIn K (.ref (v_C_OtherSize K)) (.ref (v_C_NoPart K)) = some false) ∧ (PySem.W.subIn K (.ref (v_C_NoStone K)) (.ref (v_C_NoPart K)) = some false) ∧ (PySem.W.subIn K (.ref (v_C_NoJoint K)) (.ref (v_C_NoPart K)) = some false) ∧ (PySem.W.subIn K (.ref (v_C_NoCorner K)) (.ref (v_C_NoPart K)) = some false) ∧ (PySem.W.subIn K (.ref (v_C_BadBridge K)) (.ref (v_C_NoPart K)) = some false)
instance iP36 (K : PySem.W.Frag) : Decidable (P36 K) := by unfold P36; infer_instance
def P37 (K : PySem.W.Frag) : Prop := (PySem.W.subIn K (.ref (v_C_NoPart K)) (.ref (v_C_NoPart K)) = some true) ∧ (PySem.W.subIn K (.ref (v_C_BadRing K)) (.ref (v_C_NoPart K)) = some false) ∧ (PySem.W.subIn K (.ref (v_C_BadCut K)) (.ref (v_C_NoPart K)) = some false) ∧ (PySem.W.subIn K (.ref (v_C_BadThrust K)) (.ref (v_C_NoPart K)) = some false) ∧ (PySem.W.subIn K (.ref (v_C_BadCorners K)) (.ref (v_C_NoPart K)) = some false) ∧ (PySem.W.subIn K (.ref (v_C_InLine K)) (.ref (v_C_NoPart K)) = some false) ∧ (PySem.W.subIn K (.ref (v_C_BadMotion K)) (.ref (v_C_NoPart K)) = some false) ∧ (PySem.W.subIn K (.ref (v_C_BadWeights K)) (.ref (v_C_NoPart K)) = some false) ∧ (PySem.W.subIn K (.ref (v_C_Unbalanced K)) (.ref (v_C_NoPart K)) = some false) ∧ (PySem.W.subIn K (.ref (v_C_NotStanding K)) (.ref (v_C_NoPart K)) = some false)
instance iP37 (K : PySem.W.Frag) : Decidable (P37 K) := by unfold P37; infer_instance
def P38 (K : PySem.W.Frag) : Prop := (PySem.W.subIn K (.ref (v_C_BadPalette K)) (.ref (v_C_NoPart K)) = some false) ∧ (PySem.W.subIn K (.ref (v_C_BadMix K)) (.ref (v_C_NoPart K)) = some false) ∧ (PySem.W.subIn K (.ref (v_C_BadRows K)) (.ref (v_C_NoPart K)) = some false) ∧ (PySem.W.subIn K (.ref (v_C_BadCart K)) (.ref (v_C_NoPart K)) = some false) ∧ (PySem.W.subIn K (.ref (v_C_BadRule K)) (.ref (v_C_NoPart K)) = some false) ∧ (PySem.W.subIn K (.ref (v_C_NoCart K)) (.ref (v_C_NoPart K)) = some false) ∧ (PySem.W.subIn K (.ref (v_C_BadRoad K)) (.ref (v_C_NoPart K)) = some false) ∧ (PySem.W.subIn K (.ref (v_C_NoLane K)) (.ref (v_C_NoPart K)) = some false) ∧ (PySem.W.subIn K (.ref (v_C_BadLimit K)) (.ref (v_C_NoPart K)) = some false) ∧ (PySem.W.subIn K (.ref (v_C_NotSafe K)) (.ref (v_C_NoPart K)) = some false)
instance iP38 (K : PySem.W.Frag) : Decidable (P38 K) := by unfold P38; infer_instance
def P39 (K : PySem.W.Frag) : Prop := (PySem.W.subIn K (.ref (v_C_BadYard K)) (.ref (v_C_NoPart K)) = some false) ∧ (PySem.W.subIn K (.ref (v_C_BadStage K)) (.ref (v_C_NoPart K)) = some false) ∧ (PySem.W.subIn K (.ref (v_C_BadChange K)) (.ref (v_C_NoPart K)) = some false) ∧ (PySem.W.subIn K (.ref (v_C_NoChange K)) (.ref (v_C_NoPart K)) = some false) ∧ (PySem.W.subIn K (.ref (v_C_BadRow K)) (.ref (v_C_NoPart K)) = some false) ∧ (PySem.W.subIn K (.ref (v_C_BridgeError K)) (.type "BaseException") = some true) ∧ (PySem.W.hasDictIn K (v_C_BridgeError K) = true) ∧ (PySem.W.typeIn K (.ref (v_C_BridgeError K)) = some (.type "type")) ∧ (PySem.W.subIn K (.ref (v_C_BridgeError K)) (.ref (v_C_BridgeError K)) = some true) ∧ (PySem.W.subIn K (.ref (v_C_BadRatio K)) (.ref (v_C_BridgeError K)) = some true)
instance iP39 (K : PySem.W.Frag) : Decidable (P39 K) := by unfold P39; infer_instance
def P40 (K : PySem.W.Frag) : Prop := (PySem.W.subIn K (.ref (v_C_BadForce K)) (.ref (v_C_BridgeError K)) = some true) ∧ (PySem.W.subIn K (.ref (v_C_BadLoad K)) (.ref (v_C_BridgeError K)) = some true) ∧ (PySem.W.subIn K (.ref (v_C_OtherSize K)) (.ref (v_C_BridgeError K)) = some true) ∧ (PySem.W.subIn K (.ref (v_C_NoStone K)) (.ref (v_C_BridgeError K)) = some true) ∧ (PySem.W.subIn K (.ref (v_C_NoJoint K)) (.ref (v_C_BridgeError K)) = some true) ∧ (PySem.W.subIn K (.ref (v_C_NoCorner K)) (.ref (v_C_BridgeError K)) = some true) ∧ (PySem.W.subIn K (.ref (v_C_BadBridge K)) (.ref (v_C_BridgeError K)) = some true) ∧ (PySem.W.subIn K (.ref (v_C_NoPart K)) (.ref (v_C_BridgeError K)) = some true) ∧ (PySem.W.subIn K (.ref (v_C_BadRing K)) (.ref (v_C_BridgeError K)) = some true) ∧ (PySem.W.subIn K (.ref (v_C_BadCut K)) (.ref (v_C_BridgeError K)) = some true)
instance iP40 (K : PySem.W.Frag) : Decidable (P40 K) := by unfold P40; infer_instance
def P41 (K : PySem.W.Frag) : Prop := (PySem.W.subIn K (.ref (v_C_BadThrust K)) (.ref (v_C_BridgeError K)) = some true) ∧ (PySem.W.subIn K (.ref (v_C_BadCorners K)) (.ref (v_C_BridgeError K)) = some true) ∧ (PySem.W.subIn K (.ref (v_C_InLine K)) (.ref (v_C_BridgeError K)) = some true) ∧ (PySem.W.subIn K (.ref (v_C_BadMotion K)) (.ref (v_C_BridgeError K)) = some true) ∧ (PySem.W.subIn K (.ref (v_C_BadWeights K)) (.ref (v_C_BridgeError K)) = some true) ∧ (PySem.W.subIn K (.ref (v_C_Unbalanced K)) (.ref (v_C_BridgeError K)) = some true) ∧ (PySem.W.subIn K (.ref (v_C_NotStanding K)) (.ref (v_C_BridgeError K)) = some true) ∧ (PySem.W.subIn K (.ref (v_C_BadPalette K)) (.ref (v_C_BridgeError K)) = some true) ∧ (PySem.W.subIn K (.ref (v_C_BadMix K)) (.ref (v_C_BridgeError K)) = some true) ∧ (PySem.W.subIn K (.ref (v_C_BadRows K)) (.ref (v_C_BridgeError K)) = some true)
instance iP41 (K : PySem.W.Frag) : Decidable (P41 K) := by unfold P41; infer_instance
def P42 (K : PySem.W.Frag) : Prop := (PySem.W.subIn K (.ref (v_C_BadCart K)) (.ref (v_C_BridgeError K)) = some true) ∧ (PySem.W.subIn K (.ref (v_C_BadRule K)) (.ref (v_C_BridgeError K)) = some true) ∧ (PySem.W.subIn K (.ref (v_C_NoCart K)) (.ref (v_C_BridgeError K)) = some true) ∧ (PySem.W.subIn K (.ref (v_C_BadRoad K)) (.ref (v_C_BridgeError K)) = some true) ∧ (PySem.W.subIn K (.ref (v_C_NoLane K)) (.ref (v_C_BridgeError K)) = some true) ∧ (PySem.W.subIn K (.ref (v_C_BadLimit K)) (.ref (v_C_BridgeError K)) = some true) ∧ (PySem.W.subIn K (.ref (v_C_NotSafe K)) (.ref (v_C_BridgeError K)) = some true) ∧ (PySem.W.subIn K (.ref (v_C_BadYard K)) (.ref (v_C_BridgeError K)) = some true) ∧ (PySem.W.subIn K (.ref (v_C_BadStage K)) (.ref (v_C_BridgeError K)) = some true) ∧ (PySem.W.subIn K (.ref (v_C_BadChange K)) (.ref (v_C_BridgeError K)) = some true)
instance iP42 (K : PySem.W.Frag) : Decidable (P42 K) := by unfold P42; infer_instance
def P43 (K : PySem.W.Frag) : Prop := (PySem.W.subIn K (.ref (v_C_NoChange K)) (.ref (v_C_BridgeError K)) = some true) ∧ (PySem.W.subIn K (.ref (v_C_BadRow K)) (.ref (v_C_BridgeError K)) = some true) ∧ (mroL K (v_C_BridgeError K) = some [.ref (v_C_BridgeError K), .type "ValueError", .type "Exception", .type "BaseException", .type "object"]) ∧ (mroL K (v_C_BadRatio K) = some [.ref (v_C_BadRatio K), .ref (v_C_BridgeError K), .type "ValueError", .type "Exception", .type "BaseException", .type "object"]) ∧ (mroL K (v_C_BadForce K) = some [.ref (v_C_BadForce K), .ref (v_C_BridgeError K), .type "ValueError", .type "Exception", .type "BaseException", .type "object"]) ∧ (mroL K (v_C_BadLoad K) = some [.ref (v_C_BadLoad K), .ref (v_C_BridgeError K), .type "ValueError", .type "Exception", .type "BaseException", .type "object"]) ∧ (mroL K (v_C_OtherSize K) = some [.ref (v_C_OtherSize K), .ref (v_C_BridgeError K), .type "ValueError", .type "Exception", .type "BaseException", .type "object"]) ∧ (mroL K (v_C_NoStone K) = some [.ref (v_C_NoStone K), .ref (v_C_BridgeError K), .type "ValueError", .type "Exception", .type "BaseException", .type "object"]) ∧ (mroL K (v_C_NoJoint K) = some [.ref (v_C_NoJoint K), .ref (v_C_BridgeError K), .type "ValueError", .type "Exception", .type "BaseException", .type "object"]) ∧ (mroL K (v_C_NoCorner K) = some [.ref (v_C_NoCorner K), .ref (v_C_BridgeError K), .type "ValueError", .type "Exception", .type "BaseException", .type "object"])
instance iP43 (K : PySem.W.Frag) : Decidable (P43 K) := by unfold P43; infer_instance
def P44 (K : PySem.W.Frag) : Prop := (mroL K (v_C_BadBridge K) = some [.ref (v_C_BadBridge K), .ref (v_C_BridgeError K), .type "ValueError", .type "Exception", .type "BaseException", .type "object"]) ∧ (mroL K (v_C_NoPart K) = some [.ref (v_C_NoPart K), .ref (v_C_BridgeError K), .type "ValueError", .type "Exception", .type "BaseException", .type "object"]) ∧ (mroL K (v_C_BadRing K) = some [.ref (v_C_BadRing K), .ref (v_C_BridgeError K), .type "ValueError", .type "Exception", .type "BaseException", .type "object"]) ∧ (mroL K (v_C_BadCut K) = some [.ref (v_C_BadCut K), .ref (v_C_BridgeError K), .type "ValueError", .type "Exception", .type "BaseException", .type "object"]) ∧ (mroL K (v_C_BadThrust K) = some [.ref (v_C_BadThrust K), .ref (v_C_BridgeError K), .type "ValueError", .type "Exception", .type "BaseException", .type "object"]) ∧ (mroL K (v_C_BadCorners K) = some [.ref (v_C_BadCorners K), .ref (v_C_BridgeError K), .type "ValueError", .type "Exception", .type "BaseException", .type "object"]) ∧ (mroL K (v_C_InLine K) = some [.ref (v_C_InLine K), .ref (v_C_BridgeError K), .type "ValueError", .type "Exception", .type "BaseException", .type "object"]) ∧ (mroL K (v_C_BadMotion K) = some [.ref (v_C_BadMotion K), .ref (v_C_BridgeError K), .type "ValueError", .type "Exception", .type "BaseException", .type "object"]) ∧ (mroL K (v_C_BadWeights K) = some [.ref (v_C_BadWeights K), .ref (v_C_BridgeError K), .type "ValueError", .type "Exception", .type "BaseException", .type "object"]) ∧ (mroL K (v_C_Unbalanced K) = some [.ref (v_C_Unbalanced K), .ref (v_C_BridgeError K), .type "ValueError", .type "Exception", .type "BaseException", .type "object"])
instance iP44 (K : PySem.W.Frag) : Decidable (P44 K) := by unfold P44; infer_instance
def P45 (K : PySem.W.Frag) : Prop := (mroL K (v_C_NotStanding K) = some [.ref (v_C_NotStanding K), .ref (v_C_BridgeError K), .type "ValueError", .type "Exception", .type "BaseException", .type "object"]) ∧ (mroL K (v_C_BadPalette K) = some [.ref (v_C_BadPalette K), .ref (v_C_BridgeError K), .type "ValueError", .type "Exception", .type "BaseException", .type "object"]) ∧ (mroL K (v_C_BadMix K) = some [.ref (v_C_BadMix K), .ref (v_C_BridgeError K), .type "ValueError", .type "Exception", .type "BaseException", .type "object"]) ∧ (mroL K (v_C_BadRows K) = some [.ref (v_C_BadRows K), .ref (v_C_BridgeError K), .type "ValueError", .type "Exception", .type "BaseException", .type "object"]) ∧ (mroL K (v_C_BadCart K) = some [.ref (v_C_BadCart K), .ref (v_C_BridgeError K), .type "ValueError", .type "Exception", .type "BaseException", .type "object"]) ∧ (mroL K (v_C_BadRule K) = some [.ref (v_C_BadRule K), .ref (v_C_BridgeError K), .type "ValueError", .type "Exception", .type "BaseException", .type "object"]) ∧ (mroL K (v_C_NoCart K) = some [.ref (v_C_NoCart K), .ref (v_C_BridgeError K), .type "ValueError", .type "Exception", .type "BaseException", .type "object"]) ∧ (mroL K (v_C_BadRoad K) = some [.ref (v_C_BadRoad K), .ref (v_C_BridgeError K), .type "ValueError", .type "Exception", .type "BaseException", .type "object"]) ∧ (mroL K (v_C_NoLane K) = some [.ref (v_C_NoLane K), .ref (v_C_BridgeError K), .type "ValueError", .type "Exception", .type "BaseException", .type "object"]) ∧ (mroL K (v_C_BadLimit K) = some [.ref (v_C_BadLimit K), .ref (v_C_BridgeError K), .type "ValueError", .type "Exception", .type "BaseException", .type "object"])
instance iP45 (K : PySem.W.Frag) : Decidable (P45 K) := by unfold P45; infer_instance
def P46 (K : PySem.W.Frag) : Prop := (mroL K (v_C_NotSafe K) = some [.ref (v_C_NotSafe K), .ref (v_C_BridgeError K), .type "ValueError", .type "Exception", .type "BaseException", .type "object"]) ∧ (mroL K (v_C_BadYard K) = some [.ref (v_C_BadYard K), .ref (v_C_BridgeError K), .type "ValueError", .type "Exception", .type "BaseException", .type "object"]) ∧ (mroL K (v_C_BadStage K) = some [.ref (v_C_BadStage K), .ref (v_C_BridgeError K), .type "ValueError", .type "Exception", .type "BaseException", .type "object"]) ∧ (mroL K (v_C_BadChange K) = some [.ref (v_C_BadChange K), .ref (v_C_BridgeError K), .type "ValueError", .type "Exception", .type "BaseException", .type "object"]) ∧ (mroL K (v_C_NoChange K) = some [.ref (v_C_NoChange K), .ref (v_C_BridgeError K), .type "ValueError", .type "Exception", .type "BaseException", .type "object"]) ∧ (mroL K (v_C_BadRow K) = some [.ref (v_C_BadRow K), .ref (v_C_BridgeError K), .type "ValueError", .type "Exception", .type "BaseException", .type "object"]) ∧ ([(v_C_BridgeError K), (v_C_BadRatio K), (v_C_BadForce K), (v_C_BadLoad K), (v_C_OtherSize K), (v_C_NoStone K), (v_C_NoJoint K), (v_C_NoCorner K), (v_C_BadBridge K), (v_C_NoPart K), (v_C_BadRing K), (v_C_BadCut K), (v_C_BadThrust K), (v_C_BadCorners K), (v_C_InLine K), (v_C_BadMotion K), (v_C_BadWeights K), (v_C_Unbalanced K), (v_C_NotStanding K), (v_C_BadPalette K), (v_C_BadMix K), (v_C_BadRows K), (v_C_BadCart K), (v_C_BadRule K), (v_C_NoCart K), (v_C_BadRoad K), (v_C_NoLane K), (v_C_BadLimit K), (v_C_NotSafe K), (v_C_BadYard K), (v_C_BadStage K), (v_C_BadChange K), (v_C_NoChange K), (v_C_BadRow K)].Nodup) ∧ (PySem.W.findIn K (.ref (v_C_BridgeError K)) "__getattribute__" = some (some (.builtin "BaseException.__getattribute__"))) ∧ (PySem.W.findIn K (.ref (v_C_BridgeError K)) "__getattr__" = some none) ∧ (PySem.W.subIn K (.ref (v_C_BridgeError K)) (.type "BaseException") = some true)
instance iP46 (K : PySem.W.Frag) : Decidable (P46 K) := by unfold P46; infer_instance
def P47 (K : PySem.W.Frag) : Prop := (PySem.W.hasDictIn K (v_C_BridgeError K) = true) ∧ (PySem.W.findIn K (.ref (v_C_BridgeError K)) "__class__" = some (some (.builtin "object.__class__"))) ∧ (PySem.W.specialIn K (.builtin "object.__class__") "__get__" = some (some (.builtin "getset_descriptor.__get__"))) ∧ (PySem.W.takesIn K (.builtin "object.__class__") = some true) ∧ (PySem.W.mroIn K (v_C_BridgeError K) (.type "object") = some true) ∧ (PySem.W.findIn K (.ref (v_C_BadRatio K)) "__getattribute__" = some (some (.builtin "BaseException.__getattribute__"))) ∧ (PySem.W.findIn K (.ref (v_C_BadRatio K)) "__getattr__" = some none) ∧ (PySem.W.subIn K (.ref (v_C_BadRatio K)) (.type "BaseException") = some true) ∧ (PySem.W.hasDictIn K (v_C_BadRatio K) = true) ∧ (PySem.W.findIn K (.ref (v_C_BadRatio K)) "__class__" = some (some (.builtin "object.__class__")))
instance iP47 (K : PySem.W.Frag) : Decidable (P47 K) := by unfold P47; infer_instance
def P48 (K : PySem.W.Frag) : Prop := (PySem.W.specialIn K (.builtin "object.__class__") "__get__" = some (some (.builtin "getset_descriptor.__get__"))) ∧ (PySem.W.takesIn K (.builtin "object.__class__") = some true) ∧ (PySem.W.mroIn K (v_C_BadRatio K) (.type "object") = some true) ∧ (PySem.W.findIn K (.ref (v_C_BadForce K)) "__getattribute__" = some (some (.builtin "BaseException.__getattribute__"))) ∧ (PySem.W.findIn K (.ref (v_C_BadForce K)) "__getattr__" = some none) ∧ (PySem.W.subIn K (.ref (v_C_BadForce K)) (.type "BaseException") = some true) ∧ (PySem.W.hasDictIn K (v_C_BadForce K) = true) ∧ (PySem.W.findIn K (.ref (v_C_BadForce K)) "__class__" = some (some (.builtin "object.__class__"))) ∧ (PySem.W.specialIn K (.builtin "object.__class__") "__get__" = some (some (.builtin "getset_descriptor.__get__"))) ∧ (PySem.W.takesIn K (.builtin "object.__class__") = some true)
instance iP48 (K : PySem.W.Frag) : Decidable (P48 K) := by unfold P48; infer_instance
def P49 (K : PySem.W.Frag) : Prop := (PySem.W.mroIn K (v_C_BadForce K) (.type "object") = some true) ∧ (PySem.W.findIn K (.ref (v_C_BadLoad K)) "__getattribute__" = some (some (.builtin "BaseException.__getattribute__"))) ∧ (PySem.W.findIn K (.ref (v_C_BadLoad K)) "__getattr__" = some none) ∧ (PySem.W.subIn K (.ref (v_C_BadLoad K)) (.type "BaseException") = some true) ∧ (PySem.W.hasDictIn K (v_C_BadLoad K) = true) ∧ (PySem.W.findIn K (.ref (v_C_BadLoad K)) "__class__" = some (some (.builtin "object.__class__"))) ∧ (PySem.W.specialIn K (.builtin "object.__class__") "__get__" = some (some (.builtin "getset_descriptor.__get__"))) ∧ (PySem.W.takesIn K (.builtin "object.__class__") = some true) ∧ (PySem.W.mroIn K (v_C_BadLoad K) (.type "object") = some true) ∧ (PySem.W.findIn K (.ref (v_C_OtherSize K)) "__getattribute__" = some (some (.builtin "BaseException.__getattribute__")))
instance iP49 (K : PySem.W.Frag) : Decidable (P49 K) := by unfold P49; infer_instance
def P50 (K : PySem.W.Frag) : Prop := (PySem.W.findIn K (.ref (v_C_OtherSize K)) "__getattr__" = some none) ∧ (PySem.W.subIn K (.ref (v_C_OtherSize K)) (.type "BaseException") = some true) ∧ (PySem.W.hasDictIn K (v_C_OtherSize K) = true) ∧ (PySem.W.findIn K (.ref (v_C_OtherSize K)) "__class__" = some (some (.builtin "object.__class__"))) ∧ (PySem.W.specialIn K (.builtin "object.__class__") "__get__" = some (some (.builtin "getset_descriptor.__get__"))) ∧ (PySem.W.takesIn K (.builtin "object.__class__") = some true) ∧ (PySem.W.mroIn K (v_C_OtherSize K) (.type "object") = some true) ∧ (PySem.W.findIn K (.ref (v_C_NoStone K)) "__getattribute__" = some (some (.builtin "BaseException.__getattribute__"))) ∧ (PySem.W.findIn K (.ref (v_C_NoStone K)) "__getattr__" = some none) ∧ (PySem.W.subIn K (.ref (v_C_NoStone K)) (.type "BaseException") = some true)
instance iP50 (K : PySem.W.Frag) : Decidable (P50 K) := by unfold P50; infer_instance
def P51 (K : PySem.W.Frag) : Prop := (PySem.W.hasDictIn K (v_C_NoStone K) = true) ∧ (PySem.W.findIn K (.ref (v_C_NoStone K)) "__class__" = some (some (.builtin "object.__class__"))) ∧ (PySem.W.specialIn K (.builtin "object.__class__") "__get__" = some (some (.builtin "getset_descriptor.__get__"))) ∧ (PySem.W.takesIn K (.builtin "object.__class__") = some true) ∧ (PySem.W.mroIn K (v_C_NoStone K) (.type "object") = some true) ∧ (PySem.W.findIn K (.ref (v_C_NoJoint K)) "__getattribute__" = some (some (.builtin "BaseException.__getattribute__"))) ∧ (PySem.W.findIn K (.ref (v_C_NoJoint K)) "__getattr__" = some none) ∧ (PySem.W.subIn K (.ref (v_C_NoJoint K)) (.type "BaseException") = some true) ∧ (PySem.W.hasDictIn K (v_C_NoJoint K) = true) ∧ (PySem.W.findIn K (.ref (v_C_NoJoint K)) "__class__" = some (some (.builtin "object.__class__")))
instance iP51 (K : PySem.W.Frag) : Decidable (P51 K) := by unfold P51; infer_instance
def P52 (K : PySem.W.Frag) : Prop := (PySem.W.specialIn K (.builtin "object.__class__") "__get__" = some (some (.builtin "getset_descriptor.__get__"))) ∧ (PySem.W.takesIn K (.builtin "object.__class__") = some true) ∧ (PySem.W.mroIn K (v_C_NoJoint K) (.type "object") = some true) ∧ (PySem.W.findIn K (.ref (v_C_NoCorner K)) "__getattribute__" = some (some (.builtin "BaseException.__getattribute__"))) ∧ (PySem.W.findIn K (.ref (v_C_NoCorner K)) "__getattr__" = some none) ∧ (PySem.W.subIn K (.ref (v_C_NoCorner K)) (.type "BaseException") = some true) ∧ (PySem.W.hasDictIn K (v_C_NoCorner K) = true) ∧ (PySem.W.findIn K (.ref (v_C_NoCorner K)) "__class__" = some (some (.builtin "object.__class__"))) ∧ (PySem.W.specialIn K (.builtin "object.__class__") "__get__" = some (some (.builtin "getset_descriptor.__get__"))) ∧ (PySem.W.takesIn K (.builtin "object.__class__") = some true)
instance iP52 (K : PySem.W.Frag) : Decidable (P52 K) := by unfold P52; infer_instance
def P53 (K : PySem.W.Frag) : Prop := (PySem.W.mroIn K (v_C_NoCorner K) (.type "object") = some true) ∧ (PySem.W.findIn K (.ref (v_C_BadBridge K)) "__getattribute__" = some (some (.builtin "BaseException.__getattribute__"))) ∧ (PySem.W.findIn K (.ref (v_C_BadBridge K)) "__getattr__" = some none) ∧ (PySem.W.subIn K (.ref (v_C_BadBridge K)) (.type "BaseException") = some true) ∧ (PySem.W.hasDictIn K (v_C_BadBridge K) = true) ∧ (PySem.W.findIn K (.ref (v_C_BadBridge K)) "__class__" = some (some (.builtin "object.__class__"))) ∧ (PySem.W.specialIn K (.builtin "object.__class__") "__get__" = some (some (.builtin "getset_descriptor.__get__"))) ∧ (PySem.W.takesIn K (.builtin "object.__class__") = some true) ∧ (PySem.W.mroIn K (v_C_BadBridge K) (.type "object") = some true) ∧ (PySem.W.findIn K (.ref (v_C_NoPart K)) "__getattribute__" = some (some (.builtin "BaseException.__getattribute__")))
instance iP53 (K : PySem.W.Frag) : Decidable (P53 K) := by unfold P53; infer_instance
def P54 (K : PySem.W.Frag) : Prop := (PySem.W.findIn K (.ref (v_C_NoPart K)) "__getattr__" = some none) ∧ (PySem.W.subIn K (.ref (v_C_NoPart K)) (.type "BaseException") = some true) ∧ (PySem.W.hasDictIn K (v_C_NoPart K) = true) ∧ (PySem.W.findIn K (.ref (v_C_NoPart K)) "__class__" = some (some (.builtin "object.__class__"))) ∧ (PySem.W.specialIn K (.builtin "object.__class__") "__get__" = some (some (.builtin "getset_descriptor.__get__"))) ∧ (PySem.W.takesIn K (.builtin "object.__class__") = some true) ∧ (PySem.W.mroIn K (v_C_NoPart K) (.type "object") = some true) ∧ (PySem.W.findIn K (.ref (v_C_BadRing K)) "__getattribute__" = some (some (.builtin "BaseException.__getattribute__"))) ∧ (PySem.W.findIn K (.ref (v_C_BadRing K)) "__getattr__" = some none) ∧ (PySem.W.subIn K (.ref (v_C_BadRing K)) (.type "BaseException") = some true)
instance iP54 (K : PySem.W.Frag) : Decidable (P54 K) := by unfold P54; infer_instance
def P55 (K : PySem.W.Frag) : Prop := (PySem.W.hasDictIn K (v_C_BadRing K) = true) ∧ (PySem.W.findIn K (.ref (v_C_BadRing K)) "__class__" = some (some (.builtin "object.__class__"))) ∧ (PySem.W.specialIn K (.builtin "object.__class__") "__get__" = some (some (.builtin "getset_descriptor.__get__"))) ∧ (PySem.W.takesIn K (.builtin "object.__class__") = some true) ∧ (PySem.W.mroIn K (v_C_BadRing K) (.type "object") = some true) ∧ (PySem.W.findIn K (.ref (v_C_BadCut K)) "__getattribute__" = some (some (.builtin "BaseException.__getattribute__"))) ∧ (PySem.W.findIn K (.ref (v_C_BadCut K)) "__getattr__" = some none) ∧ (PySem.W.subIn K (.ref (v_C_BadCut K)) (.type "BaseException") = some true) ∧ (PySem.W.hasDictIn K (v_C_BadCut K) = true) ∧ (PySem.W.findIn K (.ref (v_C_BadCut K)) "__class__" = some (some (.builtin "object.__class__")))
instance iP55 (K : PySem.W.Frag) : Decidable (P55 K) := by unfold P55; infer_instance
def P56 (K : PySem.W.Frag) : Prop := (PySem.W.specialIn K (.builtin "object.__class__") "__get__" = some (some (.builtin "getset_descriptor.__get__"))) ∧ (PySem.W.takesIn K (.builtin "object.__class__") = some true) ∧ (PySem.W.mroIn K (v_C_BadCut K) (.type "object") = some true) ∧ (PySem.W.findIn K (.ref (v_C_BadThrust K)) "__getattribute__" = some (some (.builtin "BaseException.__getattribute__"))) ∧ (PySem.W.findIn K (.ref (v_C_BadThrust K)) "__getattr__" = some none) ∧ (PySem.W.subIn K (.ref (v_C_BadThrust K)) (.type "BaseException") = some true) ∧ (PySem.W.hasDictIn K (v_C_BadThrust K) = true) ∧ (PySem.W.findIn K (.ref (v_C_BadThrust K)) "__class__" = some (some (.builtin "object.__class__"))) ∧ (PySem.W.specialIn K (.builtin "object.__class__") "__get__" = some (some (.builtin "getset_descriptor.__get__"))) ∧ (PySem.W.takesIn K (.builtin "object.__class__") = some true)
instance iP56 (K : PySem.W.Frag) : Decidable (P56 K) := by unfold P56; infer_instance
def P57 (K : PySem.W.Frag) : Prop := (PySem.W.mroIn K (v_C_BadThrust K) (.type "object") = some true) ∧ (PySem.W.findIn K (.ref (v_C_BadCorners K)) "__getattribute__" = some (some (.builtin "BaseException.__getattribute__"))) ∧ (PySem.W.findIn K (.ref (v_C_BadCorners K)) "__getattr__" = some none) ∧ (PySem.W.subIn K (.ref (v_C_BadCorners K)) (.type "BaseException") = some true) ∧ (PySem.W.hasDictIn K (v_C_BadCorners K) = true) ∧ (PySem.W.findIn K (.ref (v_C_BadCorners K)) "__class__" = some (some (.builtin "object.__class__"))) ∧ (PySem.W.specialIn K (.builtin "object.__class__") "__get__" = some (some (.builtin "getset_descriptor.__get__"))) ∧ (PySem.W.takesIn K (.builtin "object.__class__") = some true) ∧ (PySem.W.mroIn K (v_C_BadCorners K) (.type "object") = some true) ∧ (PySem.W.findIn K (.ref (v_C_InLine K)) "__getattribute__" = some (some (.builtin "BaseException.__getattribute__")))
instance iP57 (K : PySem.W.Frag) : Decidable (P57 K) := by unfold P57; infer_instance
def P58 (K : PySem.W.Frag) : Prop := (PySem.W.findIn K (.ref (v_C_InLine K)) "__getattr__" = some none) ∧ (PySem.W.subIn K (.ref (v_C_InLine K)) (.type "BaseException") = some true) ∧ (PySem.W.hasDictIn K (v_C_InLine K) = true) ∧ (PySem.W.findIn K (.ref (v_C_InLine K)) "__class__" = some (some (.builtin "object.__class__"))) ∧ (PySem.W.specialIn K (.builtin "object.__class__") "__get__" = some (some (.builtin "getset_descriptor.__get__"))) ∧ (PySem.W.takesIn K (.builtin "object.__class__") = some true) ∧ (PySem.W.mroIn K (v_C_InLine K) (.type "object") = some true) ∧ (PySem.W.findIn K (.ref (v_C_BadMotion K)) "__getattribute__" = some (some (.builtin "BaseException.__getattribute__"))) ∧ (PySem.W.findIn K (.ref (v_C_BadMotion K)) "__getattr__" = some none) ∧ (PySem.W.subIn K (.ref (v_C_BadMotion K)) (.type "BaseException") = some true)
instance iP58 (K : PySem.W.Frag) : Decidable (P58 K) := by unfold P58; infer_instance
def P59 (K : PySem.W.Frag) : Prop := (PySem.W.hasDictIn K (v_C_BadMotion K) = true) ∧ (PySem.W.findIn K (.ref (v_C_BadMotion K)) "__class__" = some (some (.builtin "object.__class__"))) ∧ (PySem.W.specialIn K (.builtin "object.__class__") "__get__" = some (some (.builtin "getset_descriptor.__get__"))) ∧ (PySem.W.takesIn K (.builtin "object.__class__") = some true) ∧ (PySem.W.mroIn K (v_C_BadMotion K) (.type "object") = some true) ∧ (PySem.W.findIn K (.ref (v_C_BadWeights K)) "__getattribute__" = some (some (.builtin "BaseException.__getattribute__"))) ∧ (PySem.W.findIn K (.ref (v_C_BadWeights K)) "__getattr__" = some none) ∧ (PySem.W.subIn K (.ref (v_C_BadWeights K)) (.type "BaseException") = some true) ∧ (PySem.W.hasDictIn K (v_C_BadWeights K) = true) ∧ (PySem.W.findIn K (.ref (v_C_BadWeights K)) "__class__" = some (some (.builtin "object.__class__")))
instance iP59 (K : PySem.W.Frag) : Decidable (P59 K) := by unfold P59; infer_instance
def P60 (K : PySem.W.Frag) : Prop := (PySem.W.specialIn K (.builtin "object.__class__") "__get__" = some (some (.builtin "getset_descriptor.__get__"))) ∧ (PySem.W.takesIn K (.builtin "object.__class__") = some true) ∧ (PySem.W.mroIn K (v_C_BadWeights K) (.type "object") = some true) ∧ (PySem.W.findIn K (.ref (v_C_Unbalanced K)) "__getattribute__" = some (some (.builtin "BaseException.__getattribute__"))) ∧ (PySem.W.findIn K (.ref (v_C_Unbalanced K)) "__getattr__" = some none) ∧ (PySem.W.subIn K (.ref (v_C_Unbalanced K)) (.type "BaseException") = some true) ∧ (PySem.W.hasDictIn K (v_C_Unbalanced K) = true) ∧ (PySem.W.findIn K (.ref (v_C_Unbalanced K)) "__class__" = some (some (.builtin "object.__class__"))) ∧ (PySem.W.specialIn K (.builtin "object.__class__") "__get__" = some (some (.builtin "getset_descriptor.__get__"))) ∧ (PySem.W.takesIn K (.builtin "object.__class__") = some true)
instance iP60 (K : PySem.W.Frag) : Decidable (P60 K) := by unfold P60; infer_instance
def P61 (K : PySem.W.Frag) : Prop := (PySem.W.mroIn K (v_C_Unbalanced K) (.type "object") = some true) ∧ (PySem.W.findIn K (.ref (v_C_NotStanding K)) "__getattribute__" = some (some (.builtin "BaseException.__getattribute__"))) ∧ (PySem.W.findIn K (.ref (v_C_NotStanding K)) "__getattr__" = some none) ∧ (PySem.W.subIn K (.ref (v_C_NotStanding K)) (.type "BaseException") = some true) ∧ (PySem.W.hasDictIn K (v_C_NotStanding K) = true) ∧ (PySem.W.findIn K (.ref (v_C_NotStanding K)) "__class__" = some (some (.builtin "object.__class__"))) ∧ (PySem.W.specialIn K (.builtin "object.__class__") "__get__" = some (some (.builtin "getset_descriptor.__get__"))) ∧ (PySem.W.takesIn K (.builtin "object.__class__") = some true) ∧ (PySem.W.mroIn K (v_C_NotStanding K) (.type "object") = some true) ∧ (PySem.W.findIn K (.ref (v_C_BadPalette K)) "__getattribute__" = some (some (.builtin "BaseException.__getattribute__")))
instance iP61 (K : PySem.W.Frag) : Decidable (P61 K) := by unfold P61; infer_instance
def P62 (K : PySem.W.Frag) : Prop := (PySem.W.findIn K (.ref (v_C_BadPalette K)) "__getattr__" = some none) ∧ (PySem.W.subIn K (.ref (v_C_BadPalette K)) (.type "BaseException") = some true) ∧ (PySem.W.hasDictIn K (v_C_BadPalette K) = true) ∧ (PySem.W.findIn K (.ref (v_C_BadPalette K)) "__class__" = some (some (.builtin "object.__class__"))) ∧ (PySem.W.specialIn K (.builtin "object.__class__") "__get__" = some (some (.builtin "getset_descriptor.__get__"))) ∧ (PySem.W.takesIn K (.builtin "object.__class__") = some true) ∧ (PySem.W.mroIn K (v_C_BadPalette K) (.type "object") = some true) ∧ (PySem.W.findIn K (.ref (v_C_BadMix K)) "__getattribute__" = some (some (.builtin "BaseException.__getattribute__"))) ∧ (PySem.W.findIn K (.ref (v_C_BadMix K)) "__getattr__" = some none) ∧ (PySem.W.subIn K (.ref (v_C_BadMix K)) (.type "BaseException") = some true)
instance iP62 (K : PySem.W.Frag) : Decidable (P62 K) := by unfold P62; infer_instance
def P63 (K : PySem.W.Frag) : Prop := (PySem.W.hasDictIn K (v_C_BadMix K) = true) ∧ (PySem.W.findIn K (.ref (v_C_BadMix K)) "__class__" = some (some (.builtin "object.__class__"))) ∧ (PySem.W.specialIn K (.builtin "object.__class__") "__get__" = some (some (.builtin "getset_descriptor.__get__"))) ∧ (PySem.W.takesIn K (.builtin "object.__class__") = some true) ∧ (PySem.W.mroIn K (v_C_BadMix K) (.type "object") = some true) ∧ (PySem.W.findIn K (.ref (v_C_BadRows K)) "__getattribute__" = some (some (.builtin "BaseException.__getattribute__"))) ∧ (PySem.W.findIn K (.ref (v_C_BadRows K)) "__getattr__" = some none) ∧ (PySem.W.subIn K (.ref (v_C_BadRows K)) (.type "BaseException") = some true) ∧ (PySem.W.hasDictIn K (v_C_BadRows K) = true) ∧ (PySem.W.findIn K (.ref (v_C_BadRows K)) "__class__" = some (some (.builtin "object.__class__")))
instance iP63 (K : PySem.W.Frag) : Decidable (P63 K) := by unfold P63; infer_instance
def P64 (K : PySem.W.Frag) : Prop := (PySem.W.specialIn K (.builtin "object.__class__") "__get__" = some (some (.builtin "getset_descriptor.__get__"))) ∧ (PySem.W.takesIn K (.builtin "object.__class__") = some true) ∧ (PySem.W.mroIn K (v_C_BadRows K) (.type "object") = some true) ∧ (PySem.W.findIn K (.ref (v_C_BadCart K)) "__getattribute__" = some (some (.builtin "BaseException.__getattribute__"))) ∧ (PySem.W.findIn K (.ref (v_C_BadCart K)) "__getattr__" = some none) ∧ (PySem.W.subIn K (.ref (v_C_BadCart K)) (.type "BaseException") = some true) ∧ (PySem.W.hasDictIn K (v_C_BadCart K) = true) ∧ (PySem.W.findIn K (.ref (v_C_BadCart K)) "__class__" = some (some (.builtin "object.__class__"))) ∧ (PySem.W.specialIn K (.builtin "object.__class__") "__get__" = some (some (.builtin "getset_descriptor.__get__"))) ∧ (PySem.W.takesIn K (.builtin "object.__class__") = some true)
instance iP64 (K : PySem.W.Frag) : Decidable (P64 K) := by unfold P64; infer_instance
def P65 (K : PySem.W.Frag) : Prop := (PySem.W.mroIn K (v_C_BadCart K) (.type "object") = some true) ∧ (PySem.W.findIn K (.ref (v_C_BadRule K)) "__getattribute__" = some (some (.builtin "BaseException.__getattribute__"))) ∧ (PySem.W.findIn K (.ref (v_C_BadRule K)) "__getattr__" = some none) ∧ (PySem.W.subIn K (.ref (v_C_BadRule K)) (.type "BaseException") = some true) ∧ (PySem.W.hasDictIn K (v_C_BadRule K) = true) ∧ (PySem.W.findIn K (.ref (v_C_BadRule K)) "__class__" = some (some (.builtin "object.__class__"))) ∧ (PySem.W.specialIn K (.builtin "object.__class__") "__get__" = some (some (.builtin "getset_descriptor.__get__"))) ∧ (PySem.W.takesIn K (.builtin "object.__class__") = some true) ∧ (PySem.W.mroIn K (v_C_BadRule K) (.type "object") = some true) ∧ (PySem.W.findIn K (.ref (v_C_NoCart K)) "__getattribute__" = some (some (.builtin "BaseException.__getattribute__")))
instance iP65 (K : PySem.W.Frag) : Decidable (P65 K) := by unfold P65; infer_instance
def P66 (K : PySem.W.Frag) : Prop := (PySem.W.findIn K (.ref (v_C_NoCart K)) "__getattr__" = some none) ∧ (PySem.W.subIn K (.ref (v_C_NoCart K)) (.type "BaseException") = some true) ∧ (PySem.W.hasDictIn K (v_C_NoCart K) = true) ∧ (PySem.W.findIn K (.ref (v_C_NoCart K)) "__class__" = some (some (.builtin "object.__class__"))) ∧ (PySem.W.specialIn K (.builtin "object.__class__") "__get__" = some (some (.builtin "getset_descriptor.__get__"))) ∧ (PySem.W.takesIn K (.builtin "object.__class__") = some true) ∧ (PySem.W.mroIn K (v_C_NoCart K) (.type "object") = some true) ∧ (PySem.W.findIn K (.ref (v_C_BadRoad K)) "__getattribute__" = some (some (.builtin "BaseException.__getattribute__"))) ∧ (PySem.W.findIn K (.ref (v_C_BadRoad K)) "__getattr__" = some none) ∧ (PySem.W.subIn K (.ref (v_C_BadRoad K)) (.type "BaseException") = some true)
instance iP66 (K : PySem.W.Frag) : Decidable (P66 K) := by unfold P66; infer_instance
def P67 (K : PySem.W.Frag) : Prop := (PySem.W.hasDictIn K (v_C_BadRoad K) = true) ∧ (PySem.W.findIn K (.ref (v_C_BadRoad K)) "__class__" = some (some (.builtin "object.__class__"))) ∧ (PySem.W.specialIn K (.builtin "object.__class__") "__get__" = some (some (.builtin "getset_descriptor.__get__"))) ∧ (PySem.W.takesIn K (.builtin "object.__class__") = some true) ∧ (PySem.W.mroIn K (v_C_BadRoad K) (.type "object") = some true) ∧ (PySem.W.findIn K (.ref (v_C_NoLane K)) "__getattribute__" = some (some (.builtin "BaseException.__getattribute__"))) ∧ (PySem.W.findIn K (.ref (v_C_NoLane K)) "__getattr__" = some none) ∧ (PySem.W.subIn K (.ref (v_C_NoLane K)) (.type "BaseException") = some true) ∧ (PySem.W.hasDictIn K (v_C_NoLane K) = true) ∧ (PySem.W.findIn K (.ref (v_C_NoLane K)) "__class__" = some (some (.builtin "object.__class__")))
instance iP67 (K : PySem.W.Frag) : Decidable (P67 K) := by unfold P67; infer_instance
def P68 (K : PySem.W.Frag) : Prop := (PySem.W.specialIn K (.builtin "object.__class__") "__get__" = some (some (.builtin "getset_descriptor.__get__"))) ∧ (PySem.W.takesIn K (.builtin "object.__class__") = some true) ∧ (PySem.W.mroIn K (v_C_NoLane K) (.type "object") = some true) ∧ (PySem.W.findIn K (.ref (v_C_BadLimit K)) "__getattribute__" = some (some (.builtin "BaseException.__getattribute__"))) ∧ (PySem.W.findIn K (.ref (v_C_BadLimit K)) "__getattr__" = some none) ∧ (PySem.W.subIn K (.ref (v_C_BadLimit K)) (.type "BaseException") = some true) ∧ (PySem.W.hasDictIn K (v_C_BadLimit K) = true) ∧ (PySem.W.findIn K (.ref (v_C_BadLimit K)) "__class__" = some (some (.builtin "object.__class__"))) ∧ (PySem.W.specialIn K (.builtin "object.__class__") "__get__" = some (some (.builtin "getset_descriptor.__get__"))) ∧ (PySem.W.takesIn K (.builtin "object.__class__") = some true)
instance iP68 (K : PySem.W.Frag) : Decidable (P68 K) := by unfold P68; infer_instance
def P69 (K : PySem.W.Frag) : Prop := (PySem.W.mroIn K (v_C_BadLimit K) (.type "object") = some true) ∧ (PySem.W.findIn K (.ref (v_C_NotSafe K)) "__getattribute__" = some (some (.builtin "BaseException.__getattribute__"))) ∧ (PySem.W.findIn K (.ref (v_C_NotSafe K)) "__getattr__" = some none) ∧ (PySem.W.subIn K (.ref (v_C_NotSafe K)) (.type "BaseException") = some true) ∧ (PySem.W.hasDictIn K (v_C_NotSafe K) = true) ∧ (PySem.W.findIn K (.ref (v_C_NotSafe K)) "__class__" = some (some (.builtin "object.__class__"))) ∧ (PySem.W.specialIn K (.builtin "object.__class__") "__get__" = some (some (.builtin "getset_descriptor.__get__"))) ∧ (PySem.W.takesIn K (.builtin "object.__class__") = some true) ∧ (PySem.W.mroIn K (v_C_NotSafe K) (.type "object") = some true) ∧ (PySem.W.findIn K (.ref (v_C_BadYard K)) "__getattribute__" = some (some (.builtin "BaseException.__getattribute__")))
instance iP69 (K : PySem.W.Frag) : Decidable (P69 K) := by unfold P69; infer_instance
def P70 (K : PySem.W.Frag) : Prop := (PySem.W.findIn K (.ref (v_C_BadYard K)) "__getattr__" = some none) ∧ (PySem.W.subIn K (.ref (v_C_BadYard K)) (.type "BaseException") = some true) ∧ (PySem.W.hasDictIn K (v_C_BadYard K) = true) ∧ (PySem.W.findIn K (.ref (v_C_BadYard K)) "__class__" = some (some (.builtin "object.__class__"))) ∧ (PySem.W.specialIn K (.builtin "object.__class__") "__get__" = some (some (.builtin "getset_descriptor.__get__"))) ∧ (PySem.W.takesIn K (.builtin "object.__class__") = some true) ∧ (PySem.W.mroIn K (v_C_BadYard K) (.type "object") = some true) ∧ (PySem.W.findIn K (.ref (v_C_BadStage K)) "__getattribute__" = some (some (.builtin "BaseException.__getattribute__"))) ∧ (PySem.W.findIn K (.ref (v_C_BadStage K)) "__getattr__" = some none) ∧ (PySem.W.subIn K (.ref (v_C_BadStage K)) (.type "BaseException") = some true)
instance iP70 (K : PySem.W.Frag) : Decidable (P70 K) := by unfold P70; infer_instance
def P71 (K : PySem.W.Frag) : Prop := (PySem.W.hasDictIn K (v_C_BadStage K) = true) ∧ (PySem.W.findIn K (.ref (v_C_BadStage K)) "__class__" = some (some (.builtin "object.__class__"))) ∧ (PySem.W.specialIn K (.builtin "object.__class__") "__get__" = some (some (.builtin "getset_descriptor.__get__"))) ∧ (PySem.W.takesIn K (.builtin "object.__class__") = some true) ∧ (PySem.W.mroIn K (v_C_BadStage K) (.type "object") = some true) ∧ (PySem.W.findIn K (.ref (v_C_BadChange K)) "__getattribute__" = some (some (.builtin "BaseException.__getattribute__"))) ∧ (PySem.W.findIn K (.ref (v_C_BadChange K)) "__getattr__" = some none) ∧ (PySem.W.subIn K (.ref (v_C_BadChange K)) (.type "BaseException") = some true) ∧ (PySem.W.hasDictIn K (v_C_BadChange K) = true) ∧ (PySem.W.findIn K (.ref (v_C_BadChange K)) "__class__" = some (some (.builtin "object.__class__")))
instance iP71 (K : PySem.W.Frag) : Decidable (P71 K) := by unfold P71; infer_instance
def P72 (K : PySem.W.Frag) : Prop := (PySem.W.specialIn K (.builtin "object.__class__") "__get__" = some (some (.builtin "getset_descriptor.__get__"))) ∧ (PySem.W.takesIn K (.builtin "object.__class__") = some true) ∧ (PySem.W.mroIn K (v_C_BadChange K) (.type "object") = some true) ∧ (PySem.W.findIn K (.ref (v_C_NoChange K)) "__getattribute__" = some (some (.builtin "BaseException.__getattribute__"))) ∧ (PySem.W.findIn K (.ref (v_C_NoChange K)) "__getattr__" = some none) ∧ (PySem.W.subIn K (.ref (v_C_NoChange K)) (.type "BaseException") = some true) ∧ (PySem.W.hasDictIn K (v_C_NoChange K) = true) ∧ (PySem.W.findIn K (.ref (v_C_NoChange K)) "__class__" = some (some (.builtin "object.__class__"))) ∧ (PySem.W.specialIn K (.builtin "object.__class__") "__get__" = some (some (.builtin "getset_descriptor.__get__"))) ∧ (PySem.W.takesIn K (.builtin "object.__class__") = some true)
instance iP72 (K : PySem.W.Frag) : Decidable (P72 K) := by unfold P72; infer_instance
def P73 (K : PySem.W.Frag) : Prop := (PySem.W.mroIn K (v_C_NoChange K) (.type "object") = some true) ∧ (PySem.W.findIn K (.ref (v_C_BadRow K)) "__getattribute__" = some (some (.builtin "BaseException.__getattribute__"))) ∧ (PySem.W.findIn K (.ref (v_C_BadRow K)) "__getattr__" = some none) ∧ (PySem.W.subIn K (.ref (v_C_BadRow K)) (.type "BaseException") = some true) ∧ (PySem.W.hasDictIn K (v_C_BadRow K) = true) ∧ (PySem.W.findIn K (.ref (v_C_BadRow K)) "__class__" = some (some (.builtin "object.__class__"))) ∧ (PySem.W.specialIn K (.builtin "object.__class__") "__get__" = some (some (.builtin "getset_descriptor.__get__"))) ∧ (PySem.W.takesIn K (.builtin "object.__class__") = some true) ∧ (PySem.W.mroIn K (v_C_BadRow K) (.type "object") = some true) ∧ (PySem.W.nsIn K mainGlobals "ValueError" = some none)
instance iP73 (K : PySem.W.Frag) : Decidable (P73 K) := by unfold P73; infer_instance
def P74 (K : PySem.W.Frag) : Prop := (PySem.W.nsIn K mainGlobals "int" = some none) ∧ (PySem.W.nsIn K mainGlobals "isinstance" = some none) ∧ (PySem.W.nsIn K mainGlobals "len" = some none) ∧ (PySem.W.nsIn K mainGlobals "list" = some none) ∧ (PySem.W.nsIn K mainGlobals "range" = some none) ∧ (PySem.W.nsIn K mainGlobals "repr" = some none) ∧ (PySem.W.nsIn K mainGlobals "str" = some none)
instance iP74 (K : PySem.W.Frag) : Decidable (P74 K) := by unfold P74; infer_instance
def fns0 : List FnA := [D__law_take, D__law_of, D__law_value, D__law_pen, D__law_first, D__law_second, D__law_third, D__law_classes, D__law_by_names, D__law_caught]
def fns1 : List FnA := [D_law, D_IBridgeError, D_IBadRatio, D_IBadForce, D_IBadLoad, D_IOtherSize, D_INoStone, D_INoJoint, D_INoCorner, D_IBadBridge]
def fns2 : List FnA := [D_INoPart, D_IBadRing, D_IBadCut, D_IBadThrust, D_IBadCorners, D_IInLine, D_IBadMotion, D_IBadWeights, D_IUnbalanced, D_INotStanding]
def fns3 : List FnA := [D_IBadPalette, D_IBadMix, D_IBadRows, D_IBadCart, D_IBadRule, D_INoCart, D_IBadRoad, D_INoLane, D_IBadLimit, D_INotSafe]
def fns4 : List FnA := [D_IBadYard, D_IBadStage, D_IBadChange, D_INoChange, D_IBadRow]
def fns : List FnA := fns0 ++ fns1 ++ fns2 ++ fns3 ++ fns4
def nms0 : List PySem.Str := ["__name__", "BridgeError", "BadRatio", "BadForce", "BadLoad", "OtherSize", "NoStone", "NoJoint", "NoCorner", "BadBridge"]
def nms1 : List PySem.Str := ["NoPart", "BadRing", "BadCut", "BadThrust", "BadCorners", "InLine", "BadMotion", "BadWeights", "Unbalanced", "NotStanding"]
def nms2 : List PySem.Str := ["BadPalette", "BadMix", "BadRows", "BadCart", "BadRule", "NoCart", "BadRoad", "NoLane", "BadLimit", "NotSafe"]
def nms3 : List PySem.Str := ["BadYard", "BadStage", "BadChange", "NoChange", "BadRow", "_law_pen", "_law_take", "_law_of", "_law_value", "_law_classes"]
def nms4 : List PySem.Str := ["_law_first", "_law_second", "_law_third", "_law_by_names", "_law_caught"]
def nms : List PySem.Str := nms0 ++ nms1 ++ nms2 ++ nms3 ++ nms4
def chksa_0 : List Chk := [fun K => decide (P0 K), fun K => decide (P1 K), fun K => decide (P2 K), fun K => decide (P3 K), fun K => decide (P4 K), fun K => decide (P5 K), fun K => decide (P6 K), fun K => decide (P7 K), fun K => decide (P8 K), fun K => decide (P9 K)]
def chksa_1 : List Chk := [fun K => decide (P10 K), fun K => decide (P11 K), fun K => decide (P12 K), fun K => decide (P13 K), fun K => decide (P14 K), fun K => decide (P15 K), fun K => decide (P16 K), fun K => decide (P17 K), fun K => decide (P18 K), fun K => decide (P19 K)]
def chksa_2 : List Chk := [fun K => decide (P20 K), fun K => decide (P21 K), fun K => decide (P22 K), fun K => decide (P23 K), fun K => decide (P24 K), fun K => decide (P25 K), fun K => decide (P26 K), fun K => decide (P27 K), fun K => decide (P28 K), fun K => decide (P29 K)]
def chksa_3 : List Chk := [fun K => decide (P30 K), fun K => decide (P31 K), fun K => decide (P32 K), fun K => decide (P33 K), fun K => decide (P34 K), fun K => decide (P35 K), fun K => decide (P36 K), fun K => decide (P37 K), fun K => decide (P38 K), fun K => decide (P39 K)]
def chksa_4 : List Chk := [fun K => decide (P40 K), fun K => decide (P41 K), fun K => decide (P42 K), fun K => decide (P43 K), fun K => decide (P44 K), fun K => decide (P45 K), fun K => decide (P46 K), fun K => decide (P47 K), fun K => decide (P48 K), fun K => decide (P49 K)]
def chksa_5 : List Chk := [fun K => decide (P50 K), fun K => decide (P51 K), fun K => decide (P52 K), fun K => decide (P53 K), fun K => decide (P54 K), fun K => decide (P55 K), fun K => decide (P56 K), fun K => decide (P57 K), fun K => decide (P58 K), fun K => decide (P59 K)]
def chksa_6 : List Chk := [fun K => decide (P60 K), fun K => decide (P61 K), fun K => decide (P62 K), fun K => decide (P63 K), fun K => decide (P64 K), fun K => decide (P65 K), fun K => decide (P66 K), fun K => decide (P67 K), fun K => decide (P68 K), fun K => decide (P69 K)]
def chksa_7 : List Chk := [fun K => decide (P70 K), fun K => decide (P71 K), fun K => decide (P72 K), fun K => decide (P73 K), fun K => decide (P74 K)]
def chksa_ : List Chk := chksa_0 ++ chksa_1 ++ chksa_2 ++ chksa_3 ++ chksa_4 ++ chksa_5 ++ chksa_6 ++ chksa_7
noncomputable section
abbrev R : PySem.W.OpenRow := PySem.W.OpenLaw.row PySem.Challenge.rw_fourhinges_k00_errors_and_their_fields
def gs : List Grp := [([], fns), (chksa_, [])]
def ads : List Addr := 3 :: 2 :: [0, 1, 4, 5, 6, 7, 8, 9, 10, 11, 12, 13, 14, 15, 16, 17, 18, 19, 20, 21, 22, 23, 24, 25, 26, 27, 28, 29, 30, 31, 32, 33, 34, 35, 36, 37, 38, 39, 40, 41, 42, 43, 44, 45, 46, 47, 48, 49, 50, 51, 52, 53, 54, 55, 56, 57, 58, 59, 60, 61, 62, 63, 64, 65, 66, 67, 68, 69, 70, 71, 72, 73, 74, 75, 76, 77, 78, 79, 80, 81, 82, 83, 84, 85, 86, 87, 88, 89, 90, 91, 92, 93, 94, 95, 96, 97, 98, 99, 100, 101, 102, 103, 104, 105, 106, 107, 108, 109, 110, 111, 112, 113, 114, 115, 116, 117, 118, 119, 120, 121, 122, 123, 124, 125, 126, 127, 128, 129, 130, 131, 132, 133, 134, 135, 136, 137, 138, 139, 140, 141, 142, 143, 144, 145, 146, 147, 148, 149, 150, 151, 152, 153, 154, 155, 156, 157, 158, 159, 160, 161, 162, 163, 164, 165, 166, 167, 168, 169, 170, 171, 172, 173, 174, 175, 176, 177, 178, 179, 180, 181, 182, 183, 184, 185, 186, 187, 188, 189, 190, 191, 192, 193, 194, 195, 196, 197, 198, 199, 200, 201, 202, 203, 204, 205, 206, 207, 208, 209, 210, 211, 212, 213, 214, 215, 216, 217, 218, 219, 220, 221, 222, 223, 224, 225, 226, 227, 228, 229, 230, 231, 232, 233, 234, 235, 236, 237, 238, 239, 240, 241, 242, 243, 244, 245, 246, 247, 248, 249, 250, 251, 252, 253, 254, 255, 256, 257, 258, 259, 260, 261, 262, 263, 264, 265, 266, 267, 268, 269, 270, 271, 272, 273, 274, 275, 276, 277, 278, 279, 280, 281, 282, 283, 284, 285, 286, 287, 288, 289, 290, 291, 292, 293, 294, 295, 296, 297, 298, 299, 300, 301, 302, 303, 304, 305, 306, 307, 308, 309, 310, 311, 312, 313, 314, 315, 316, 317, 318, 319, 320, 321, 322, 323, 324, 325, 326, 327, 328, 329, 330, 331, 332, 333, 334, 335, 336, 337, 338, 339, 340, 341, 342, 343, 344, 345, 346, 347, 348, 349, 350, 351, 352, 353, 354, 355, 356, 357, 358, 359, 360, 361, 362, 363, 364, 365, 366, 367, 368, 369, 370, 371, 372, 373, 374, 375, 376, 377, 378, 379, 380, 381, 382, 383, 384, 385, 386, 387, 388, 389, 390, 391, 392, 393, 394, 395, 396, 397, 398, 399, 400, 401, 402, 403, 404, 405, 406, 407, 408, 409, 410, 411, 412, 413, 414, 415, 416, 417, 418, 419, 420, 421, 422, 423, 424, 425, 426, 427, 428, 429, 430, 431, 432, 433, 434, 435, 436, 437, 438, 439, 440, 441, 442, 443, 444, 445, 446, 447, 448, 449, 450, 451, 452, 453, 454, 455, 456, 457, 458, 459, 460, 461, 462, 463, 464, 465, 466, 467, 468, 469, 470, 471, 472, 473, 474, 475, 476, 477, 478, 479, 480, 481, 482, 483, 484, 485, 486, 487, 488, 489, 490, 491, 492, 493, 494, 495, 496, 497, 498, 499, 500, 501, 502, 503, 504, 505, 506, 507, 508, 509, 510, 511, 512, 513, 514, 515, 516, 517, 518, 519, 520, 521, 522, 523, 524, 525, 526, 527, 528, 529, 530, 531, 532, 533, 534, 535, 536, 537, 538, 539, 540, 541, 542, 543, 544, 545, 546, 547, 548, 549, 550, 551, 552, 553, 554, 555, 556, 557, 558, 559, 560, 561, 562, 563, 564, 565, 566, 567, 568, 569, 570, 571, 572, 573, 574, 575, 576, 577, 578, 579, 580, 581, 582, 583, 584, 585, 586, 587, 588, 589, 590, 591, 592, 593, 594, 595, 596, 597, 598, 599, 600, 601, 602, 603, 604, 605, 606, 607, 608, 609, 610, 611, 612, 613, 614, 615, 616, 617, 618, 619, 620, 621, 622, 623, 624, 625, 626, 627, 628, 629, 630, 631, 632, 633, 634, 635, 636, 637, 638, 639, 640, 641, 642, 643, 644, 645, 646, 647, 648, 649, 650, 651, 652, 653, 654, 655, 656, 657, 658, 659, 660, 661, 662, 663, 664, 665, 666, 667, 668, 669, 670, 671, 672, 673, 674, 675, 676, 677, 678, 679, 680, 681, 682, 683, 684, 685, 686, 687, 688, 689, 690, 691, 692, 693, 694, 695, 696, 697, 698, 699, 700, 701, 702, 703, 704, 705, 706, 707, 708, 709, 710, 711, 712, 713, 714, 715, 716, 717, 718, 719, 720, 721, 722, 723, 724, 725, 726, 727, 728, 729, 730, 731, 732, 733, 734, 735, 736, 737, 738, 739, 740, 741, 742, 743, 744, 745, 746, 747, 748, 749, 750, 751, 752, 753, 754, 755, 756, 757, 758, 759, 760, 761, 762, 763, 764, 765, 766, 767, 768, 769, 770, 771, 772, 773, 774, 775, 776, 777, 778, 779, 780, 781, 782, 783, 784, 785, 786, 787, 788, 789, 790, 791, 792, 793, 794, 795, 796, 797, 798, 799, 800, 801, 802, 803, 804, 805, 806, 807, 808, 809, 810, 811, 812, 813, 814, 815, 816, 817, 818, 819, 820, 821, 822, 823, 824, 825, 826, 827, 828, 829, 830, 831, 832, 833, 834, 835, 836, 837, 838, 839, 840, 841, 842, 843, 844, 845, 846, 847, 848, 849, 850, 851, 852, 853, 854, 855, 856, 857, 858, 859, 860, 861, 862, 863, 864, 865, 866, 867, 868, 869, 870, 871, 872, 873, 874, 875, 876, 877, 878, 879, 880, 881, 882, 883, 884, 885, 886, 887, 888, 889, 890, 891, 892, 893, 894, 895, 896, 897, 898, 899]
abbrev hk : PySem.W.Hook := hookL ads gs
def ob0 (s : PySem.W.SharedT) : AlC := obsCG ads [] fns (HandSHeadRun.getT s)
def ob1 (s : PySem.W.SharedT) : AlC := obsCG ads chksa_ [] (HandSHeadRun.getT s)
def ob (s : PySem.W.SharedT) : List AlC := [ob0 s, ob1 s]
theorem ob_eq (s : PySem.W.SharedT) : ob s = hk.obs s.abs := by
  have e : HandSHeadRun.getT s = s.abs.heap.get? := funext (HandSHeadRun.getT_eq s)
  show [obsCG ads [] fns (HandSHeadRun.getT s), obsCG ads chksa_ [] (HandSHeadRun.getT s)] = gs.map fun g => obsCG ads g.1 g.2 s.abs.heap.get?
  rw [e]
  rfl
theorem run0 (w : World) : HandSHeadRun.RunEq R (PySem.W.view R.prog [46]) PySem.W.Hook.none (fun _ => ()) 9000 nms w := by
  intro os
  kernel_rfl
theorem runO0 (w : World) (os : OsState) : (endR R 9000 w os).map ob0 = some (valC fns) := by
  kernel_rfl
theorem runO1 (w : World) (os : OsState) : (endR R 9000 w os).map ob1 = some (valC []) := by
  kernel_rfl
theorem run (w : World) : HandSHeadRun.RunEq R (PySem.W.view R.prog [46]) hk ob 9000 nms w :=
  run_with (run0 w) fun os => map_cons_of (runO0 w os) (map_cons_of (runO1 w os) (map_nil_of (runO0 w os)))
end
end K00
namespace Tw
open PySem L2
inductive D where
  | non | bl (b : Bool) | int (i : Int) | str (x : Str) | ty (n : String) | cls (n : Nat)
  | lst (xs : List D) | tup (xs : List D) | ins (n : Nat) (ns : List Str) (xs : List D) | err (c : Nat) (ns : List Str) (xs : List D) | pen | bag | self | scr (ns : List Int) | own (k : Nat) | dct (ks : List Key) (xs : List D) | exo (c : Nat) (ns : List Str) (xs : List D)
mutual
def clear : D → Bool
  | .err _ _ _ => false
  | .self => false
  | .scr _ => false
  | .lst xs => clearL xs
  | .tup xs => clearL xs
  | .ins _ _ xs => clearL xs
  | .dct _ xs => clearL xs
  | .exo _ _ xs => clearL xs
  | .non => true
  | .bl _ => true
  | .int _ => true
  | .str _ => true
  | .ty _ => true
  | .cls _ => true
  | .pen => true
  | .bag => true
  | .own _ => false
def clearL : List D → Bool
  | [] => true
  | d :: ds => clear d && clearL ds
end
structure Pen where
  cells : List Int
  next : Nat
  digits : Int
  rest : Int
  seed : Int
  turn : Int
  obj : List (Str × D) := []
  ocls : Nat := 0
  own : List (List D) := []
inductive Out (α : Type) where
  | ok (a : α) (s : Pen)
  | exc (c : Nat) (ns : List Str) (xs : List D) (s : Pen)
  | bad
abbrev M (α : Type) := Pen → Out α
def mret {α : Type} (a : α) : M α := fun s => .ok a s
def mbad {α : Type} : M α := fun _ => .bad
def obind {α β : Type} (o : Out α) (f : α → M β) : Out β := match o with
  | .ok a s' => f a s'
  | .exc c ns xs s' => .exc c ns xs s'
  | .bad => .bad
def mbind {α β : Type} (m : M α) (f : α → M β) : M β := fun s => obind (m s) f
structure Fm where
  pen : Option (Addr × Option Addr)
  obj : Option (Addr × Nat × Addr)
  out : Addr → Prop
  okp : ∀ a k, pen = some (a, k) → out a
  oko : ∀ x c d, obj = some (x, c, d) → out x
  neo : ∀ a k x c d, pen = some (a, k) → obj = some (x, c, d) → x ≠ a
  own : Nat → Option Addr
  alo : ∀ k a, own k = some a → out a
  nal : ∀ k a, own k = some a → (∀ kd, pen ≠ some (a, kd)) ∧ ∀ c d, obj ≠ some (a, c, d)
  inj : ∀ j k a, own j = some a → own k = some a → j = k
abbrev Fm.po (p : Fm) : Option (Addr × Option Addr) × (Nat → Option Addr) := (p.pen, p.own)
theorem Fm.po1 {p q : Fm} (h : q.po = p.po) : q.pen = p.pen := congrArg Prod.fst h
theorem Fm.po2 {p q : Fm} (h : q.po = p.po) : q.own = p.own := congrArg Prod.snd h
def Fm.mut (p : Fm) (a : Addr) : Prop := (∃ k, p.pen = some (a, k)) ∨ (∃ c d, p.obj = some (a, c, d)) ∨ ∃ k, p.own k = some a
theorem Fm.no {p : Fm} {a : Addr} (h : ¬ p.out a) : ¬ p.mut a := fun z => z.elim (fun ⟨k, e⟩ => h (p.okp a k e)) fun z => z.elim (fun ⟨c, d, e⟩ => h (p.oko a c d e)) fun ⟨k, e⟩ => h (p.alo k a e)
structure Gt where
  cls : Nat → Addr
  err : Option (Addr × Nat × Option Addr)
  K : PySem.W.Frag
abbrev Gt.bare (G : Gt) : Gt := ⟨G.cls, none, G.K⟩
def KL (K : PySem.W.Frag) (a : Addr) (xs : List V) : Prop := ∀ H : Hp, SqL K H a xs
section
variable (G : Gt)
mutual
def Rep (p : Fm) (H : Hp) : D → V → Prop
  | .non, v => v = .non
  | .bl b, v => v = .bl b
  | .int i, v => v = .int i
  | .str x, v => v = .str x
  | .ty n, v => v = .ty n
  | .cls n, v => v = .ref (G.cls n)
  | .pen, v => ∃ a c, p.pen = some (a, some c) ∧ v = .ref a
  | .bag, v => ∃ a, p.pen = some (a, none) ∧ v = .ref a
  | .self, v => ∃ a c d, p.obj = some (a, c, d) ∧ v = .ref a
  | .own k, v => ∃ a, p.own k = some a ∧ v = .ref a
  | .scr ns, v => ∃ a, v = .ref a ∧ ((¬ p.out a ∧ ∃ o, H a = some o ∧ (o = .lst (ns.map V.int) ∨ ∃ o', o = .frz o' (.lst (ns.map V.int)))) ∨ KL G.K a (ns.map V.int))
  | .lst ds, v => ∃ a vs, v = .ref a ∧ ¬ p.out a ∧ H a = some (.lst vs) ∧ RepL p H ds vs
  | .tup ds, v => ∃ a vs, v = .ref a ∧ ¬ p.out a ∧ H a = some (.tup vs) ∧ RepL p H ds vs
  | .err c ns ds, v => ∃ a dd vs, v = .ref a ∧ G.err = some (a, c, dd) ∧ RepL p H ds vs ∧ ((ns = [] ∧ dd = none) ∨ ∃ b gs, ns ≠ [] ∧ dd = some b ∧ ¬ p.out b ∧ H b = some (.xd gs) ∧ ∀ (i : Nat) (f : Str) (v : V), ns[i]? = some f → vs[i]? = some v → gs.lookup f = some v)
  | .ins n ns ds, v => ∃ a dx vs, v = .ref a ∧ ¬ p.out a ∧ H a = some (.ins (G.cls n) dx (ns.zip vs)) ∧ ns.length = vs.length ∧ RepL p H ds vs
  | .exo c ns ds, v => ∃ a dd vs, v = .ref a ∧ ¬ p.out a ∧ H a = some (L2.exo a (G.cls c) dd) ∧ RepL p H ds vs ∧ ((ns = [] ∧ dd = none) ∨ ∃ b gs, ns ≠ [] ∧ dd = some b ∧ ¬ p.out b ∧ H b = some (exd b gs) ∧ ∀ (i : Nat) (f : Str) (v : V), ns[i]? = some f → vs[i]? = some v → gs.lookup f = some v)
  | .dct ks ds, v => ∃ a vs, v = .ref a ∧ ¬ p.out a ∧ H a = some (.dK (ks.zip vs)) ∧ ks.length = vs.length ∧ RepL p H ds vs
def RepL (p : Fm) (H : Hp) : List D → List V → Prop
  | [], vs => vs = []
  | d :: ds, vs => ∃ v r, vs = v :: r ∧ Rep p H d v ∧ RepL p H ds r
end
def penKV (c : Addr) (s : Pen) : List (Key × V) :=
  [(Sum.inr "cells", .ref c), (Sum.inr "next", .int s.next), (Sum.inr "digits", .int s.digits), (Sum.inr "rest", .int s.rest), (Sum.inr "seed", .int s.seed), (Sum.inr "turn", .int s.turn)]
def PenR (p : Fm) (H : Hp) (a : Addr) (k : Option Addr) (s : Pen) : Prop := (k = none ∧ H a = some (.lst [.int s.rest, .int s.seed, .int s.turn])) ∨
  (∃ c, k = some c ∧ ¬ p.out c ∧ H a = some (.dK (penKV c s)) ∧ H c = some (.lst (s.cells.map V.int)))
def gro : Nat := 1000000
def objO (c : Nat) (dx : Addr) (ns : List Str) (vs : List V) : HO := if c = gro then .lst vs else .ins (G.cls c) dx (ns.zip vs)
def OwnR (p : Fm) (H : Hp) (os : List (List D)) : Prop := ∀ k a, p.own k = some a → ∃ ds vs, os[k]? = some ds ∧ H a = some (.lst vs) ∧ clearL ds = true ∧ RepL (Gt.bare G) p H ds vs
def PenOk (p : Fm) (H : Hp) (s : Pen) : Prop := (∀ a k, p.pen = some (a, k) → PenR p H a k s) ∧
  (∀ x c dx, p.obj = some (x, c, dx) → ∃ vs, H x = some (objO G c dx (s.obj.map (·.1)) vs) ∧ (s.obj.length = vs.length ∧ clearL (s.obj.map (·.2)) = true ∧ c = s.ocls) ∧ RepL (Gt.bare G) p H (s.obj.map (·.2)) vs) ∧ (∀ a, p.out a → ∃ o, H a = some o) ∧ OwnR G p H s.own
def Keep (p : Fm) (H H' : Hp) : Prop := ∀ a o, ¬ p.mut a → H a = some o → H' a = some o
def ExcOk (p : Fm) (H : Hp) (ns : List Str) (xs : List D) (dd : Option Addr) : Prop :=
  ∃ vs, RepL G p H xs vs ∧ ((ns = [] ∧ dd = none) ∨ ∃ b gs, ns ≠ [] ∧ dd = some b ∧ ¬ p.out b ∧ H b = some (.xd gs) ∧ ∀ (i : Nat) (f : Str) (v : V), ns[i]? = some f → vs[i]? = some v → gs.lookup f = some v)
end
theorem Keep.refl {p : Fm} {H : Hp} : Keep p H H := fun _ _ _ h => h
theorem Keep.trans {p : Fm} {H H1 H2 : Hp} (a : Keep p H H1) (b : Keep p H1 H2) : Keep p H H2 := fun x o n h => b x o n (a x o n h)
theorem Keep.new {p : Fm} {H : Hp} {a : Addr} {o : HO} (h : H a = none) : Keep p H (upd H a o) := fun b u _ e => by
  rw [upd_ne (ne_of_none e h)]; exact e
section
variable {K : PySem.W.Frag} {G : Gt} {p : Fm} {H H' : Hp}
def PenAt (_ : Fm) (_ : Hp) : Prop := True
theorem PenOk.at {s : Pen} (_ : PenOk G p H s) : PenAt p H := trivial
theorem PenOk.free {s : Pen} (h : PenOk G p H s) {a : Addr} (n : H a = none) : ¬ p.out a := fun z => by
  obtain ⟨o, e⟩ := h.2.2.1 a z
  rw [n] at e
  cases e
mutual
theorem rep_keep (h : PenAt p H) (k : Keep p H H') : ∀ (d : D) (v : V), Rep G p H d v → Rep G p H' d v
  | .non, _, q => q
  | .bl _, _, q => q
  | .int _, _, q => q
  | .str _, _, q => q
  | .ty _, _, q => q
  | .cls _, _, q => q
  | .pen, _, q => q
  | .bag, _, q => q
  | .self, _, q => q
  | .own _, _, q => q
  | .scr ns, v, q => by
    obtain ⟨a, e, q⟩ := q
    rcases q with ⟨q0, o, q1, q2⟩ | q
    · exact ⟨a, e, .inl ⟨q0, o, k _ _ (Fm.no q0) q1, q2⟩⟩
    · exact ⟨a, e, .inr q⟩
  | .lst ds, v, q => by
    obtain ⟨a, vs, e, q0, q1, q2⟩ := q
    exact ⟨a, vs, e, q0, k _ _ (Fm.no q0) q1, repL_keep h k ds vs q2⟩
  | .tup ds, v, q => by
    obtain ⟨a, vs, e, q0, q1, q2⟩ := q
    exact ⟨a, vs, e, q0, k _ _ (Fm.no q0) q1, repL_keep h k ds vs q2⟩
  | .err c ns ds, v, q => by
    obtain ⟨a, dd, vs, e, q0, q2, q3⟩ := q
    refine ⟨a, dd, vs, e, q0, repL_keep h k ds vs q2, ?_⟩
    rcases q3 with q3 | ⟨b, gs, e0, e1, e2, e3, e4⟩
    · exact .inl q3
    · exact .inr ⟨b, gs, e0, e1, e2, k _ _ (Fm.no e2) e3, e4⟩
  | .ins n ns ds, v, q => by
    obtain ⟨a, dx, vs, e, q0, q1, q3, q2⟩ := q
    exact ⟨a, dx, vs, e, q0, k _ _ (Fm.no q0) q1, q3, repL_keep h k ds vs q2⟩
  | .dct ns ds, v, q => by
    obtain ⟨a, vs, e, q0, q1, q3, q2⟩ := q
    exact ⟨a, vs, e, q0, k _ _ (Fm.no q0) q1, q3, repL_keep h k ds vs q2⟩
  | .exo c ns ds, v, q => by
    obtain ⟨a, dd, vs, e, q0, q1, q2, q3⟩ := q
    refine ⟨a, dd, vs, e, q0, k _ _ (Fm.no q0) q1, repL_keep h k ds vs q2, ?_⟩
    rcases q3 with q3 | ⟨b, gs, e0, e1, e2, e3, e4⟩
    · exact .inl q3
    · exact .inr ⟨b, gs, e0, e1, e2, k _ _ (Fm.no e2) e3, e4⟩
theorem repL_keep (h : PenAt p H) (k : Keep p H H') : ∀ (ds : List D) (vs : List V), RepL G p H ds vs → RepL G p H' ds vs
  | [], _, q => q
  | d :: ds, vs, q => by
    obtain ⟨v, r, e, q1, q2⟩ := q
    exact ⟨v, r, e, rep_keep h k d v q1, repL_keep h k ds r q2⟩
end
mutual
theorem rep_oute {q : Fm} (hp : q.pen = p.pen) (hw : ∀ j a, p.own j = some a → q.own j = some a) (hb : q.obj = p.obj) (ho : ∀ a o, H a = some o → ¬ p.out a → ¬ q.out a) : ∀ (d : D) (v : V), Rep G p H d v → Rep G q H d v
  | .non, _, h => h
  | .bl _, _, h => h
  | .int _, _, h => h
  | .str _, _, h => h
  | .ty _, _, h => h
  | .cls _, _, h => h
  | .pen, _, h => by obtain ⟨a, c, e, z⟩ := h; exact ⟨a, c, hp.trans e, z⟩
  | .bag, _, h => by obtain ⟨a, e, z⟩ := h; exact ⟨a, hp.trans e, z⟩
  | .own k, _, h => by obtain ⟨a, e, z⟩ := h; exact ⟨a, hw k a e, z⟩
  | .self, _, h => by obtain ⟨a, c, d, e, z⟩ := h; exact ⟨a, c, d, hb.trans e, z⟩
  | .scr ns, v, q => by
    obtain ⟨a, e, q⟩ := q
    rcases q with ⟨q0, o, q1, q2⟩ | q
    · exact ⟨a, e, .inl ⟨ho _ _ q1 q0, o, q1, q2⟩⟩
    · exact ⟨a, e, .inr q⟩
  | .lst ds, v, h => by
    obtain ⟨a, vs, e, q0, q1, q2⟩ := h
    exact ⟨a, vs, e, ho _ _ q1 q0, q1, repL_oute hp hw hb ho ds vs q2⟩
  | .tup ds, v, h => by
    obtain ⟨a, vs, e, q0, q1, q2⟩ := h
    exact ⟨a, vs, e, ho _ _ q1 q0, q1, repL_oute hp hw hb ho ds vs q2⟩
  | .err c ns ds, v, h => by
    obtain ⟨a, dd, vs, e, q0, q2, q3⟩ := h
    refine ⟨a, dd, vs, e, q0, repL_oute hp hw hb ho ds vs q2, ?_⟩
    rcases q3 with q3 | ⟨b, gs, e0, e1, e2, e3, e4⟩
    · exact .inl q3
    · exact .inr ⟨b, gs, e0, e1, ho _ _ e3 e2, e3, e4⟩
  | .ins n ns ds, v, h => by
    obtain ⟨a, dx, vs, e, q0, q1, q3, q2⟩ := h
    exact ⟨a, dx, vs, e, ho _ _ q1 q0, q1, q3, repL_oute hp hw hb ho ds vs q2⟩
  | .dct ns ds, v, h => by
    obtain ⟨a, vs, e, q0, q1, q3, q2⟩ := h
    exact ⟨a, vs, e, ho _ _ q1 q0, q1, q3, repL_oute hp hw hb ho ds vs q2⟩
  | .exo c ns ds, v, h => by
    obtain ⟨a, dd, vs, e, q0, q1, q2, q3⟩ := h
    refine ⟨a, dd, vs, e, ho _ _ q1 q0, q1, repL_oute hp hw hb ho ds vs q2, ?_⟩
    rcases q3 with q3 | ⟨b, gs, e0, e1, e2, e3, e4⟩
    · exact .inl q3
    · exact .inr ⟨b, gs, e0, e1, ho _ _ e3 e2, e3, e4⟩
theorem repL_oute {q : Fm} (hp : q.pen = p.pen) (hw : ∀ j a, p.own j = some a → q.own j = some a) (hb : q.obj = p.obj) (ho : ∀ a o, H a = some o → ¬ p.out a → ¬ q.out a) : ∀ (ds : List D) (vs : List V), RepL G p H ds vs → RepL G q H ds vs
  | [], _, h => h
  | d :: ds, vs, h => by
    obtain ⟨v, r, e, q1, q2⟩ := h
    exact ⟨v, r, e, rep_oute hp hw hb ho d v q1, repL_oute hp hw hb ho ds r q2⟩
end
theorem Fm.emb {p q : Fm} (h : q.po = p.po) : ∀ j a, p.own j = some a → q.own j = some a := fun j a e => by rw [Fm.po2 h]; exact e
theorem rep_out {q : Fm} (hp : q.po = p.po) (hb : q.obj = p.obj) (ho : ∀ a o, H a = some o → ¬ p.out a → ¬ q.out a) (d : D) (v : V) (h : Rep G p H d v) : Rep G q H d v := rep_oute (Fm.po1 hp) (Fm.emb hp) hb ho d v h
theorem repL_out {q : Fm} (hp : q.po = p.po) (hb : q.obj = p.obj) (ho : ∀ a o, H a = some o → ¬ p.out a → ¬ q.out a) (ds : List D) (vs : List V) (h : RepL G p H ds vs) : RepL G q H ds vs := repL_oute (Fm.po1 hp) (Fm.emb hp) hb ho ds vs h
mutual
theorem rep_upd {a0 : Addr} {o0 : HO} (ha : p.out a0) : ∀ (d : D) (v : V), Rep G p H d v → Rep G p (upd H a0 o0) d v
  | .non, _, h => h
  | .bl _, _, h => h
  | .int _, _, h => h
  | .str _, _, h => h
  | .ty _, _, h => h
  | .cls _, _, h => h
  | .pen, _, h => h
  | .bag, _, h => h
  | .self, _, h => h
  | .own _, _, h => h
  | .scr ns, v, q => by
    obtain ⟨a, e, q⟩ := q
    rcases q with ⟨q0, o, q1, q2⟩ | q
    · exact ⟨a, e, .inl ⟨q0, o, by rw [upd_ne (fun z => q0 (by rw [z]; exact ha))]; exact q1, q2⟩⟩
    · exact ⟨a, e, .inr q⟩
  | .lst ds, v, h => by
    obtain ⟨a, vs, e, q0, q1, q2⟩ := h
    exact ⟨a, vs, e, q0, by rw [upd_ne (fun z => q0 (by rw [z]; exact ha))]; exact q1, repL_upd ha ds vs q2⟩
  | .tup ds, v, h => by
    obtain ⟨a, vs, e, q0, q1, q2⟩ := h
    exact ⟨a, vs, e, q0, by rw [upd_ne (fun z => q0 (by rw [z]; exact ha))]; exact q1, repL_upd ha ds vs q2⟩
  | .err c ns ds, v, h => by
    obtain ⟨a, dd, vs, e, q0, q2, q3⟩ := h
    refine ⟨a, dd, vs, e, q0, repL_upd ha ds vs q2, ?_⟩
    rcases q3 with q3 | ⟨b, gs, e0, e1, e2, e3, e4⟩
    · exact .inl q3
    · exact .inr ⟨b, gs, e0, e1, e2, by rw [upd_ne (fun z => e2 (by rw [z]; exact ha))]; exact e3, e4⟩
  | .ins n ns ds, v, h => by
    obtain ⟨a, dx, vs, e, q0, q1, q3, q2⟩ := h
    exact ⟨a, dx, vs, e, q0, by rw [upd_ne (fun z => q0 (by rw [z]; exact ha))]; exact q1, q3, repL_upd ha ds vs q2⟩
  | .dct ns ds, v, h => by
    obtain ⟨a, vs, e, q0, q1, q3, q2⟩ := h
    exact ⟨a, vs, e, q0, by rw [upd_ne (fun z => q0 (by rw [z]; exact ha))]; exact q1, q3, repL_upd ha ds vs q2⟩
  | .exo c ns ds, v, h => by
    obtain ⟨a, dd, vs, e, q0, q1, q2, q3⟩ := h
    refine ⟨a, dd, vs, e, q0, by rw [upd_ne (fun z => q0 (by rw [z]; exact ha))]; exact q1, repL_upd ha ds vs q2, ?_⟩
    rcases q3 with q3 | ⟨b, gs, e0, e1, e2, e3, e4⟩
    · exact .inl q3
    · exact .inr ⟨b, gs, e0, e1, e2, by rw [upd_ne (fun z => e2 (by rw [z]; exact ha))]; exact e3, e4⟩
theorem repL_upd {a0 : Addr} {o0 : HO} (ha : p.out a0) : ∀ (ds : List D) (vs : List V), RepL G p H ds vs → RepL G p (upd H a0 o0) ds vs
  | [], _, h => h
  | d :: ds, vs, h => by
    obtain ⟨v, r, e, q1, q2⟩ := h
    exact ⟨v, r, e, rep_upd ha d v q1, repL_upd ha ds r q2⟩
end
mutual
theorem rep_move {G' : Gt} {q : Fm} (hc : G'.cls = G.cls) (hp : q.pen = p.pen) (ho : ∀ a o, H a = some o → ¬ p.out a → ¬ q.out a) : ∀ (d : D) (v : V), clear d = true → Rep G p H d v → Rep G' q H d v
  | .non, _, _, h => h
  | .bl _, _, _, h => h
  | .int _, _, _, h => h
  | .str _, _, _, h => h
  | .ty _, _, _, h => h
  | .cls n, v, _, h => by show v = .ref (G'.cls n); rw [hc]; exact h
  | .pen, _, _, h => by obtain ⟨a, c, e, z⟩ := h; exact ⟨a, c, hp.trans e, z⟩
  | .bag, _, _, h => by obtain ⟨a, e, z⟩ := h; exact ⟨a, hp.trans e, z⟩
  | .self, _, e, _ => by cases e
  | .own _, _, e, _ => by cases e
  | .scr _, _, e, _ => by cases e
  | .err _ _ _, _, e, _ => by cases e
  | .lst ds, v, e, h => by
    obtain ⟨a, vs, e1, q0, q1, q2⟩ := h
    exact ⟨a, vs, e1, ho _ _ q1 q0, q1, repL_move hc hp ho ds vs e q2⟩
  | .tup ds, v, e, h => by
    obtain ⟨a, vs, e1, q0, q1, q2⟩ := h
    exact ⟨a, vs, e1, ho _ _ q1 q0, q1, repL_move hc hp ho ds vs e q2⟩
  | .ins n ns ds, v, e, h => by
    obtain ⟨a, dx, vs, e1, q0, q1, q3, q2⟩ := h
    exact ⟨a, dx, vs, e1, ho _ _ q1 q0, by rw [hc]; exact q1, q3, repL_move hc hp ho ds vs e q2⟩
  | .dct ns ds, v, e, h => by
    obtain ⟨a, vs, e1, q0, q1, q3, q2⟩ := h
    exact ⟨a, vs, e1, ho _ _ q1 q0, q1, q3, repL_move hc hp ho ds vs e q2⟩
  | .exo c ns ds, v, e, h => by
    obtain ⟨a, dd, vs, e1, q0, q1, q2, q3⟩ := h
    refine ⟨a, dd, vs, e1, ho _ _ q1 q0, by rw [hc]; exact q1, repL_move hc hp ho ds vs e q2, ?_⟩
    rcases q3 with q3 | ⟨b, gs, e0, e1, e2, e3, e4⟩
    · exact .inl q3
    · exact .inr ⟨b, gs, e0, e1, ho _ _ e3 e2, e3, e4⟩
theorem repL_move {G' : Gt} {q : Fm} (hc : G'.cls = G.cls) (hp : q.pen = p.pen) (ho : ∀ a o, H a = some o → ¬ p.out a → ¬ q.out a) : ∀ (ds : List D) (vs : List V), clearL ds = true → RepL G p H ds vs → RepL G' q H ds vs
  | [], _, _, h => h
  | d :: ds, vs, e, h => by
    obtain ⟨v, r, e1, q1, q2⟩ := h
    have e' : (clear d && clearL ds) = true := e
    rw [Bool.and_eq_true] at e'
    exact ⟨v, r, e1, rep_move hc hp ho d v e'.1 q1, repL_move hc hp ho ds r e'.2 q2⟩
end
theorem PenR.keep {s : Pen} {a : Addr} {kd : Option Addr} (h : PenR p H a kd s) (ha : H' a = H a) (k : ∀ c o, ¬ p.out c → H c = some o → H' c = some o) : PenR p H' a kd s := by
  rcases h with ⟨e, h⟩ | ⟨c, e, h0, h1, h2⟩
  · exact .inl ⟨e, ha.trans h⟩
  · exact .inr ⟨c, e, h0, ha.trans h1, k c _ h0 h2⟩
theorem OwnR.kept {os : List (List D)} (h : OwnR G p H os) (hk : Keep p H H') (same : ∀ k b, p.own k = some b → H' b = H b) : OwnR G p H' os := fun k a e =>
  let ⟨ds, vs, h1, h2, h3, h4⟩ := h k a e
  ⟨ds, vs, h1, (same k a e).trans h2, h3, repL_keep trivial hk ds vs h4⟩
theorem OwnR.upd {os : List (List D)} {a0 : Addr} {o0 : HO} (h : OwnR G p H os) (ha : p.out a0) (hn : ∀ k, p.own k ≠ some a0) : OwnR G p (upd H a0 o0) os := fun k a e =>
  let ⟨ds, vs, h1, h2, h3, h4⟩ := h k a e
  ⟨ds, vs, h1, by rw [upd_ne (fun z => hn k (by rw [← z]; exact e))]; exact h2, h3, repL_upd ha ds vs h4⟩
theorem OwnR.out {q : Fm} {os : List (List D)} (h : OwnR G p H os) (hp : q.po = p.po) (ho : ∀ a o, H a = some o → ¬ p.out a → ¬ q.out a) : OwnR G q H os := fun k a e =>
  let ⟨ds, vs, h1, h2, h3, h4⟩ := h k a (by rw [← Fm.po2 hp]; exact e)
  ⟨ds, vs, h1, h2, h3, repL_move rfl (Fm.po1 hp) ho ds vs h3 h4⟩
theorem PenOk.new {s : Pen} (h : PenOk G p H s) {a : Addr} {o : HO} (n : H a = none) : PenOk G p (upd H a o) s := by
  have hk : Keep p H (upd H a o) := Keep.new n
  have same : ∀ b, p.out b → upd H a o b = H b := fun b hb => upd_ne (fun z => h.free n (by rw [← z]; exact hb))
  refine ⟨fun b kd e => (h.1 b kd e).keep (same b (p.okp b kd e)) fun c u _ hc => by rw [upd_ne (ne_of_none hc n)]; exact hc, fun x c dx e => ?_, fun b hb => ?_, ?_⟩
  · obtain ⟨vs, h1, hl, h2⟩ := h.2.1 x c dx e
    exact ⟨vs, (same x (p.oko x c dx e)).trans h1, hl, repL_keep trivial hk _ _ h2⟩
  · obtain ⟨u, h1⟩ := h.2.2.1 b hb
    exact ⟨u, (same b hb).trans h1⟩
  · exact h.2.2.2.kept hk fun k b e => same b (p.alo k b e)
theorem repL_len : ∀ {ds : List D} {vs : List V}, RepL G p H ds vs → ds.length = vs.length
  | [], vs, q => by rw [(show vs = [] from q)]; rfl
  | d :: ds, vs, q => by
    obtain ⟨v, r, e, _, q2⟩ := q
    subst e
    rw [List.length_cons, List.length_cons, repL_len q2]
theorem repL_get : ∀ {ds : List D} {vs : List V} {i : Nat} {d : D}, RepL G p H ds vs → ds[i]? = some d → ∃ v, vs[i]? = some v ∧ Rep G p H d v
  | [], _, i, d, _, e => by simp at e
  | d :: ds, vs, 0, x, q, e => by
    obtain ⟨v, r, rfl, q1, _⟩ := q
    simp at e; subst e
    exact ⟨v, rfl, q1⟩
  | d :: ds, vs, i + 1, x, q, e => by
    obtain ⟨v, r, rfl, _, q2⟩ := q
    obtain ⟨u, h1, h2⟩ := repL_get (i := i) q2 (by simpa using e)
    exact ⟨u, by simpa using h1, h2⟩
theorem repL_app : ∀ {ds es : List D} {vs us : List V}, RepL G p H ds vs → RepL G p H es us → RepL G p H (ds ++ es) (vs ++ us)
  | [], es, vs, us, q, q' => by rw [(show vs = [] from q)]; exact q'
  | d :: ds, es, vs, us, q, q' => by
    obtain ⟨v, r, rfl, q1, q2⟩ := q
    exact ⟨v, r ++ us, rfl, q1, repL_app q2 q'⟩
abbrev Loc := List (Option D)
def EnvOk (G : Gt) (p : Fm) (H : Hp) (σ : St) (ρ : Loc) : Prop :=
  σ.length = ρ.length ∧ ∀ (i : Nat) (d : D), ρ[i]? = some (some d) → ∃ v, σ[i]? = some (some v) ∧ Rep G p H d v
theorem EnvOk.keep {σ : St} {ρ : Loc} (h : PenAt p H) (k : Keep p H H') (e : EnvOk G p H σ ρ) : EnvOk G p H' σ ρ :=
  ⟨e.1, fun i d q => let ⟨v, h1, h2⟩ := e.2 i d q; ⟨v, h1, rep_keep h k d v h2⟩⟩
theorem EnvOk.set {σ : St} {ρ : Loc} {i : Nat} {d : D} {v : V} (e : EnvOk G p H σ ρ) (q : Rep G p H d v) : EnvOk G p H (σ.set i (some v)) (ρ.set i (some d)) := by
  refine ⟨by simp [e.1], fun j x hx => ?_⟩
  rw [List.getElem?_set] at hx
  by_cases hij : i = j
  · subst hij
    simp only [if_true] at hx
    by_cases hl : i < ρ.length
    · rw [if_pos hl] at hx
      have hx' : d = x := by simpa using hx
      subst hx'
      exact ⟨v, by rw [List.getElem?_set]; simp [e.1, hl], q⟩
    · rw [if_neg hl] at hx; cases hx
  · rw [if_neg hij] at hx
    obtain ⟨u, h1, h2⟩ := e.2 j x hx
    exact ⟨u, by rw [List.getElem?_set, if_neg hij]; exact h1, h2⟩
def FinG {α β : Type} (G : Gt) (W : WX) (Rel : Fm → Hp → α → β → Prop) (p : Fm) (σ : St) (H : Hp) (Q : β → Hp → Prop) : Out α → Prop
  | .ok a s => ∀ b H', Keep p H H' → PenOk G p H' s → Rel p H' a b → Q b H'
  | .exc c ns xs s => ∀ dd H', Keep p H H' → PenOk G p H' s → ExcOk G p H' ns xs dd → W (.ref (G.cls c)) dd σ H'
  | .bad => False
theorem FinG.keep {α β : Type} {W : WX} {Rel : Fm → Hp → α → β → Prop} {σ : St} {Q : β → Hp → Prop} {o : Out α} (k : Keep p H H') (h : FinG G W Rel p σ H Q o) : FinG G W Rel p σ H' Q o := by
  cases o with
  | ok a s => exact fun b H2 k2 => h b H2 (k.trans k2)
  | exc c ns xs s => exact fun dd H2 k2 => h dd H2 (k.trans k2)
  | bad => exact h
def RunG {α β : Type} (G : Gt) (W : WX) (Rel : Fm → Hp → α → β → Prop) (t : St → Hp → (β → Hp → Prop) → Prop) (m : Loc → M α) : Prop :=
  ∀ (p : Fm) (σ : St) (H : Hp) (ρ : Loc) (s : Pen) (Q : β → Hp → Prop), EnvOk G p H σ ρ → PenOk G p H s → FinG G W Rel p σ H Q (m ρ s) → t σ H Q
abbrev RelE (G : Gt) : Fm → Hp → D → V → Prop := fun p H d v => Rep G p H d v
abbrev RelB : Fm → Hp → Bool → Bool → Prop := fun _ _ a b => b = a
abbrev RelA (G : Gt) : Fm → Hp → List D → List V → Prop := fun p H ds vs => RepL G p H ds vs
theorem RunG.bind {α β γ δ : Type} {W : WX} {RA : Fm → Hp → α → β → Prop} {RC : Fm → Hp → γ → δ → Prop} {ta : St → Hp → (β → Hp → Prop) → Prop} {tb : β → St → Hp → (δ → Hp → Prop) → Prop} {f : Loc → M α} {g : Loc → α → M γ}
    (ha : RunG G W RA ta f)
    (hb : ∀ (p : Fm) (σ : St) (H : Hp) (ρ : Loc) (s : Pen) (a : α) (b : β) (Q : δ → Hp → Prop), EnvOk G p H σ ρ → PenOk G p H s → RA p H a b → FinG G W RC p σ H Q (g ρ a s) → tb b σ H Q) :
    RunG G W RC (fun σ H Q => ta σ H fun x H1 => tb x σ H1 Q) (fun ρ => mbind (f ρ) (g ρ)) := by
  intro p σ H ρ s Q e pk fin
  refine ha p σ H ρ s _ e pk ?_
  have fin : FinG G W RC p σ H Q (obind (f ρ s) (g ρ)) := fin
  cases h : f ρ s with
  | ok a s' =>
    rw [h] at fin
    exact fun b H1 k pk1 r => hb p σ H1 ρ s' a b Q (e.keep pk.at k) pk1 r (fin.keep k)
  | exc c ns xs s' =>
    rw [h] at fin
    exact fun dd H1 k pk1 x => fin dd H1 k pk1 x
  | bad =>
    rw [h] at fin
    exact fin
end
end Tw
namespace Tw
open PySem L2
section
variable {K : PySem.W.Frag} {G : Gt} {W : WX} {X : Cx}
theorem FinG.step {α β γ δ : Type} {RA : Fm → Hp → α → β → Prop} {RC : Fm → Hp → γ → δ → Prop} {p : Fm} {σ : St} {H : Hp} {s : Pen} {Q : δ → Hp → Prop} {R : β → Hp → Prop} {f : M α} {g : α → M γ}
    (fin : FinG G W RC p σ H Q (mbind f g s))
    (hb : ∀ a s1 b H1, Keep p H H1 → PenOk G p H1 s1 → RA p H1 a b → FinG G W RC p σ H1 Q (g a s1) → R b H1) : FinG G W RA p σ H R (f s) := by
  have fin : FinG G W RC p σ H Q (obind (f s) g) := fin
  cases h : f s with
  | ok a s1 => rw [h] at fin; exact fun b H1 k pk r => hb a s1 b H1 k pk r (FinG.keep k fin)
  | exc c ns xs s1 => rw [h] at fin; exact fin
  | bad => rw [h] at fin; exact fin
structure DE (G : Gt) (X : Cx) (W : WX) (e : Expr) (t : TE) (m : Loc → M D) : Prop where
  pe : PE X e t
  run : RunG G W (RelE G) t m
structure DT (G : Gt) (X : Cx) (W : WX) (e : Expr) (t : TT) (m : Loc → M Bool) : Prop where
  pt : PT X e t
  run : RunG G W RelB t m
structure DW (G : Gt) (X : Cx) (W : WX) (e : Expr) (t : TT) (m : Loc → M Bool) : Prop where
  pw : PW X e t
  run : RunG G W RelB t m
structure DA (G : Gt) (X : Cx) (W : WX) (es : List Expr) (t : TA) (m : Loc → M (List D)) : Prop where
  pa : PA X es t
  run : RunG G W (RelA G) t m
def mvar (i : Nat) : Loc → M D := fun ρ => match ρ[i]? with
  | some (some d) => mret d
  | _ => mbad
theorem run_var {i : Nat} : RunG G W (RelE G) (tVar i) (mvar i) := by
  intro p σ H ρ s Q e pk fin
  unfold mvar at fin
  cases h : ρ[i]? with
  | none => rw [h] at fin; exact False.elim fin
  | some o =>
    cases o with
    | none => rw [h] at fin; exact False.elim fin
    | some d =>
      rw [h] at fin
      obtain ⟨v, h1, h2⟩ := e.2 i d h
      exact ⟨v, h1, fin v H Keep.refl pk h2⟩
theorem run_c {v : V} {d : D} (h : ∀ p H, Rep G p H d v) : RunG G W (RelE G) (tC v) (fun _ => mret d) := by
  intro p σ H ρ s Q e pk fin
  exact fin v H Keep.refl pk (h p H)
theorem de_var (i : Nat) {x : Str} {pos : Pos} (hN : X.N[i]? = some x := by rfl) (hv : Vis X.env.scope x := by first | exact Or.inl rfl | exact Or.inr (Or.inl rfl) | exact Or.inr (Or.inr rfl)) (hd : (x == ("__debug__" : Str)) = false := by decide)
    (hcd : (x == ("__classdict__" : Str)) = false := by decide) : DE G X W (.Name x pos) (tVar i) (mvar i) := ⟨pe_var hN hv hd hcd, run_var⟩
theorem de_int {i : Int} {j : Nat} {pos : Pos} : DE G X W (.Constant (.int i) j pos) (tC (.int i)) (fun _ => mret (.int i)) := ⟨pe_int, run_c fun _ _ => rfl⟩
theorem de_bl {b : Bool} {j : Nat} {pos : Pos} : DE G X W (.Constant (.bool b) j pos) (tC (.bl b)) (fun _ => mret (.bl b)) := ⟨pe_bl, run_c fun _ _ => rfl⟩
theorem de_non {j : Nat} {pos : Pos} : DE G X W (.Constant .none j pos) (tC .non) (fun _ => mret .non) := ⟨pe_non, run_c fun _ _ => rfl⟩
theorem de_str {x : Str} {j : Nat} {pos : Pos} : DE G X W (.Constant (.str x) j pos) (tC (.str x)) (fun _ => mret (.str x)) := ⟨pe_str, run_c fun _ _ => rfl⟩
theorem de_ty {x : Str} {n : String} {pos : Pos} (hg : Gl X x) (hm : X.mg x = none) (hv : bootBuiltins x = some (.type n)) (hn : x ≠ "__name__" := by decide) (hd : (x == ("__debug__" : Str)) = false := by decide) :
    DE G X W (.Name x pos) (tC (.ty n)) (fun _ => mret (.ty n)) := ⟨pe_bltn hg hm hv rfl hn hd, run_c fun _ _ => rfl⟩
theorem de_cls {x : Str} {n : Nat} {pos : Pos} (hg : Gl X x) (hm : X.mg x = some (.ref (G.cls n))) (hd : (x == ("__debug__" : Str)) = false := by decide) :
    DE G X W (.Name x pos) (tC (.ref (G.cls n))) (fun _ => mret (.cls n)) := ⟨pe_glob hg hm rfl hd, run_c fun _ _ => rfl⟩
def Prim2 (G : Gt) (r : R2) (f : D → D → M D) : Prop :=
  ∀ (W : WX) (p : Fm) (σ : St) (H : Hp) (s : Pen) (x y : D) (vx vy : V) (Q : VK), PenOk G p H s → Rep G p H x vx → Rep G p H y vy → FinG G W (RelE G) p σ H Q (f x y s) → r vx vy H Q
def Prim1 (G : Gt) (r : V → Hp → VK → Prop) (f : D → M D) : Prop :=
  ∀ (W : WX) (p : Fm) (σ : St) (H : Hp) (s : Pen) (x : D) (vx : V) (Q : VK), PenOk G p H s → Rep G p H x vx → FinG G W (RelE G) p σ H Q (f x s) → r vx H Q
def PrimL (G : Gt) (r : List V → Hp → VK → Prop) (f : List D → M D) : Prop :=
  ∀ (W : WX) (p : Fm) (σ : St) (H : Hp) (s : Pen) (xs : List D) (vs : List V) (Q : VK), PenOk G p H s → RepL G p H xs vs → FinG G W (RelE G) p σ H Q (f xs s) → r vs H Q
variable {a b c : Expr} {ta tb tc te : TE} {fa fb fc fe : Loc → M D} {r : R2} {f : D → D → M D} {pos : Pos}
theorem run_op (hp : Prim2 G r f) (ha : RunG G W (RelE G) ta fa) (hb : RunG G W (RelE G) tb fb) : RunG G W (RelE G) (tOp r ta tb) (fun ρ => mbind (fa ρ) fun x => mbind (fb ρ) fun y => f x y) := by
  intro p σ H ρ s Q e pk fin
  exact ha p σ H ρ s _ e pk (fin.step fun x s1 vx H1 k1 pk1 rx fin1 => hb p σ H1 ρ s1 _ (e.keep pk.at k1) pk1 (fin1.step fun y s2 vy H2 k2 pk2 ry fin2 =>
    hp W p σ H2 s2 x y vx vy Q pk2 (rep_keep pk1.at k2 x vx rx) ry fin2))
theorem de_op {op : Operator} (ho : OpR X (binaryOp op) r) (hp : Prim2 G r f) (ha : DE G X W a ta fa) (hb : DE G X W b tb fb) : DE G X W (.BinOp a op b pos) (tOp r ta tb) (fun ρ => mbind (fa ρ) fun x => mbind (fb ρ) fun y => f x y) :=
  ⟨pe_op ho ha.pe hb.pe, run_op hp ha.run hb.run⟩
theorem de_cmp {op : CmpOp} (ho : OpR X (compareOp op) r) (hp : Prim2 G r f) (ha : DE G X W a ta fa) (hb : DE G X W b tb fb) (hm : behindInMarks op b = false := by first | exact nomark _ | rfl) : DE G X W (.Compare a [op] [b] pos) (tOp r ta tb) (fun ρ => mbind (fa ρ) fun x => mbind (fb ρ) fun y => f x y) :=
  ⟨pe_cmpR ho ha.pe hb.pe hm, run_op hp ha.run hb.run⟩
theorem run_un {r : V → Hp → VK → Prop} {f : D → M D} (hp : Prim1 G r f) (ha : RunG G W (RelE G) ta fa) : RunG G W (RelE G) (tUn r ta) (fun ρ => mbind (fa ρ) f) := by
  intro p σ H ρ s Q e pk fin
  exact ha p σ H ρ s _ e pk (fin.step fun x s1 vx H1 k1 pk1 rx fin1 => hp W p σ H1 s1 x vx Q pk1 rx fin1)
theorem de_un {op : UnaryOp} {r : V → Hp → VK → Prop} {f : D → M D} (ho : UnR X (unaryOp op) r) (hp : Prim1 G r f) (ha : DE G X W a ta fa) : DE G X W (.UnaryOp op a pos) (tUn r ta) (fun ρ => mbind (fa ρ) f) := ⟨pe_un ho ha.pe, run_un hp ha.run⟩
theorem Prim2.or {r r' : R2} {f f' : D → D → M D} {f2 : D → D → M D} (h : Prim2 G r f) (h' : Prim2 G r' f') (hf : ∀ x y, f2 x y = f x y ∨ f2 x y = f' x y) : Prim2 G (fun x y H Q => r x y H Q ∨ r' x y H Q) f2 := by
  intro W p σ H s x y vx vy Q pk rx ry fin
  rcases hf x y with e | e
  · rw [e] at fin; exact .inl (h W p σ H s x y vx vy Q pk rx ry fin)
  · rw [e] at fin; exact .inr (h' W p σ H s x y vx vy Q pk rx ry fin)
theorem PrimL.or {r r' : List V → Hp → VK → Prop} {f f' f2 : List D → M D} (h : PrimL G r f) (h' : PrimL G r' f') (hf : ∀ x, f2 x = f x ∨ f2 x = f' x) : PrimL G (fun x H Q => r x H Q ∨ r' x H Q) f2 := by
  intro W p σ H s x vx Q pk rx fin
  rcases hf x with e | e
  · rw [e] at fin; exact .inl (h W p σ H s x vx Q pk rx fin)
  · rw [e] at fin; exact .inr (h' W p σ H s x vx Q pk rx fin)
def int2 (g : Int → Int → D) : D → D → M D := fun x y => match x, y with
  | .int i, .int j => mret (g i j)
  | _, _ => mbad
def int2c (c : Int → Int → Bool) (g : Int → Int → D) : D → D → M D := fun x y => match x, y with
  | .int i, .int j => if c i j = true then mret (g i j) else mbad
  | _, _ => mbad
theorem prim_I0 {g : Int → Int → D} {gv : Int → Int → V} (hg : ∀ p H i j, Rep G p H (g i j) (gv i j)) : Prim2 G (rI0 gv) (int2 g) := by
  intro W p σ H s x y vx vy Q pk rx ry fin
  unfold int2 at fin
  split at fin
  · exact ⟨_, _, rx, ry, fin _ H Keep.refl pk (hg ..)⟩
  · exact fin.elim
theorem prim_I {C : Int → Int → Prop} {c : Int → Int → Bool} {g : Int → Int → D} {gv : Int → Int → V} (hc : ∀ i j, c i j = true → C i j) (hg : ∀ p H i j, Rep G p H (g i j) (gv i j)) : Prim2 G (rI C gv) (int2c c g) := by
  intro W p σ H s x y vx vy Q pk rx ry fin
  unfold int2c at fin
  split at fin
  · split at fin
    · rename_i h
      exact ⟨_, _, rx, ry, hc _ _ h, fin _ H Keep.refl pk (hg ..)⟩
    · exact fin.elim
  · exact fin.elim
def addI : D → D → M D := int2 fun i j => .int (i + j)
def subI : D → D → M D := int2 fun i j => .int (i - j)
def mulOk (i j : Int) : Bool := decide (j.natAbs < 2 ^ 64) || (decide (i.natAbs < 2 ^ 64) || decide (i.natAbs.log2 + j.natAbs.log2 < 1000000))
def CMulX (i j : Int) : Prop := CMul i j ∨ CMulW i j
theorem op_mulX {X : Cx} : OpR X (binaryOp .Mult) (rI CMulX fun i j => .int (i * j)) := opI fun _ _ _ _ _ _ _ hc q => PyProof.Rows.mul_int q (hc.elim CMul.ok CMulW.ok)
def mulI : D → D → M D := int2c mulOk fun i j => .int (i * j)
def powI : D → D → M D := int2c (fun i j => decide (0 ≤ j ∧ j ≤ 1000000 ∧ i.natAbs < 2 ^ 64)) fun i j => .int (i ^ j.toNat)
theorem prim_add : Prim2 G (rI0 fun i j => .int (i + j)) addI := prim_I0 fun _ _ _ _ => rfl
theorem prim_sub : Prim2 G (rI0 fun i j => .int (i - j)) subI := prim_I0 fun _ _ _ _ => rfl
theorem mulOk_of {i j : Int} (h : mulOk i j = true) : CMulX i j := by
  unfold mulOk at h
  rw [Bool.or_eq_true, Bool.or_eq_true] at h
  rcases h with h | h | h
  · have := of_decide_eq_true h
    exact .inl (.inr ⟨by omega, by omega⟩)
  · have := of_decide_eq_true h
    exact .inl (.inl ⟨by omega, by omega⟩)
  · exact .inr (of_decide_eq_true (p := i.natAbs.log2 + j.natAbs.log2 < 1000000) h)
theorem prim_mul : Prim2 G (rI CMulX fun i j => .int (i * j)) mulI := prim_I (fun i j h => mulOk_of h) fun _ _ _ _ => rfl
theorem prim_pow : Prim2 G (rI CPow fun i j => .int (i ^ j.toNat)) powI := prim_I (fun i j h => of_decide_eq_true (p := 0 ≤ j ∧ j ≤ 1000000 ∧ i.natAbs < 2 ^ 64) h) fun _ _ _ _ => rfl
def negI : D → M D := fun x => match x with
  | .int i => mret (.int (-i))
  | _ => mbad
theorem prim_neg : Prim1 G (rU fun i => .int (-i)) negI := by
  intro W p σ H s x vx Q pk rx fin
  unfold negI at fin
  split at fin
  · exact ⟨_, rx, fin _ H Keep.refl pk rfl⟩
  · exact fin.elim
def catL : D → D → M D := fun x y => match x, y with
  | .lst xs, .lst ys => if decide (xs.length + ys.length ≤ 100000) = true then mret (.lst (xs ++ ys)) else mbad
  | _, _ => mbad
theorem prim_catL : Prim2 G rCat catL := by
  intro W p σ H s x y vx vy Q pk rx ry fin
  unfold catL at fin
  split at fin
  · rename_i xs ys
    split at fin
    · rename_i h
      obtain ⟨a, vs, rfl, h0, h1, q1⟩ := rx
      obtain ⟨b, us, rfl, h0', h2, q2⟩ := ry
      have hl : vs.length + us.length ≤ sizeLine := by
        rw [← repL_len q1, ← repL_len q2]
        exact Nat.le_trans (of_decide_eq_true h) (by decide)
      refine ⟨a, b, vs, us, rfl, rfl, h1, h2, hl, fun l hn => ?_⟩
      have k : Keep p H (upd H l (.lst (vs ++ us))) := Keep.new hn
      exact fin _ _ k (pk.new hn) ⟨l, _, rfl, pk.free hn, upd_same, repL_app (repL_keep pk.at k _ _ q1) (repL_keep pk.at k _ _ q2)⟩
    · exact fin.elim
  · exact fin.elim
def addIL : D → D → M D := fun x y => match x with
  | .lst _ => catL x y
  | _ => addI x y
theorem prim_addIL : Prim2 G (fun x y H Q => (rI0 fun i j => V.int (i + j)) x y H Q ∨ rCat x y H Q) addIL := Prim2.or prim_add prim_catL fun x y => by
  unfold addIL
  cases x <;> first | exact .inr rfl | exact .inl rfl
def ltI : D → D → M D := int2 fun i j => .bl (decide (i < j))
def leI : D → D → M D := int2 fun i j => .bl (decide (i ≤ j))
def gtI : D → D → M D := int2 fun i j => .bl (decide (j < i))
def geI : D → D → M D := int2 fun i j => .bl (decide (j ≤ i))
theorem prim_lt : Prim2 G (rI0 fun i j => .bl (decide (i < j))) ltI := prim_I0 fun _ _ _ _ => rfl
theorem prim_gt : Prim2 G (rI0 fun i j => .bl (decide (j < i))) gtI := prim_I0 fun _ _ _ _ => rfl
theorem prim_ge : Prim2 G (rI0 fun i j => .bl (decide (j ≤ i))) geI := prim_I0 fun _ _ _ _ => rfl
mutual
def toP : D → Option PyData
  | .non => some .none
  | .bl b => some (.bool b)
  | .int i => some (.int i)
  | .str x => some (.str x)
  | .lst xs => (toPL xs).map .list
  | .tup xs => (toPL xs).map .tuple
  | _ => none
def toPL : List D → Option (List PyData)
  | [] => some []
  | d :: ds => match toP d, toPL ds with
    | some x, some xs => some (x :: xs)
    | _, _ => none
end
def eqDat : D → D → M D := fun x y => match toP x, toP y with
  | some a, some b => if (SeqAt.shaped a && SeqAt.shaped b) = true then mret (.bl (PyData.eqv a b)) else mbad
  | _, _ => mbad
def neDat : D → D → M D := fun x y => match toP x, toP y with
  | some a, some b => if (SeqAt.shaped a && SeqAt.shaped b) = true then mret (.bl (!PyData.eqv a b)) else mbad
  | _, _ => mbad
mutual
theorem dp_of {p : Fm} {H : Hp} : ∀ (d : D) (v : V) (x : PyData), Rep G p H d v → toP d = some x → Dp K H v x
  | .non, v, x, q, e => by obtain rfl : v = .non := q; cases e; exact .non
  | .bl b, v, x, q, e => by obtain rfl : v = .bl b := q; cases e; exact .bl b
  | .int i, v, x, q, e => by obtain rfl : v = .int i := q; cases e; exact .int i
  | .str y, v, x, q, e => by obtain rfl : v = .str y := q; cases e; exact .str y
  | .lst ds, v, x, q, e => by
    obtain ⟨a, vs, rfl, h0, h1, q1⟩ := q
    unfold toP at e
    cases h : toPL ds with
    | none => rw [h] at e; cases e
    | some xs => rw [h] at e; cases e; exact .lst (SqL.of h1) (dpAll_of ds vs xs q1 h)
  | .tup ds, v, x, q, e => by
    obtain ⟨a, vs, rfl, h0, h1, q1⟩ := q
    unfold toP at e
    cases h : toPL ds with
    | none => rw [h] at e; cases e
    | some xs => rw [h] at e; cases e; exact .tup (SqT.of h1) (dpAll_of ds vs xs q1 h)
  | .ty _, _, _, _, e => by cases e
  | .cls _, _, _, _, e => by cases e
  | .ins _ _ _, _, _, _, e => by cases e
  | .dct _ _, _, _, _, e => by cases e
  | .exo _ _ _, _, _, _, e => by cases e
  | .err _ _ _, _, _, _, e => by cases e
  | .pen, _, _, _, e => by cases e
  | .bag, _, _, _, e => by cases e
  | .self, _, _, _, e => by cases e
  | .scr _, _, _, _, e => by cases e
  | .own _, _, _, _, e => by cases e
theorem dpAll_of {p : Fm} {H : Hp} : ∀ (ds : List D) (vs : List V) (xs : List PyData), RepL G p H ds vs → toPL ds = some xs → DpAll K H vs xs
  | [], vs, xs, q, e => by
    obtain rfl : vs = [] := q
    cases e
    exact .nil
  | d :: ds, vs, xs, q, e => by
    obtain ⟨v, r, rfl, q1, q2⟩ := q
    unfold toPL at e
    cases h1 : toP d with
    | none => rw [h1] at e; cases e
    | some y =>
      cases h2 : toPL ds with
      | none => rw [h1, h2] at e; cases e
      | some ys => rw [h1, h2] at e; cases e; exact .cons (dp_of d v y q1 h1) (dpAll_of ds r ys q2 h2)
end
theorem prim_eqDat : Prim2 G (rEqD K) eqDat := by
  intro W p σ H s x y vx vy Q pk rx ry fin
  unfold eqDat at fin
  cases h1 : toP x with
  | none => rw [h1] at fin; exact False.elim fin
  | some a =>
    cases h2 : toP y with
    | none => rw [h1, h2] at fin; exact False.elim fin
    | some b =>
      rw [h1, h2] at fin
      dsimp only at fin
      by_cases h3 : (SeqAt.shaped a && SeqAt.shaped b) = true
      · rw [if_pos h3] at fin
        rw [Bool.and_eq_true] at h3
        exact ⟨a, b, dp_of x vx a rx h1, dp_of y vy b ry h2, h3.1, h3.2, fin _ H Keep.refl pk rfl⟩
      · rw [if_neg h3] at fin; exact False.elim fin
theorem prim_neDat : Prim2 G (rNeD K) neDat := by
  intro W p σ H s x y vx vy Q pk rx ry fin
  unfold neDat at fin
  cases h1 : toP x with
  | none => rw [h1] at fin; exact False.elim fin
  | some a =>
    cases h2 : toP y with
    | none => rw [h1, h2] at fin; exact False.elim fin
    | some b =>
      rw [h1, h2] at fin
      dsimp only at fin
      by_cases h3 : (SeqAt.shaped a && SeqAt.shaped b) = true
      · rw [if_pos h3] at fin
        rw [Bool.and_eq_true] at h3
        exact ⟨a, b, dp_of x vx a rx h1, dp_of y vy b ry h2, h3.1, h3.2, fin _ H Keep.refl pk rfl⟩
      · rw [if_neg h3] at fin; exact False.elim fin
def eqA : D → D → M D := fun x y => match x, y with
  | .int i, .int j => mret (.bl (decide (i = j)))
  | .bl i, .bl j => mret (.bl (decide (i = j)))
  | .str i, .str j => mret (.bl (decide (i = j)))
  | _, _ => eqDat x y
def neA : D → D → M D := fun x y => match x, y with
  | .int i, .int j => mret (.bl (!decide (i = j)))
  | .bl i, .bl j => mret (.bl (!decide (i = j)))
  | .str i, .str j => mret (.bl (!decide (i = j)))
  | _, _ => neDat x y
theorem dec_vint {i j : Int} : decide (V.int i = V.int j) = decide (i = j) := by
  by_cases h : i = j
  · subst h; simp
  · rw [decide_eq_false h, decide_eq_false fun z => h (V.int.inj z)]
theorem dec_vbl {i j : Bool} : decide (V.bl i = V.bl j) = decide (i = j) := by
  by_cases h : i = j
  · subst h; simp
  · rw [decide_eq_false h, decide_eq_false fun z => h (V.bl.inj z)]
theorem dec_vstr {i j : Str} : decide (V.str i = V.str j) = decide (i = j) := by
  by_cases h : i = j
  · subst h; simp
  · rw [decide_eq_false h, decide_eq_false fun z => h (V.str.inj z)]
theorem prim_eq : Prim2 G (fun x y H Q => rEq x y H Q ∨ rEqD K x y H Q) eqA := by
  intro W p σ H s x y vx vy Q pk rx ry fin
  unfold eqA at fin
  split at fin
  · rename_i i j
    obtain rfl : vx = .int i := rx
    obtain rfl : vy = .int j := ry
    exact .inl ⟨rfl, by rw [dec_vint]; exact fin _ H Keep.refl pk rfl⟩
  · rename_i i j
    obtain rfl : vx = .bl i := rx
    obtain rfl : vy = .bl j := ry
    exact .inl ⟨rfl, by rw [dec_vbl]; exact fin _ H Keep.refl pk rfl⟩
  · rename_i i j
    obtain rfl : vx = .str i := rx
    obtain rfl : vy = .str j := ry
    exact .inl ⟨rfl, by rw [dec_vstr]; exact fin _ H Keep.refl pk rfl⟩
  · exact .inr (prim_eqDat W p σ H s x y vx vy Q pk rx ry fin)
theorem prim_ne : Prim2 G (fun x y H Q => rNe x y H Q ∨ rNeD K x y H Q) neA := by
  intro W p σ H s x y vx vy Q pk rx ry fin
  unfold neA at fin
  split at fin
  · rename_i i j
    obtain rfl : vx = .int i := rx
    obtain rfl : vy = .int j := ry
    exact .inl ⟨rfl, by rw [dec_vint]; exact fin _ H Keep.refl pk rfl⟩
  · rename_i i j
    obtain rfl : vx = .bl i := rx
    obtain rfl : vy = .bl j := ry
    exact .inl ⟨rfl, by rw [dec_vbl]; exact fin _ H Keep.refl pk rfl⟩
  · rename_i i j
    obtain rfl : vx = .str i := rx
    obtain rfl : vy = .str j := ry
    exact .inl ⟨rfl, by rw [dec_vstr]; exact fin _ H Keep.refl pk rfl⟩
  · exact .inr (prim_neDat W p σ H s x y vx vy Q pk rx ry fin)
theorem op_eqA (hK : X.K = K) (hu : X.A.units + 64 < cLine) : OpR X (compareOp .Eq) (fun x y H Q => rEq x y H Q ∨ rEqD K x y H Q) := by
  subst hK; exact op_eq.or (op_eqD hu)
theorem op_neA (hK : X.K = K) (hu : X.A.units + 64 < cLine) : OpR X (compareOp .NotEq) (fun x y H Q => rNe x y H Q ∨ rNeD K x y H Q) := by
  subst hK; exact op_ne.or (op_neD hu)
def isNo : D → D → M D := fun x y => match y with
  | .non => (match x with
    | .non => mret (.bl true)
    | _ => mret (.bl false))
  | _ => mbad
def notNo : D → D → M D := fun x y => match y with
  | .non => (match x with
    | .non => mret (.bl false)
    | _ => mret (.bl true))
  | _ => mbad
def isBo : D → D → M D := fun x y => match x, y with
  | .bl i, .bl j => mret (.bl (decide (i = j)))
  | _, _ => mbad
def asB (d : D) : M Bool := match d with
  | .bl b => mret b
  | _ => mbad
theorem run_tB (h : RunG G W (RelE G) te fe) : RunG G W RelB (tB te) (fun ρ => mbind (fe ρ) asB) := by
  intro p σ H ρ s Q e pk fin
  refine h p σ H ρ s _ e pk (fin.step fun x s1 vx H1 k1 pk1 rx fin1 => ?_)
  unfold asB at fin1
  split at fin1
  · exact ⟨_, rx, fin1 _ H1 Keep.refl pk1 rfl⟩
  · exact False.elim fin1
theorem dt_val {e : Expr} (h : DE G X W e te fe) (he : ∀ whole, isTrue e X.env whole = (do let v ← whole; standAt e.pos; holding [v] (truthy v)) := by intro _; rfl) : DT G X W e (tB te) (fun ρ => mbind (fe ρ) asB) :=
  ⟨pt_val h.pe he, run_tB h.run⟩
theorem dt_cmp {op : CmpOp} (ho : OpR X (compareOp op) r) (hp : Prim2 G r f) (ha : DE G X W a ta fa) (hb : DE G X W b tb fb) (hm : behindInMarks op b = false := by first | exact nomark _ | rfl) :
    DT G X W (.Compare a [op] [b] pos) (tTest (tOp r ta tb)) (fun ρ => mbind (mbind (fa ρ) fun x => mbind (fb ρ) fun y => f x y) asB) :=
  ⟨pt_cmpR ho ha.pe hb.pe hm, run_tB (te := tOp r ta tb) (run_op hp ha.run hb.run)⟩
variable {A1 A2 : TT} {f1 f2 : Loc → M Bool} {rest : List Expr}
theorem dw_and1 (ha : DT G X W a A1 f1) : DW G X W (.BoolOp .And [a] pos) A1 f1 := ⟨pw_and1 ha.pt, ha.run⟩
theorem dw_or1 (ha : DT G X W a A1 f1) : DW G X W (.BoolOp .Or [a] pos) A1 f1 := ⟨pw_or1 ha.pt, ha.run⟩
theorem run_and (h1 : RunG G W RelB A1 f1) (h2 : RunG G W RelB A2 f2) : RunG G W RelB (tAnd A1 A2) (fun ρ => mbind (f1 ρ) fun c => if c = true then f2 ρ else mret false) := by
  intro p σ H ρ s Q e pk fin
  refine h1 p σ H ρ s _ e pk (fin.step fun x s1 b H1 k1 pk1 rx fin1 => ?_)
  obtain rfl : b = x := rx
  cases b with
  | true =>
    show (if true = true then A2 σ H1 Q else Q false H1)
    rw [if_pos rfl] at fin1 ⊢
    exact h2 p σ H1 ρ s1 Q (e.keep pk.at k1) pk1 fin1
  | false =>
    show (if false = true then A2 σ H1 Q else Q false H1)
    rw [if_neg Bool.false_ne_true] at fin1 ⊢
    exact fin1 _ H1 Keep.refl pk1 rfl
theorem run_or (h1 : RunG G W RelB A1 f1) (h2 : RunG G W RelB A2 f2) : RunG G W RelB (tOr A1 A2) (fun ρ => mbind (f1 ρ) fun c => if c = true then mret true else f2 ρ) := by
  intro p σ H ρ s Q e pk fin
  refine h1 p σ H ρ s _ e pk (fin.step fun x s1 b H1 k1 pk1 rx fin1 => ?_)
  obtain rfl : b = x := rx
  cases b with
  | true =>
    show (if true = true then Q true H1 else A2 σ H1 Q)
    rw [if_pos rfl] at fin1 ⊢
    exact fin1 _ H1 Keep.refl pk1 rfl
  | false =>
    show (if false = true then Q true H1 else A2 σ H1 Q)
    rw [if_neg Bool.false_ne_true] at fin1 ⊢
    exact h2 p σ H1 ρ s1 Q (e.keep pk.at k1) pk1 fin1
theorem dw_and (ha : DT G X W a A1 f1) (hb : DW G X W (.BoolOp .And (b :: rest) pos) A2 f2) : DW G X W (.BoolOp .And (a :: b :: rest) pos) (tAnd A1 A2) (fun ρ => mbind (f1 ρ) fun c => if c = true then f2 ρ else mret false) := ⟨pw_and ha.pt hb.pw, run_and ha.run hb.run⟩
theorem dw_or (ha : DT G X W a A1 f1) (hb : DW G X W (.BoolOp .Or (b :: rest) pos) A2 f2) : DW G X W (.BoolOp .Or (a :: b :: rest) pos) (tOr A1 A2) (fun ρ => mbind (f1 ρ) fun c => if c = true then mret true else f2 ρ) := ⟨pw_or ha.pt hb.pw, run_or ha.run hb.run⟩
theorem dt_w {e : Expr} (h : DW G X W e A1 f1) : DT G X W e A1 f1 := ⟨h.pw.pt, h.run⟩
theorem dt_not (ha : DT G X W a A1 f1) : DT G X W (.UnaryOp .Not a pos) (tNot A1) (fun ρ => mbind (f1 ρ) fun c => mret (!c)) := by
  refine ⟨pt_not ha.pt, fun p σ H ρ s Q e pk fin => ?_⟩
  refine ha.run p σ H ρ s _ e pk (fin.step fun x s1 b H1 k1 pk1 rx fin1 => ?_)
  obtain rfl : b = x := rx
  exact fin1 _ H1 Keep.refl pk1 rfl
theorem de_one {op} (h : DE G X W a ta fa) : DE G X W (.BoolOp op [a] pos) ta fa := ⟨pe_one h.pe, h.run⟩
theorem de_and (ha : DE G X W a ta fa) (hb : DE G X W (.BoolOp .And (b :: rest) pos) tb fb) : DE G X W (.BoolOp .And (a :: b :: rest) pos) (tAndV ta tb) (fun ρ => mbind (mbind (fa ρ) asB) fun c => if c = true then fb ρ else mret (.bl false)) := by
  refine ⟨pe_and ha.pe hb.pe, fun p σ H ρ s Q e pk fin => ?_⟩
  refine (run_tB ha.run) p σ H ρ s (fun c H1 => if c = true then tb σ H1 Q else Q (.bl false) H1) e pk (fin.step fun x s1 b H1 k1 pk1 rx fin1 => ?_)
  obtain rfl : b = x := rx
  cases b with
  | true =>
    rw [if_pos rfl] at fin1 ⊢
    exact hb.run p σ H1 ρ s1 Q (e.keep pk.at k1) pk1 fin1
  | false =>
    rw [if_neg Bool.false_ne_true] at fin1 ⊢
    exact fin1 _ H1 Keep.refl pk1 rfl
variable {e : Expr} {es : List Expr} {tA : TA} {fA : Loc → M (List D)}
theorem da_nil : DA G X W [] tNil (fun _ => mret []) := ⟨pa_nil, fun _ _ H _ _ _ _ pk fin => fin [] H Keep.refl pk rfl⟩
theorem da_cons (ha : DE G X W e te fe) (hr : DA G X W es tA fA) (hs : starEach (e :: es) X.env = (false, eval e X.env) :: starEach es X.env := by rfl) : DA G X W (e :: es) (tCons te tA) (fun ρ => mbind (fe ρ) fun x => mbind (fA ρ) fun xs => mret (x :: xs)) := by
  refine ⟨pa_cons ha.pe hr.pa hs, fun p σ H ρ s Q e pk fin => ?_⟩
  exact ha.run p σ H ρ s _ e pk (fin.step fun x s1 vx H1 k1 pk1 rx fin1 => hr.run p σ H1 ρ s1 _ (e.keep pk.at k1) pk1 (fin1.step fun xs s2 vs H2 k2 pk2 rs fin2 =>
    fin2 _ H2 Keep.refl pk2 ⟨vx, vs, rfl, rep_keep pk1.at k2 x vx rx, rs⟩))
def tupD (xs : List D) : M D := if decide (xs.length ≤ 100000) = true then mret (.tup xs) else mbad
def lstD (xs : List D) : M D := if decide (xs.length ≤ 100000) = true then mret (.lst xs) else mbad
theorem de_tup {x1} (h : DA G X W es tA fA) : DE G X W (.Tuple es x1 pos) (tTup tA) (fun ρ => mbind (fA ρ) tupD) := by
  refine ⟨pe_tup h.pa, fun p σ H ρ s Q e pk fin => ?_⟩
  refine h.run p σ H ρ s _ e pk (fin.step fun xs s1 vs H1 k1 pk1 rs fin1 => ?_)
  unfold tupD at fin1
  split at fin1
  · rename_i hl
    refine ⟨by rw [← repL_len rs]; exact Nat.le_trans (of_decide_eq_true hl) (by decide), fun q hq => ?_⟩
    have k : Keep p H1 (upd H1 q (.tup vs)) := Keep.new hq
    exact fin1 _ _ k (pk1.new hq) ⟨q, vs, rfl, pk1.free hq, upd_same, repL_keep pk1.at k _ _ rs⟩
  · exact False.elim fin1
theorem de_lst (h : DA G X W es tA fA) : DE G X W (.List es pos) (tLst tA) (fun ρ => mbind (fA ρ) lstD) := by
  refine ⟨pe_lst h.pa, fun p σ H ρ s Q e pk fin => ?_⟩
  refine h.run p σ H ρ s _ e pk (fin.step fun xs s1 vs H1 k1 pk1 rs fin1 => ?_)
  unfold lstD at fin1
  split at fin1
  · rename_i hl
    refine ⟨by rw [← repL_len rs]; exact Nat.le_trans (of_decide_eq_true hl) (by decide), fun q hq => ?_⟩
    have k : Keep p H1 (upd H1 q (.lst vs)) := Keep.new hq
    exact fin1 _ _ k (pk1.new hq) ⟨q, vs, rfl, pk1.free hq, upd_same, repL_keep pk1.at k _ _ rs⟩
  · exact False.elim fin1
theorem atI_rep {p : Fm} {H : Hp} {ds : List D} {vs : List V} {i : Int} {d : D} (q : RepL G p H ds vs) (h : atI ds i = some d) : ∃ v, atI vs i = some v ∧ Rep G p H d v := by
  unfold atI at h ⊢
  rw [← repL_len q]
  cases e : ixN ds.length i with
  | none => rw [e] at h; cases h
  | some j =>
    rw [e] at h
    exact repL_get (i := j) q h
def itemD : D → D → M D := fun x y => match x, y with
  | .lst xs, .int i => (match atI xs i with
    | some d => mret d
    | none => mbad)
  | .tup xs, .int i => (match atI xs i with
    | some d => mret d
    | none => mbad)
  | _, _ => mbad
theorem prim_item : Prim2 G (fun x y H Q => rIxL K x y H Q ∨ rIxT K x y H Q) itemD := by
  intro W p σ H s x y vx vy Q pk rx ry fin
  unfold itemD at fin
  split at fin
  · rename_i xs i
    obtain ⟨a, vs, rfl, h0, h1, q1⟩ := rx
    obtain rfl : vy = .int i := ry
    cases h : atI xs i with
    | none => rw [h] at fin; exact False.elim fin
    | some d =>
      rw [h] at fin
      obtain ⟨v, h2, h3⟩ := atI_rep q1 h
      exact .inl ⟨a, vs, i, v, rfl, rfl, SqL.of h1, h2, fin v H Keep.refl pk h3⟩
  · rename_i xs i
    obtain ⟨a, vs, rfl, h0, h1, q1⟩ := rx
    obtain rfl : vy = .int i := ry
    cases h : atI xs i with
    | none => rw [h] at fin; exact False.elim fin
    | some d =>
      rw [h] at fin
      obtain ⟨v, h2, h3⟩ := atI_rep q1 h
      exact .inr ⟨a, vs, i, v, rfl, rfl, SqT.of h1, h2, fin v H Keep.refl pk h3⟩
  · exact False.elim fin
theorem ix_any (hK : X.K = K) : IxR X (fun x y H Q => rIxL K x y H Q ∨ rIxT K x y H Q) := by subst hK; exact ix_list.or ix_tup
theorem de_ix (hK : X.K = K) (ha : DE G X W a ta fa) (hb : DE G X W b tb fb) (hs : PlainIx b := by exact fun _ _ => rfl) : DE G X W (.Subscript a b pos) (tOp (fun x y H Q => rIxL K x y H Q ∨ rIxT K x y H Q) ta tb) (fun ρ => mbind (fa ρ) fun x => mbind (fb ρ) fun y => itemD x y) :=
  ⟨pe_ix (ix_any hK) ha.pe hb.pe hs, run_op prim_item ha.run hb.run⟩
def spM (G : Gt) (n : Nat) (m : List D → M D) : Sp := fun vs H Q E => vs.length = n ∧ ∃ (p : Fm) (ds : List D) (s : Pen), RepL G p H ds vs ∧ PenOk G p H s ∧ FinG G (fun c d _ H' => E c d H') (RelE G) p [] H Q (m ds s)
theorem FinG.wx {α β : Type} {W W' : WX} {R : Fm → Hp → α → β → Prop} {p : Fm} {σ σ' : St} {H : Hp} {Q : β → Hp → Prop} {o : Out α} (h : FinG G W R p σ H Q o) (hw : ∀ c d H', W c d σ H' → W' c d σ' H') : FinG G W' R p σ' H Q o := by
  cases o with
  | ok a s => exact h
  | exc c ns xs s => exact fun dd H' k pk x => hw _ _ _ (h dd H' k pk x)
  | bad => exact h
theorem run_call {n : Nat} {m : List D → M D} (ha : RunG G W (RelA G) tA fA) (hl : ∀ ρ s ds s', fA ρ s = .ok ds s' → ds.length = n) : RunG G W (RelE G) (tCallS (spM G n m) (WE W) tA) (fun ρ => mbind (fA ρ) m) := by
  intro p σ H ρ s Q e pk fin
  show tA σ H fun vs H1 => spM G n m vs H1 Q (WE W σ)
  have fin' : FinG G W (RelE G) p σ H Q (obind (fA ρ s) m) := fin
  refine ha p σ H ρ s _ e pk ?_
  cases h : fA ρ s with
  | ok ds s1 =>
    rw [h] at fin'
    intro vs H1 k1 pk1 rs
    exact ⟨by rw [← repL_len rs]; exact hl ρ s ds s1 h, p, ds, s1, rs, pk1, (FinG.keep k1 fin').wx fun _ _ _ z => z⟩
  | exc c ns xs s1 => rw [h] at fin'; exact fin'
  | bad => rw [h] at fin'; exact fin'
def LenA (fA : Loc → M (List D)) (n : Nat) : Prop := ∀ ρ s ds s', fA ρ s = .ok ds s' → ds.length = n
theorem len_nil : LenA (fun _ => mret []) 0 := fun _ _ _ _ h => by cases h; rfl
theorem len_cons {n : Nat} (h : LenA fA n) : LenA (fun ρ => mbind (fe ρ) fun x => mbind (fA ρ) fun xs => mret (x :: xs)) (n + 1) := by
  intro ρ s ds s' e
  have e : obind (fe ρ s) (fun x => mbind (fA ρ) fun xs => mret (x :: xs)) = .ok ds s' := e
  cases h1 : fe ρ s with
  | ok x s1 =>
    rw [h1] at e
    have e : obind (fA ρ s1) (fun xs => mret (x :: xs)) = .ok ds s' := e
    cases h2 : fA ρ s1 with
    | ok xs s2 =>
      rw [h2] at e
      cases e
      rw [List.length_cons, h ρ s1 xs _ h2]
    | exc c ns xs s2 => rw [h2] at e; cases e
    | bad => rw [h2] at e; cases e
  | exc c ns xs s2 => rw [h1] at e; cases e
  | bad => rw [h1] at e; cases e
theorem de_call {k n : Nat} {f : Addr} {fd : FuncData} {ps : List Str} {m : List D → M D} {x : Str} {p0 : Pos} (F : FnOk X.prog X.w X.K X.mg X.base (L2.CX X.prog X.w) k f fd ps (spM G n m)) (hr : Room k X.A) (tk : Takes X W) (hg : Gl X x) (hm : X.mg x = some (.ref f)) (hk : PySem.W.keepIn X.K (.ref f) = true) (hb : Binds X.K fd ps [])
    (ha : DA G X W (e :: es) tA fA) (hl : LenA fA n) (hdb : (x == ("__debug__" : Str)) = false := by decide) (he : starEach (e :: es) X.env = (false, eval e X.env) :: starEach es X.env := by rfl) (hpl : (backTo pos (starEach es X.env)).any (·.1) = false := by rfl) :
    DE G X W (.Call (.Name x p0) (e :: es) [] pos) (tCallS (spM G n m) (WE W) tA) (fun ρ => mbind (fA ρ) m) :=
  ⟨pe_callS F hr hg hm hk hb (fun σ => passAt tk σ) ha.pa hdb he hpl, run_call ha.run hl⟩
theorem run_prim {rl : List V → Hp → VK → Prop} {g : List D → M D} (hp : PrimL G rl g) (ha : RunG G W (RelA G) tA fA) : RunG G W (RelE G) (tCB rl tA) (fun ρ => mbind (fA ρ) g) := by
  intro p σ H ρ s Q e pk fin
  exact ha p σ H ρ s _ e pk (fin.step fun xs s1 vs H1 k1 pk1 rs fin1 => hp W p σ H1 s1 xs vs Q pk1 rs fin1)
theorem de_callB {x : Str} {p0 : Pos} {id : String} {rl : List V → Hp → VK → Prop} {g : List D → M D} (hc : CallR X (.builtin id) rl) (hp : PrimL G rl g) (hg : Gl X x) (hm : X.mg x = none) (hv : bootBuiltins x = some (.builtin id)) (ha : DA G X W (e :: es) tA fA) (hn : x ≠ "__name__" := by decide) (hdb : (x == ("__debug__" : Str)) = false := by decide)
    (he : starEach (e :: es) X.env = (false, eval e X.env) :: starEach es X.env := by rfl) (hpl : (backTo pos (starEach es X.env)).any (·.1) = false := by rfl) : DE G X W (.Call (.Name x p0) (e :: es) [] pos) (tCB rl tA) (fun ρ => mbind (fA ρ) g) :=
  ⟨pe_callB hc hg hm hv ha.pa hn hdb he hpl, run_prim hp ha.run⟩
theorem de_callTy {x : Str} {p0 : Pos} {T : String} {rl : List V → Hp → VK → Prop} {g : List D → M D} (hc : CallR X (.type T) rl) (hp : PrimL G rl g) (hg : Gl X x) (hm : X.mg x = none) (hv : bootBuiltins x = some (.type T)) (ha : DA G X W (e :: es) tA fA) (hn : x ≠ "__name__" := by decide) (hdb : (x == ("__debug__" : Str)) = false := by decide)
    (he : starEach (e :: es) X.env = (false, eval e X.env) :: starEach es X.env := by rfl) (hpl : (backTo pos (starEach es X.env)).any (·.1) = false := by rfl) : DE G X W (.Call (.Name x p0) (e :: es) [] pos) (tCB rl tA) (fun ρ => mbind (fA ρ) g) :=
  ⟨pe_callTy hc hg hm hv ha.pa hn hdb he hpl, run_prim hp ha.run⟩
end
end Tw
namespace Tw
open PySem L2
inductive OutS where
  | nx (ρ : Loc) (s : Pen)
  | ret (d : D) (s : Pen)
  | bk (ρ : Loc) (s : Pen)
  | ct (ρ : Loc) (s : Pen)
  | exc (c : Nat) (ns : List Str) (xs : List D) (ρ : Loc) (s : Pen)
  | bad
abbrev MS := Loc → Pen → OutS
section
variable {K : PySem.W.Frag} {G : Gt} {W : WX} {X : Cx}
def FinS (G : Gt) (W : WX) (p : Fm) (H : Hp) (Z : Ends) : OutS → Prop
  | .nx ρ s => ∀ σ' H', Keep p H H' → PenOk G p H' s → EnvOk G p H' σ' ρ → Z.nx σ' H'
  | .ret d s => ∀ v H', Keep p H H' → PenOk G p H' s → Rep G p H' d v → Z.rt v H'
  | .bk ρ s => ∀ σ' H', Keep p H H' → PenOk G p H' s → EnvOk G p H' σ' ρ → Z.bk σ' H'
  | .ct ρ s => ∀ σ' H', Keep p H H' → PenOk G p H' s → EnvOk G p H' σ' ρ → Z.ct σ' H'
  | .exc c ns xs ρ s => ∀ dd σ' H', Keep p H H' → PenOk G p H' s → EnvOk G p H' σ' ρ → ExcOk G p H' ns xs dd → W (.ref (G.cls c)) dd σ' H'
  | .bad => False
theorem FinS.keep {p : Fm} {H H' : Hp} {Z : Ends} {o : OutS} (k : Keep p H H') (h : FinS G W p H Z o) : FinS G W p H' Z o := by
  cases o with
  | nx ρ s => exact fun σ' H2 k2 => h σ' H2 (k.trans k2)
  | ret d s => exact fun v H2 k2 => h v H2 (k.trans k2)
  | bk ρ s => exact fun σ' H2 k2 => h σ' H2 (k.trans k2)
  | ct ρ s => exact fun σ' H2 k2 => h σ' H2 (k.trans k2)
  | exc c ns xs ρ s => exact fun dd σ' H2 k2 => h dd σ' H2 (k.trans k2)
  | bad => exact h
def RunS (G : Gt) (W : WX) (t : TS) (m : MS) : Prop := ∀ (p : Fm) (σ : St) (H : Hp) (ρ : Loc) (s : Pen) (Z : Ends), EnvOk G p H σ ρ → PenOk G p H s → FinS G W p H Z (m ρ s) → t Z σ H
structure DS (G : Gt) (X : Cx) (W : WX) (st : Stmt) (t : TS) (m : MS) : Prop where
  ps : PS X st t
  run : RunS G W t m
structure DSs (G : Gt) (X : Cx) (W : WX) (st : List Stmt) (t : TS) (m : MS) : Prop where
  ps : PSs X st t
  run : RunS G W t m
variable {st : Stmt} {sts : List Stmt} {t u tb : TS} {m m' mb : MS} {a b c e : Expr} {ta te : TE} {fa fe : Loc → M D} {pos : Pos} {es : List Expr} {tA : TA} {fA : Loc → M (List D)} {A1 : TT} {f1 : Loc → M Bool}
def sseq (m m' : MS) : MS := fun ρ s => match m ρ s with
  | .nx ρ' s' => m' ρ' s'
  | .ret d s' => .ret d s'
  | .bk ρ' s' => .bk ρ' s'
  | .ct ρ' s' => .ct ρ' s'
  | .exc c ns xs ρ' s' => .exc c ns xs ρ' s'
  | .bad => .bad
theorem run_seq (h1 : RunS G W t m) (h2 : RunS G W u m') : RunS G W (tSeq t u) (sseq m m') := by
  intro p σ H ρ s Z e pk fin
  refine h1 p σ H ρ s _ e pk ?_
  unfold sseq at fin
  cases h : m ρ s with
  | nx ρ' s' => rw [h] at fin; exact fun σ' H' k pk' e' => h2 p σ' H' ρ' s' Z e' pk' (FinS.keep k fin)
  | ret d s' => rw [h] at fin; exact fin
  | bk ρ' s' => rw [h] at fin; exact fin
  | ct ρ' s' => rw [h] at fin; exact fin
  | exc c ns xs ρ' s' => rw [h] at fin; exact fin
  | bad => rw [h] at fin; exact fin
theorem dss_nil : DSs G X W [] tNext (fun ρ s => .nx ρ s) := ⟨pss_nil, fun p σ H ρ s Z e pk fin => fin σ H Keep.refl pk e⟩
theorem dss_cons (h1 : DS G X W st t m) (h2 : DSs G X W sts u m') : DSs G X W (st :: sts) (tSeq t u) (sseq m m') := ⟨pss_cons h1.ps h2.ps, run_seq h1.run h2.run⟩
theorem dss_one (h1 : DS G X W st t m) : DSs G X W [st] t m := ⟨pss_one h1.ps, h1.run⟩
def sof {α : Type} (o : Out α) (ρ : Loc) (k : α → Pen → OutS) : OutS := match o with
  | .ok a s => k a s
  | .exc c ns xs s => .exc c ns xs ρ s
  | .bad => .bad
theorem FinS.step {α β : Type} {R : Fm → Hp → α → β → Prop} {p : Fm} {σ : St} {H : Hp} {ρ : Loc} {Z : Ends} {o : Out α} {k : α → Pen → OutS} {Q : β → Hp → Prop} (fin : FinS G W p H Z (sof o ρ k)) (e : ∀ H1 s1, Keep p H H1 → PenOk G p H1 s1 → EnvOk G p H1 σ ρ)
    (hb : ∀ a s1 b H1, Keep p H H1 → PenOk G p H1 s1 → R p H1 a b → FinS G W p H1 Z (k a s1) → Q b H1) : FinG G W R p σ H Q o := by
  cases o with
  | ok a s1 => exact fun b H1 k1 pk1 r => hb a s1 b H1 k1 pk1 r (FinS.keep k1 fin)
  | exc c ns xs s1 => exact fun dd H1 k1 pk1 x => fin dd σ H1 k1 pk1 (e H1 s1 k1 pk1) x
  | bad => exact fin
theorem ds_ret (he : DE G X W e te fe) : DS G X W (.Return (some e) pos) (tRet te) (fun ρ s => sof (fe ρ s) ρ fun d s' => .ret d s') := by
  refine ⟨ps_ret he.pe, fun p σ H ρ s Z e pk fin => ?_⟩
  exact he.run p σ H ρ s _ e pk (fin.step (fun H1 s1 k1 pk1 => e.keep pk.at k1) fun d s1 v H1 k1 pk1 rd fin1 => fin1 v H1 Keep.refl pk1 rd)
theorem ds_if {x y : List Stmt} (hc : DT G X W c A1 f1) (ha : DSs G X W x t m) (hb : DSs G X W y u m') : DS G X W (.If c x y pos) (tIfS A1 t u) (fun ρ s => sof (f1 ρ s) ρ fun k s' => if k = true then m ρ s' else m' ρ s') := by
  refine ⟨ps_if hc.pt ha.ps hb.ps, fun p σ H ρ s Z e pk fin => ?_⟩
  refine hc.run p σ H ρ s _ e pk (fin.step (fun H1 s1 k1 pk1 => e.keep pk.at k1) fun x s1 b H1 k1 pk1 rx fin1 => ?_)
  obtain rfl : b = x := rx
  cases b with
  | true =>
    rw [if_pos rfl] at fin1 ⊢
    exact ha.run p σ H1 ρ s1 Z (e.keep pk.at k1) pk1 fin1
  | false =>
    rw [if_neg Bool.false_ne_true] at fin1 ⊢
    exact hb.run p σ H1 ρ s1 Z (e.keep pk.at k1) pk1 fin1
def Off (vs : List Nat) (σ σ' : St) : Prop := σ'.length = σ.length ∧ ∀ i, i ∉ vs → σ'[i]? = σ[i]?
def RunGt (G : Gt) (vs : List Nat) (g : TG) (gm : D → Loc → Option Loc) : Prop :=
  ∀ (p : Fm) (σ : St) (H : Hp) (ρ : Loc) (d : D) (v : V) (Q : St → Hp → Prop), EnvOk G p H σ ρ → Rep G p H d v → (match gm d ρ with | some ρ' => ∀ σ', EnvOk G p H σ' ρ' → Off vs σ σ' → Q σ' H | none => False) → g v σ H Q
def RunGs (G : Gt) (vs : List Nat) (g : TGs) (gm : List D → Loc → Option Loc) : Prop :=
  ∀ (p : Fm) (σ : St) (H : Hp) (ρ : Loc) (ds : List D) (us : List V) (Q : St → Hp → Prop), EnvOk G p H σ ρ → RepL G p H ds us → (match gm ds ρ with | some ρ' => ∀ σ', EnvOk G p H σ' ρ' → Off vs σ σ' → Q σ' H | none => False) → g us σ H Q
structure DG (G : Gt) (X : Cx) (vs : List Nat) (tg : Expr) (g : TG) (gm : D → Loc → Option Loc) : Prop where
  pg : PG X tg g
  run : RunGt G vs g gm
structure DGs (G : Gt) (X : Cx) (vs : List Nat) (tg : List Expr) (g : TGs) (gm : List D → Loc → Option Loc) : Prop where
  pg : PGs X tg g
  run : RunGs G vs g gm
theorem off_set {σ : St} {i : Nat} {o : Option V} {vs : List Nat} (h : i ∈ vs) : Off vs σ (σ.set i o) := ⟨by simp, fun j hj => by
  rw [List.getElem?_set, if_neg]
  intro e
  subst e
  exact hj h⟩
theorem Off.trans {vs : List Nat} {σ σ1 σ2 : St} (a : Off vs σ σ1) (b : Off vs σ1 σ2) : Off vs σ σ2 := ⟨b.1.trans a.1, fun i hi => (b.2 i hi).trans (a.2 i hi)⟩
theorem Off.refl {vs : List Nat} {σ : St} : Off vs σ σ := ⟨rfl, fun _ _ => rfl⟩
def gnm (i : Nat) : D → Loc → Option Loc := fun d ρ => some (ρ.set i (some d))
theorem dg_name {vs : List Nat} {i : Nat} {x : Str} (hv : i ∈ vs) (hN : X.N.Nodup) (hi : X.N[i]? = some x := by rfl) (hx : L2.Loc X.env.scope x := by first | exact Or.inl rfl | exact Or.inr rfl) (hf : X.fn x = true ∨ X.env.scope.names.lookup x = some .local := by first | exact .inl rfl | exact .inr rfl | assumption) : DG G X vs (.Name x pos) (gName i) (gnm i) :=
  ⟨pg_name hN hi hx hf, fun p σ H ρ d v Q e rd h => h _ (e.set rd) (off_set hv)⟩
theorem dgs_nil {vs : List Nat} : DGs G X vs [] gNil (fun ds ρ => match ds with | [] => some ρ | _ => none) := by
  refine ⟨pgs_nil, fun p σ H ρ ds us Q e rs h => ?_⟩
  cases ds with
  | nil =>
    obtain rfl : us = [] := rs
    exact ⟨rfl, h _ e Off.refl⟩
  | cons d ds => exact h.elim
def gcn (g1 : D → Loc → Option Loc) (g2 : List D → Loc → Option Loc) : List D → Loc → Option Loc := fun ds ρ => match ds with
  | d :: r => (match g1 d ρ with
    | some ρ' => g2 r ρ'
    | none => none)
  | [] => none
theorem dgs_cons {vs : List Nat} {g : TG} {gs : TGs} {g1 : D → Loc → Option Loc} {g2 : List D → Loc → Option Loc} (h1 : DG G X vs e g g1) (h2 : DGs G X vs es gs g2) (hp : PGs X (e :: es) (gCons g gs)) : DGs G X vs (e :: es) (gCons g gs) (gcn g1 g2) := by
  refine ⟨hp, fun p σ H ρ ds us Q en rs h => ?_⟩
  cases ds with
  | nil => exact h.elim
  | cons d r =>
    obtain ⟨v, vr, rfl, rd, rr⟩ := rs
    refine ⟨v, vr, rfl, ?_⟩
    refine h1.run p σ H ρ d v _ en rd ?_
    unfold gcn at h
    dsimp only at h
    cases q : g1 d ρ with
    | none => rw [q] at h; exact h.elim
    | some ρ' =>
      rw [q] at h
      intro σ' e' o'
      refine h2.run p σ' H ρ' r vr Q e' rr ?_
      dsimp only at h
      cases q2 : g2 r ρ' with
      | none => rw [q2] at h; exact h.elim
      | some ρ2 =>
        rw [q2] at h
        exact fun σ2 e2 o2 => h σ2 e2 (o'.trans o2)
def gtm (n : Nat) (g : List D → Loc → Option Loc) : D → Loc → Option Loc := fun d ρ => match d with
  | .tup ds => if decide (ds.length = n) = true then g ds ρ else none
  | _ => none
theorem dg_tup {vs : List Nat} {n : Nat} {gs : TGs} {g2 : List D → Loc → Option Loc} {tg : Expr} (h : RunGs G vs gs g2) (hp : PG X tg (gTup K n gs)) : DG G X vs tg (gTup K n gs) (gtm n g2) := by
  refine ⟨hp, fun p σ H ρ d v Q en rd q => ?_⟩
  unfold gtm at q
  cases d <;> first
    | exact q.elim
    | skip
  rename_i ds
  obtain ⟨a, us, rfl, h0, h1, rs⟩ := rd
  dsimp only at q
  by_cases hl : ds.length = n
  · rw [if_pos (decide_eq_true hl)] at q
    exact ⟨a, us, rfl, SqT.of h1, by rw [← repL_len rs]; exact hl, h p σ H ρ ds us Q en rs q⟩
  · rw [if_neg (by simp [hl])] at q
    exact q.elim
def sasg (fe : Loc → M D) (gm : D → Loc → Option Loc) : MS := fun ρ s => sof (fe ρ s) ρ fun d s' => match gm d ρ with
  | some ρ' => .nx ρ' s'
  | none => .bad
theorem run_asg {vs : List Nat} {g : TG} {gm : D → Loc → Option Loc} (he : RunG G W (RelE G) te fe) (hg : RunGt G vs g gm) : RunS G W (tAsg te g) (sasg fe gm) := by
  intro p σ H ρ s Z e pk fin
  refine he p σ H ρ s _ e pk (FinS.step fin (fun H1 s1 k1 pk1 => e.keep pk.at k1) fun d s1 v H1 k1 pk1 rd fin1 => ?_)
  refine hg p σ H1 ρ d v _ (e.keep pk.at k1) rd ?_
  cases h : gm d ρ with
  | none => rw [h] at fin1; exact fin1
  | some ρ' => rw [h] at fin1; exact fun σ' e' _ => fin1 σ' H1 Keep.refl pk1 e'
theorem ds_asg {vs : List Nat} {tg : Expr} {g : TG} {gm : D → Loc → Option Loc} (he : DE G X W e te fe) (hg : DG G X vs tg g gm) (hs : swapsWithSole [tg] e pos.line X.env = pure false := by rfl) (hw : swappedStores [tg] e X.env = pure none := by rfl)
    (h1 : (assignEach [tg] X.env).map (·.2) = [assign tg X.env] := by rfl) : DS G X W (.Assign [tg] e pos) (tAsg te g) (sasg fe gm) := ⟨ps_asg he.pe hg.pg hs hw h1, run_asg he.run hg.run⟩
theorem run_gname {i : Nat} : RunGt G [i] (gName i) (gnm i) := fun p σ H ρ d v Q e rd h => h _ (e.set rd) (off_set (List.mem_singleton.mpr rfl))
theorem ds_set {i : Nat} {x : Str} {pos' : Pos} (hN : X.N.Nodup) (he : DE G X W e te fe) (hi : X.N[i]? = some x := by rfl) (hx : L2.Loc X.env.scope x := by first | exact Or.inl rfl | exact Or.inr rfl) (hs : swapsWith e (some (.Name x pos')) pos.line X.env = pure false := by rfl) (hf : X.fn x = true ∨ X.env.scope.names.lookup x = some .local := by first | exact .inl rfl | exact .inr rfl | assumption) :
    DS G X W (.Assign [.Name x pos'] e pos) (tAsg te (gName i)) (sasg fe (gnm i)) := ⟨ps_set hN hi hx he.pe hs hf, run_asg he.run run_gname⟩
def spar (i j : Nat) (fA : Loc → M (List D)) : MS := fun ρ s => sof (fA ρ s) ρ fun ds s' => match ds with
  | [x, y] => .nx ((ρ.set i (some x)).set j (some y)) s'
  | _ => .bad
theorem run_par {i j : Nat} (ha : RunG G W (RelA G) tA fA) : RunS G W (tPar i j tA) (spar i j fA) := by
  intro p σ H ρ s Z e pk fin
  refine ha p σ H ρ s _ e pk (FinS.step fin (fun H1 s1 k1 pk1 => e.keep pk.at k1) fun ds s1 vs H1 k1 pk1 rs fin1 => ?_)
  cases ds with
  | nil => exact fin1.elim
  | cons x r =>
    cases r with
    | nil => exact fin1.elim
    | cons y r =>
      cases r with
      | nil =>
        obtain ⟨v, _, rfl, rx, w, _, rfl, ry, hz⟩ := rs
        obtain rfl := hz
        exact ⟨v, w, rfl, fin1 _ H1 Keep.refl pk1 (((e.keep pk.at k1).set rx).set ry)⟩
      | cons z r => exact fin1.elim
def Wider (p q : Fm) (H1 : Hp) : Prop := q.po = p.po ∧ q.obj = p.obj ∧ ∀ a o, H1 a = some o → ¬ p.out a → ¬ q.out a
theorem Wider.refl {p : Fm} {H1 : Hp} : Wider p p H1 := ⟨rfl, rfl, fun _ _ _ h => h⟩
def IterOk (G : Gt) (p : Fm) (H1 : Hp) (ds : List D) (J : It) : Prop :=
  ∀ q H s, Wider p q H1 → Keep p H1 H → PenOk G q H s → (∀ (i : Nat) d, ds[i]? = some d → J.go i H ∧ ∀ x H', J.yld i H x H' → Keep q H H' ∧ PenOk G q H' s ∧ Rep G q H' d x) ∧ J.stop ds.length H
abbrev RelI (G : Gt) : Fm → Hp → List D → It → Prop := fun p H ds J => IterOk G p H ds J
structure DI (G : Gt) (X : Cx) (W : WX) (tg iter : Expr) (wi : TI) (m : Loc → M (List D)) : Prop where
  pi : PI X tg iter wi
  run : RunG G W (RelI G) wi m
def asL (d : D) : M (List D) := match d with
  | .lst xs => mret xs
  | _ => mbad
def asT (d : D) : M (List D) := match d with
  | .tup xs => mret xs
  | _ => mbad
def rngL (lo : Int) (n : Nat) : List D := (List.range n).map fun i => .int (lo + (i : Nat))
theorem iter_rng {p : Fm} {H1 : Hp} {lo : Int} {n : Nat} : IterOk G p H1 (rngL lo n) (Itr lo n) := by
  intro q H s wd k pk
  refine ⟨fun i d e => ?_, by show n ≤ (rngL lo n).length; simp [rngL]⟩
  have hi : i < n := by
    obtain ⟨h, _⟩ := List.getElem?_eq_some_iff.mp e
    simpa [rngL] using h
  refine ⟨hi, fun x H' y => ?_⟩
  obtain ⟨rfl, rfl⟩ := y
  have ed : d = .int (lo + i) := by
    simp [rngL, List.getElem?_map, List.getElem?_range hi] at e
    exact e.symm
  subst ed
  exact ⟨Keep.refl, pk, rfl⟩
def rng1 (ds : List D) : M (List D) := match ds with
  | [.int j] => if decide (j < 100000) = true ∧ decide (-100000 < j) = true then mret (rngL 0 j.toNat) else mbad
  | _ => mbad
def rng2 (ds : List D) : M (List D) := match ds with
  | [.int i, .int j] => if decide (j < 100000) = true ∧ decide (-100000 < j) = true ∧ decide (i < 100000) = true ∧ decide (-100000 < i) = true then mret (rngL i (j - i).toNat) else mbad
  | _ => mbad
theorem di_range1 {tg : Expr} {p0 : Pos} (hg : Gl X "range") (hm : X.mg "range" = none) (ha : DA G X W [a] tA fA) (hs : starEach [a] X.env = [(false, eval a X.env)] := by rfl) : DI G X W tg (.Call (.Name "range" p0) [a] [] pos) (iRng1 tA) (fun ρ => mbind (fA ρ) rng1) := by
  refine ⟨pi_range1 hg hm ha.pa hs, fun p σ H ρ s Q e pk fin => ?_⟩
  refine ha.run p σ H ρ s _ e pk (fin.step fun ds s1 vs H1 k1 pk1 rs fin1 => ?_)
  unfold rng1 at fin1
  split at fin1
  · split at fin1
    · rename_i j hj
      obtain ⟨v, _, rfl, rx, hz⟩ := rs
      obtain rfl := hz
      obtain rfl : v = .int j := rx
      have h1 := of_decide_eq_true hj.1
      have h2 := of_decide_eq_true hj.2
      exact ⟨j, rfl, by omega, by omega, fin1 _ H1 Keep.refl pk1 iter_rng⟩
    · exact fin1.elim
  · exact fin1.elim
def sloop (gm : D → Loc → Option Loc) (mb : MS) : List D → MS
  | [] => fun ρ s => .nx ρ s
  | d :: ds => fun ρ s => match gm d ρ with
    | none => .bad
    | some ρ1 => (match mb ρ1 s with
      | .nx ρ2 s2 => sloop gm mb ds ρ2 s2
      | .ct ρ2 s2 => sloop gm mb ds ρ2 s2
      | .bk ρ2 s2 => .nx ρ2 s2
      | .ret d s2 => .ret d s2
      | .exc c ns xs ρ2 s2 => .exc c ns xs ρ2 s2
      | .bad => .bad)
def sfor (fi : Loc → M (List D)) (gm : D → Loc → Option Loc) (mb : MS) : MS := fun ρ s => sof (fi ρ s) ρ fun ds s' => sloop gm mb ds ρ s'
theorem run_for {vs : List Nat} {wi : TI} {g : TG} {gm : D → Loc → Option Loc} {fi : Loc → M (List D)} (hi : RunG G W (RelI G) wi fi) (hg : RunGt G vs g gm) (hb : RunS G W tb mb) : RunS G W (tFor wi g tb) (sfor fi gm mb) := by
  intro p σ H ρ s Z e pk fin
  refine hi p σ H ρ s _ e pk (FinS.step fin (fun H1 s1 k1 pk1 => e.keep pk.at k1) fun ds s1 J H1 k1 pk1 it fin1 => ?_)
  refine ⟨fun i n σ' H' => n = ds.length - i ∧ i ≤ ds.length ∧ ∃ ρ' s', EnvOk G p H' σ' ρ' ∧ PenOk G p H' s' ∧ Keep p H1 H' ∧ FinS G W p H' Z (sloop gm mb (ds.drop i) ρ' s'), ⟨ds.length, by simp, Nat.zero_le _, ρ, s1, e.keep pk.at k1, pk1, Keep.refl, fin1⟩, ?_⟩
  rintro i n σ' H' ⟨rfl, hle, ρ', s', e', pk', k', fin'⟩
  obtain ⟨hgo, hst⟩ := it p H' s' Wider.refl k' pk'
  by_cases hlt : i < ds.length
  · have ed : ds[i]? = some ds[i] := List.getElem?_eq_some_iff.mpr ⟨hlt, rfl⟩
    obtain ⟨g1, g2⟩ := hgo i _ ed
    rw [List.drop_eq_getElem_cons hlt] at fin'
    refine .inr ⟨g1, fun σ2 H2 => ∃ ρ2 s2, EnvOk G p H2 σ2 ρ2 ∧ PenOk G p H2 s2 ∧ Keep p H1 H2 ∧ FinS G W p H2 Z (sloop gm mb (ds.drop (i + 1)) ρ2 s2), fun σ2 H2 h => ⟨ds.length - (i + 1), by omega, rfl, hlt, h⟩, fun x Hx y => ?_⟩
    obtain ⟨kx, pkx, rx⟩ := g2 x Hx y
    refine hg p σ' Hx ρ' _ x _ (e'.keep pk'.at kx) rx ?_
    have fin2 := FinS.keep kx fin'
    unfold sloop at fin2
    cases q : gm ds[i] ρ' with
    | none => rw [q] at fin2; exact fin2
    | some ρ1 =>
      rw [q] at fin2
      intro σ2 e2 _
      refine hb p σ2 Hx ρ1 s' _ e2 pkx ?_
      dsimp only at fin2
      cases q2 : mb ρ1 s' with
      | nx ρ2 s2 => rw [q2] at fin2; exact fun σ3 H3 k3 pk3 e3 => ⟨ρ2, s2, e3, pk3, (k'.trans kx).trans k3, FinS.keep k3 fin2⟩
      | ct ρ2 s2 => rw [q2] at fin2; exact fun σ3 H3 k3 pk3 e3 => ⟨ρ2, s2, e3, pk3, (k'.trans kx).trans k3, FinS.keep k3 fin2⟩
      | bk ρ2 s2 => rw [q2] at fin2; exact fin2
      | ret d s2 => rw [q2] at fin2; exact fin2
      | exc c ns xs ρ2 s2 => rw [q2] at fin2; exact fin2
      | bad => rw [q2] at fin2; exact fin2
  · have ei : i = ds.length := by omega
    subst ei
    rw [List.drop_length] at fin'
    exact .inl ⟨hst, fin' σ' H' Keep.refl pk' e'⟩
theorem ds_for {vs : List Nat} {tg iter : Expr} {body : List Stmt} {wi : TI} {g : TG} {gm : D → Loc → Option Loc} {fi : Loc → M (List D)} (hp : PassesOwn (model X.prog X.w) X.A X.env X.xe) (hc : X.calm = true) (hi : DI G X W tg iter wi fi) (hg : DG G X vs tg g gm) (hb : DSs G X W body tb mb)
    (hs : ∀ x, foldedSetIterable iter X.env x = pure x := by intro _; rfl) : DS G X W (.For tg iter body [] pos) (tFor wi g tb) (sfor fi gm mb) := ⟨ps_for hp hc hi.pi hg.pg hb.ps hs, run_for hi.run hg.run hb.run⟩
def nox {α : Type} (m : M α) : M α := fun s => match m s with
  | .ok a s' => .ok a s'
  | _ => .bad
def cloop (gm : D → Loc → Option Loc) (mt : Loc → M Bool) (me : Loc → M D) : List D → Loc → List D → M (List D)
  | [], _, acc => mret acc
  | d :: ds, ρ, acc => match gm d ρ with
    | none => mbad
    | some ρ1 => mbind (nox (mt ρ1)) fun c => if c = true then (mbind (nox (me ρ1)) fun y => if decide (acc.length < 100000) = true then cloop gm mt me ds ρ (acc ++ [y]) else mbad) else cloop gm mt me ds ρ acc
def wipeL (ρ : Loc) : List Nat → Loc
  | [] => ρ
  | v :: vs => (wipeL ρ vs).set v none
theorem wipeL_len (ρ : Loc) : ∀ vs, (wipeL ρ vs).length = ρ.length
  | [] => rfl
  | v :: vs => by unfold wipeL; rw [List.length_set]; exact wipeL_len ρ vs
theorem wipeL_some {ρ : Loc} {i : Nat} {d : D} : ∀ {vs : List Nat}, (wipeL ρ vs)[i]? = some (some d) → ρ[i]? = some (some d) ∧ i ∉ vs
  | [], h => ⟨h, by simp⟩
  | v :: vs, h => by
    unfold wipeL at h
    rw [List.getElem?_set] at h
    by_cases e : v = i
    · subst e
      simp only [if_true] at h
      split at h <;> cases h
    · rw [if_neg e] at h
      obtain ⟨h1, h2⟩ := wipeL_some h
      exact ⟨h1, by simp [h2, Ne.symm e]⟩
theorem wipe_in {σ : St} {i : Nat} : ∀ {vs : List Nat}, i ∈ vs → (wipe σ vs)[i]? = if i < σ.length then some none else none
  | [], h => by cases h
  | v :: vs, h => by
    unfold wipe
    rw [List.getElem?_set, wipe_length]
    by_cases e : v = i
    · subst e; simp
    · rw [if_neg e]
      exact wipe_in ((List.mem_cons.mp h).resolve_left (Ne.symm e))
theorem wipe_off {σ σ2 : St} {vs : List Nat} (h : Off vs (wipe σ vs) σ2) : wipe σ2 vs = wipe σ vs := by
  refine List.ext_getElem? fun i => ?_
  have hl : σ2.length = σ.length := h.1.trans (wipe_length σ vs)
  by_cases e : i ∈ vs
  · rw [wipe_in e, wipe_in e, hl]
  · rw [wipe_out e, h.2 i e]
theorem EnvOk.wipe {p : Fm} {H : Hp} {σ : St} {ρ : Loc} {vs : List Nat} (e : EnvOk G p H σ ρ) : EnvOk G p H (wipe σ vs) (wipeL ρ vs) := by
  refine ⟨by rw [wipe_length, wipeL_len]; exact e.1, fun i d h => ?_⟩
  obtain ⟨h1, h2⟩ := wipeL_some h
  obtain ⟨v, h3, h4⟩ := e.2 i d h1
  exact ⟨v, by rw [wipe_out h2]; exact h3, h4⟩
theorem EnvOk.upd {p : Fm} {H : Hp} {σ : St} {ρ : Loc} {a : Addr} {o : HO} (e : EnvOk G p H σ ρ) (ha : p.out a) : EnvOk G p (L2.upd H a o) σ ρ :=
  ⟨e.1, fun i d h => let ⟨v, h1, h2⟩ := e.2 i d h; ⟨v, h1, rep_upd ha d v h2⟩⟩
theorem EnvOk.out {p q : Fm} {H : Hp} {σ : St} {ρ : Loc} (e : EnvOk G p H σ ρ) (w : Wider p q H) : EnvOk G q H σ ρ :=
  ⟨e.1, fun i d h => let ⟨v, h1, h2⟩ := e.2 i d h; ⟨v, h1, rep_out w.1 w.2.1 w.2.2 d v h2⟩⟩
theorem PenOk.upd {p : Fm} {H : Hp} {s : Pen} {a : Addr} {o : HO} (h : PenOk G p H s) (ha : p.out a) (hn : ¬ p.mut a) : PenOk G p (L2.upd H a o) s := by
  refine ⟨fun b kd e => (h.1 b kd e).keep (upd_ne fun z => hn (.inl ⟨kd, by rw [← z]; exact e⟩)) fun c u hc eh => ?_, fun x c dx e => ?_, fun b hb => ?_, fun k b e => ?_⟩
  · rw [upd_ne (fun z => hc (by rw [z]; exact ha))]; exact eh
  · obtain ⟨vs, h1, hl, h2⟩ := h.2.1 x c dx e
    exact ⟨vs, by rw [upd_ne (fun z => hn (.inr (.inl ⟨c, dx, by rw [← z]; exact e⟩)))]; exact h1, hl, repL_upd ha _ _ h2⟩
  · by_cases e : b = a
    · subst e; exact ⟨o, upd_same⟩
    · rw [upd_ne e]; exact h.2.2.1 b hb
  · obtain ⟨ds, vs, h1, h2, h3, h4⟩ := h.2.2.2 k b e
    exact ⟨ds, vs, h1, by rw [upd_ne (fun z => hn (.inr (.inr ⟨k, by rw [← z]; exact e⟩)))]; exact h2, h3, repL_upd ha _ _ h4⟩
def Fm.add (p : Fm) (a : Addr) : Fm := ⟨p.pen, p.obj, fun b => p.out b ∨ b = a, fun b kd e => .inl (p.okp b kd e), fun x c d e => .inl (p.oko x c d e), p.neo, p.own, fun k a e => .inl (p.alo k a e), p.nal, p.inj⟩
theorem wider_add {p : Fm} {H : Hp} {a : Addr} (n : H a = none) : Wider p (p.add a) H := ⟨rfl, rfl, fun b o e h z => z.elim h fun z => ne_of_none e n z⟩
theorem PenOk.add {p : Fm} {H : Hp} {s : Pen} {a : Addr} {o : HO} (h : PenOk G p H s) (n : H a = none) : PenOk G (p.add a) (L2.upd H a o) s := by
  have h' : PenOk G p (L2.upd H a o) s := h.new n
  refine ⟨fun b kd e => ?_, fun x c dx e => ?_, fun b hb => ?_, fun k b e => ?_⟩
  · rcases h.1 b kd e with ⟨e1, e2⟩ | ⟨c, e1, h0, h1, h2⟩
    · exact .inl ⟨e1, by rw [upd_ne (ne_of_none e2 n)]; exact e2⟩
    · exact .inr ⟨c, e1, fun z => z.elim h0 fun z => ne_of_none h2 n z, by rw [upd_ne (ne_of_none h1 n)]; exact h1, by rw [upd_ne (ne_of_none h2 n)]; exact h2⟩
  · obtain ⟨vs, h1, hl, h2⟩ := h.2.1 x c dx e
    exact ⟨vs, by rw [upd_ne (ne_of_none h1 n)]; exact h1, hl, repL_keep trivial (Keep.new n) _ _ (repL_out (p := p) (q := p.add a) rfl rfl (wider_add n).2.2 _ _ h2)⟩
  · by_cases e : b = a
    · subst e; exact ⟨o, upd_same⟩
    · rw [upd_ne e]; exact h.2.2.1 b (hb.resolve_right e)
  · obtain ⟨ds, vs, h1, h2, h3, h4⟩ := h.2.2.2 k b e
    exact ⟨ds, vs, h1, by rw [upd_ne (ne_of_none h2 n)]; exact h2, h3, repL_keep trivial (Keep.new n) _ _ (repL_out (p := p) (q := p.add a) rfl rfl (wider_add n).2.2 _ _ h4)⟩
theorem PenOk.sub {p : Fm} {H : Hp} {s : Pen} {a : Addr} (h : PenOk G (p.add a) H s) : PenOk G p H s := by
  refine ⟨fun b kd e => ?_, fun x c dx e => ?_, fun b hb => h.2.2.1 b (.inl hb), fun k b e => ?_⟩
  · rcases h.1 b kd e with e1 | ⟨c, e1, h0, h1, h2⟩
    · exact .inl e1
    · exact .inr ⟨c, e1, fun z => h0 (.inl z), h1, h2⟩
  · obtain ⟨vs, h1, hl, h2⟩ := h.2.1 x c dx e
    exact ⟨vs, h1, hl, repL_out (p := p.add a) (q := p) rfl rfl (fun a o _ h z => h (.inl z)) _ _ h2⟩
  · obtain ⟨ds, vs, h1, h2, h3, h4⟩ := h.2.2.2 k b e
    exact ⟨ds, vs, h1, h2, h3, repL_out (p := p.add a) (q := p) rfl rfl (fun a o _ h z => h (.inl z)) _ _ h4⟩
theorem PenOk.nomut {p : Fm} {H : Hp} {s : Pen} {a : Addr} (h : PenOk G p H s) (n : H a = none) : ¬ p.mut a := Fm.no (h.free n)
theorem run_lc {vs : List Nat} {wi : TI} {g : TG} {gm : D → Loc → Option Loc} {fi : Loc → M (List D)} {tt : TT} {mt : Loc → M Bool} (hi : RunG G W (RelI G) wi fi) (hg : RunGt G vs g gm) (ht : RunG G (fun _ _ _ _ => False) RelB tt mt) (he : RunG G (fun _ _ _ _ => False) (RelE G) te fe) :
    RunG G W (RelE G) (tLc wi g tt te vs) (fun ρ => mbind (fi ρ) fun ds => mbind (cloop gm mt fe ds (wipeL ρ vs) []) lstD) := by
  intro p σ H ρ s Q e pk fin
  refine hi p σ H ρ s _ e pk (fin.step fun ds s1 J H1 k1 pk1 it fin1 => ?_)
  intro Dd hD
  have e1 : EnvOk G p H1 (wipe σ vs) (wipeL ρ vs) := (e.keep pk.at k1).wipe
  have wd : Wider p (p.add Dd) H1 := wider_add hD
  have hpn : ¬ (p.add Dd).mut Dd := pk1.nomut hD
  refine ⟨fun i n H' => n = ds.length - i ∧ i ≤ ds.length ∧ ∃ ys us s', H' Dd = some (.lst us) ∧ RepL G (p.add Dd) H' ys us ∧ EnvOk G (p.add Dd) H' (wipe σ vs) (wipeL ρ vs) ∧ PenOk G (p.add Dd) H' s' ∧ Keep p H1 H' ∧
    FinG G W (RelE G) p σ H1 Q (mbind (cloop gm mt fe (ds.drop i) (wipeL ρ vs) ys) lstD s'), ⟨ds.length, by simp, Nat.zero_le _, [], [], s1, upd_same, rfl, (e1.out wd).keep trivial (Keep.new hD), pk1.add hD, Keep.new hD, fin1⟩, ?_⟩
  rintro i n H' ⟨rfl, hle, ys, us, s', hd, ry, e', pk', k', fin'⟩
  obtain ⟨hgo, hst⟩ := it (p.add Dd) H' s' wd k' pk'
  by_cases hlt : i < ds.length
  · have ed : ds[i]? = some ds[i] := List.getElem?_eq_some_iff.mpr ⟨hlt, rfl⟩
    obtain ⟨g1, g2⟩ := hgo i _ ed
    rw [List.drop_eq_getElem_cons hlt] at fin'
    refine .inr ⟨g1, fun H2 => ∃ ys us s', H2 Dd = some (.lst us) ∧ RepL G (p.add Dd) H2 ys us ∧ EnvOk G (p.add Dd) H2 (wipe σ vs) (wipeL ρ vs) ∧ PenOk G (p.add Dd) H2 s' ∧ Keep p H1 H2 ∧
      FinG G W (RelE G) p σ H1 Q (mbind (cloop gm mt fe (ds.drop (i + 1)) (wipeL ρ vs) ys) lstD s'), fun H2 h => ⟨ds.length - (i + 1), by omega, rfl, hlt, h⟩, fun x Hx y => ?_⟩
    obtain ⟨kx, pkx, rx⟩ := g2 x Hx y
    refine hg (p.add Dd) (wipe σ vs) Hx (wipeL ρ vs) _ x _ (e'.keep pk'.at kx) rx ?_
    have fin2 : FinG G W (RelE G) p σ H1 Q (obind (cloop gm mt fe (ds[i] :: ds.drop (i + 1)) (wipeL ρ vs) ys s') lstD) := fin'
    unfold cloop at fin2
    cases q : gm ds[i] (wipeL ρ vs) with
    | none => rw [q] at fin2; exact fin2
    | some ρ1 =>
      rw [q] at fin2
      intro σ2 e2 o2
      refine ⟨wipe_off o2, ?_⟩
      have hdx : Hx Dd = some (.lst us) := kx _ _ hpn hd
      refine ht (p.add Dd) σ2 Hx ρ1 s' _ e2 pkx ?_
      dsimp only at fin2
      have fin3 : FinG G W (RelE G) p σ H1 Q (obind (obind (nox (mt ρ1) s') fun c => if c = true then (mbind (nox (fe ρ1)) fun y => if decide (ys.length < 100000) = true then cloop gm mt fe (ds.drop (i + 1)) (wipeL ρ vs) (ys ++ [y]) else mbad) else cloop gm mt fe (ds.drop (i + 1)) (wipeL ρ vs) ys) lstD) := fin2
      unfold nox at fin3
      cases q2 : mt ρ1 s' with
      | exc c ns xs s2 => rw [q2] at fin3; exact False.elim fin3
      | bad => rw [q2] at fin3; exact False.elim fin3
      | ok c s2 =>
        rw [q2] at fin3
        intro b H3 k3 pk3 hb
        obtain rfl : b = c := hb
        have e3 := e2.keep pkx.at k3
        have hd3 : H3 Dd = some (.lst us) := k3 _ _ hpn hdx
        have kk : Keep (p.add Dd) H' H3 := kx.trans k3
        cases b with
        | false =>
          rw [if_neg Bool.false_ne_true]
          have fin4 : FinG G W (RelE G) p σ H1 Q (obind (cloop gm mt fe (ds.drop (i + 1)) (wipeL ρ vs) ys s2) lstD) := fin3
          exact ⟨ys, us, s2, hd3, repL_keep pk'.at kk _ _ ry, e'.keep pk'.at kk, pk3, k'.trans (fun a o n h => kk a o n h), fin4⟩
        | true =>
          rw [if_pos rfl]
          have fin4 : FinG G W (RelE G) p σ H1 Q (obind (obind (nox (fe ρ1) s2) fun y => if decide (ys.length < 100000) = true then cloop gm mt fe (ds.drop (i + 1)) (wipeL ρ vs) (ys ++ [y]) else mbad) lstD) := fin3
          unfold nox at fin4
          refine he (p.add Dd) σ2 H3 ρ1 s2 _ e3 pk3 ?_
          cases q3 : fe ρ1 s2 with
          | exc c ns xs s3 => rw [q3] at fin4; exact False.elim fin4
          | bad => rw [q3] at fin4; exact False.elim fin4
          | ok yd s3 =>
            rw [q3] at fin4
            intro v H4 k4 pk4 rv
            have hd4 : H4 Dd = some (.lst us) := k4 _ _ hpn hd3
            have kk4 : Keep (p.add Dd) H' H4 := kk.trans k4
            have fin5 : FinG G W (RelE G) p σ H1 Q (obind ((if decide (ys.length < 100000) = true then cloop gm mt fe (ds.drop (i + 1)) (wipeL ρ vs) (ys ++ [yd]) else mbad) s3) lstD) := fin4
            by_cases hl : ys.length < 100000
            · rw [if_pos (decide_eq_true hl)] at fin5
              have ho : (p.add Dd).out Dd := .inr rfl
              have ry4 := repL_keep pk'.at kk4 _ _ ry
              refine ⟨us, hd4, by rw [← repL_len ry]; exact Nat.lt_of_lt_of_le hl (by decide), ys ++ [yd], us ++ [v], s3, upd_same, repL_upd ho _ _ (repL_app ry4 ⟨v, [], rfl, rv, rfl⟩), (e'.keep pk'.at kk4).upd ho, pk4.upd ho hpn, fun a o n h => ?_, fin5⟩
              rw [upd_ne (ne_of_none h hD)]
              exact (k'.trans (fun a o n h => kk4 a o n h)) a o n h
            · rw [if_neg (by simp [hl])] at fin5
              exact False.elim fin5
  · have ei : i = ds.length := by omega
    subst ei
    rw [List.drop_length] at fin'
    have fin2 : FinG G W (RelE G) p σ H1 Q (lstD ys s') := fin'
    unfold lstD at fin2
    refine .inl ⟨hst, ?_⟩
    split at fin2
    · exact fin2 _ H' k' pk'.sub ⟨Dd, us, rfl, pk1.free hD, hd, repL_out (p := p.add Dd) (q := p) rfl rfl (fun a o _ h z => h (.inl z)) _ _ ry⟩
    · exact False.elim fin2
theorem de_lc {tg iter elt : Expr} {ifs : List Expr} {scope : Scope} {own : List (Str × Nat)} {wi : TI} {g : TG} {gm : D → Loc → Option Loc} {fi : Loc → M (List D)} {tt : TT} {mt : Loc → M Bool} (hc : X.calm = true) (hN : X.N.Nodup) (hi : DI G X W tg iter wi fi) (ok : BlkOk X.N X.env.scope scope own)
    (hg : ∀ (s : Shared) (H : Hp) (C : Addr) (cl : List (Str × Addr)) (fp : List Addr), DG G (X.blk s H scope (compEnvC scope cl C X.env) fp) (own.map (·.2)) tg g gm) (ht : ∀ (s : Shared) (H : Hp) (C : Addr) (cl : List (Str × Addr)) (fp : List Addr), PTs (X.blk s H scope (compEnvC scope cl C X.env) fp) ifs tt) (htr : RunG G (fun _ _ _ _ => False) RelB tt mt)
    (he : ∀ (s : Shared) (H : Hp) (C : Addr) (cl : List (Str × Addr)) (fp : List Addr), DE G (X.blk s H scope (compEnvC scope cl C X.env) fp) (fun _ _ _ _ => False) elt te fe) (hs : ∀ x, foldedSetIterable iter X.env x = pure x := by intro _; rfl) :
    DE G X W (.ListComp elt [⟨tg, iter, ifs, 0⟩] scope pos) (tLc wi g tt te (own.map (·.2))) (fun ρ => mbind (fi ρ) fun ds => mbind (cloop gm mt fe ds (wipeL ρ (own.map (·.2))) []) lstD) := by
  exact ⟨pe_lc hc hN hi.pi ok (fun s H C cl fp => (hg s H C cl fp).pg) ht (fun s H C cl fp => (he s H C cl fp).pe) hs, run_lc hi.run (hg X.s_0 (fun _ => none) 0 [] []).run htr (he X.s_0 (fun _ => none) 0 [] []).run⟩
end
end Tw
namespace Tw
open PySem L2 PySem.Spec PyProof.Rows
section
variable {K : PySem.W.Frag} {G : Gt} {W : WX} {X : Cx}
def gcdD (ds : List D) : M D := match ds with
  | [.int a, .int b] => mret (.int ((Nat.gcd a.natAbs b.natAbs : Nat) : Int))
  | _ => mbad
def intD (ds : List D) : M D := match ds with
  | [.int a] => mret (.int a)
  | [.bl b] => mret (.int (if b then 1 else 0))
  | _ => mbad
theorem prim_int : PrimL G (fun xs H Q => (∃ i, xs = [.int i] ∧ Q (.int i) H) ∨ ∃ k, xs = [.bl k] ∧ Q (.int (if k then 1 else 0)) H) intD := by
  intro W p σ H s xs vs Q pk rs fin
  unfold intD at fin
  split at fin
  · obtain ⟨v, _, rfl, rx, hz⟩ := rs
    obtain rfl := hz
    exact .inl ⟨_, by rw [(show v = _ from rx)], fin _ H Keep.refl pk rfl⟩
  · obtain ⟨v, _, rfl, rx, hz⟩ := rs
    obtain rfl := hz
    exact .inr ⟨_, by rw [(show v = _ from rx)], fin _ H Keep.refl pk rfl⟩
  · exact fin.elim
def strD (ds : List D) : M D := match ds with
  | [.int a] => if decide (a.natAbs.log2 < 1920) = true then mret (.str (toString a)) else mbad
  | _ => mbad
theorem prim_str : PrimL G (fun xs H Q => ∃ i : Int, xs = [.int i] ∧ i.natAbs.log2 < 1920 ∧ Q (.str (toString i)) H) strD := by
  intro W p σ H s xs vs Q pk rs fin
  unfold strD at fin
  split at fin
  · split at fin
    · rename_i h
      obtain ⟨v, _, rfl, rx, hz⟩ := rs
      obtain rfl := hz
      exact ⟨_, by rw [(show v = _ from rx)], of_decide_eq_true h, fin _ H Keep.refl pk rfl⟩
    · exact fin.elim
  · exact fin.elim
def absD (ds : List D) : M D := match ds with
  | [.int a] => mret (.int (if a < 0 then -a else a))
  | _ => mbad
def lenD (ds : List D) : M D := match ds with
  | [.lst xs] => mret (.int (xs.length : Nat))
  | [.tup xs] => mret (.int (xs.length : Nat))
  | _ => mbad
theorem prim_len : PrimL G (fun xs H Q => ∃ p ys, xs = [.ref p] ∧ (SqL K H p ys ∨ SqT K H p ys) ∧ Q (.int ys.length) H) lenD := by
  intro W p σ H s xs vs Q pk rs fin
  unfold lenD at fin
  split at fin
  · obtain ⟨v, _, rfl, rx, hz⟩ := rs
    obtain rfl := hz
    obtain ⟨a, us, rfl, h0, h1, q1⟩ := rx
    exact ⟨a, us, rfl, .inl (SqL.of h1), by rw [← repL_len q1]; exact fin _ H Keep.refl pk rfl⟩
  · obtain ⟨v, _, rfl, rx, hz⟩ := rs
    obtain rfl := hz
    obtain ⟨a, us, rfl, h0, h1, q1⟩ := rx
    exact ⟨a, us, rfl, .inr (SqT.of h1), by rw [← repL_len q1]; exact fin _ H Keep.refl pk rfl⟩
  · exact fin.elim
def tag : D → Option String
  | .non => some "NoneType"
  | .bl _ => some "bool"
  | .int _ => some "int"
  | .str _ => some "str"
  | .lst _ => some "list"
  | .tup _ => some "tuple"
  | .dct _ _ => some "dict"
  | _ => none
def subT (a b : String) : Bool := a == b || (a == "bool" && b == "int")
def isiB (ds : List D) : M D := match ds with
  | [x, .ty T] => (match tag x with
    | some a => if decide (kitB a T = some (subT a T)) = true then mret (.bl (subT a T)) else mbad
    | none => mbad)
  | _ => mbad
def startL (nl : Nat) (ds : List D) : Loc := ds.map some ++ List.replicate (nl - ds.length) none
def mdef (nl : Nat) (b : MS) (ds : List D) : M D := fun s => match b (startL nl ds) s with
  | .nx _ s' => .ok .non s'
  | .ret d s' => .ok d s'
  | .exc c ns xs _ s' => .exc c ns xs s'
  | _ => .bad
theorem env_start {p : Fm} {H : Hp} {N : List Str} {ds : List D} {vs : List V} (r : RepL G p H ds vs) : EnvOk G p H (L2.start N vs) (startL N.length ds) := by
  have hl := repL_len r
  refine ⟨by unfold L2.start startL; simp [hl], fun i d h => ?_⟩
  unfold startL at h
  unfold L2.start
  by_cases hi : i < ds.length
  · rw [List.getElem?_append_left (by simpa using hi), List.getElem?_map] at h
    cases q : ds[i]? with
    | none => rw [q] at h; cases h
    | some x =>
      rw [q] at h
      cases h
      obtain ⟨v, h1, h2⟩ := repL_get r q
      exact ⟨v, by rw [List.getElem?_append_left (by rw [List.length_map]; omega), List.getElem?_map, h1]; rfl, h2⟩
  · rw [List.getElem?_append_right (by simpa using hi), List.getElem?_replicate] at h
    split at h <;> cases h
variable {P : Program} {w : World} {mg : Str → Option Value} {base : Heap}
def spNo : Sp := fun vs H Q _ => ∃ a, vs = [.ref a] ∧ Q .non H
theorem ok_noinit {qual : Str} {st : Stmt} {f : Addr} {fd : FuncData} {pos : Pos} (F : Fun K "__init__" qual st f fd) (S : FnScope ["self"] ["self"] (defScope st)) (hb : defBody st = [.Pass pos]) : FnOk P w K mg base (L2.CX P w) 1 f fd ["self"] spNo := by
  refine F.okX S (fun vs H Q E h => by obtain ⟨a, rfl, _⟩ := h; rfl) fun cdv A outer s H vs Q E hr h => ?_
  obtain ⟨a, rfl, q⟩ := h
  exact ⟨_, by rw [hb]; exact pss_one ps_pass, q⟩
theorem no_dict {pins : List (Addr × Obj)} {σ : L2.St} {H1 H2 : Hp} {hp hp2 h2 : Heap} {g1 g2 : Array GenState} {d1 d2 : Drawn} {t1 t2 : Nat} {os1 os2 : OsState} {a C : Addr} (I1 : Inv X pins σ H1 ⟨hp, g1, d1, t1, os1⟩)
    (ha : hp.objs.size ≤ a) (k : ∀ b o, hp.get? b = some o → hp2.get? b = some o) (un : Un (frs X.stack) [] (upd H1 a (exo a C none)) H2 hp2 h2) (hok : HOk X.prog X.w H2 h2) (ho : os2 = os1) (hb : AllBare g2) (ea : H2 a = some (exo a C none)) :
    ∃ (t0 : Addr) (Gp : Heap), Inv X pins σ (del H2 a) ⟨Gp, g2, d2, t2, os2⟩ ∧ (∀ b o, Gp.get? b = some o → h2.get? b = some o) ∧ Gp.get? a = none ∧
      h2.get? a = some ({ cls := .ref C, dict := none, data := .fields #[.ref t0, .none, .none, .none, .bool false, .none] } : Obj) := by
  obtain ⟨t0, hoe⟩ := exo_at hok ea
  have hn : H1 a = none := I1.hok.fresh ha
  obtain ⟨Gp, r1, r2⟩ := restrict h2 fun b => decide (b ≠ a)
  have gk : ∀ b, b ≠ a → Gp.get? b = h2.get? b := fun b z => r1 b (decide_eq_true z)
  have ge : Gp.get? a = none := r2 a (by simp)
  have nha : ∀ {b : Addr} {o : Obj}, hp.get? b = some o → b ≠ a := fun {b o} z => Nat.ne_of_lt (Nat.lt_of_lt_of_le (Heap.lt_size z) ha)
  have up1 : ∀ {b : Addr}, b ≠ a → H1 b = none → upd H1 a (exo a C none) b = none := fun {b} z n => (upd_ne z).trans n
  have U : Un (frs X.stack) [] H1 (del H2 a) hp Gp := by
    refine ⟨fun b o z n hf hx => (gk b (nha z)).trans (un.keep b o (k b o z) (up1 (nha z) n) hf hx), fun b o z n hf hx => ?_, fun b o z n hx => (del_ne (nha z)).trans (un.free b o (k b o z) (up1 (nha z) n) hx), fun b o z hx => ?_, fun b xs z => ?_, fun b o v z => ?_, fun b ps z => ?_⟩
    · obtain ⟨sl, e⟩ := un.slot b o (k b o z) (up1 (nha z) n) hf hx
      exact ⟨sl, (gk b (nha z)).trans e⟩
    · obtain ⟨o', e⟩ := un.there b o (k b o z) hx
      exact ⟨o', (gk b (nha z)).trans e⟩
    · exact (del_ne (ne_of_none z hn)).trans (un.tups b xs ((upd_ne (ne_of_none z hn)).trans z))
    · exact (del_ne (ne_of_none z hn)).trans (un.frzs b o v ((upd_ne (ne_of_none z hn)).trans z))
    · obtain ⟨more, e⟩ := un.tbls b ps ((upd_ne (ne_of_none z hn)).trans z)
      exact ⟨more, (del_ne (ne_of_none z hn)).trans e⟩
  have hok3 : HOk X.prog X.w (del H2 a) Gp := fun b o z => by
    have hba : b ≠ a := fun e => by
      rw [e, del_same] at z
      cases z
    rw [del_ne hba] at z
    have noa : ∀ {c : Addr}, H2 c = some (.own b) → c ≠ a := fun {c} hc => at_ne ea hc exo_own
    refine (hok b o z).stay (fun c v hc y => ?_) (fun c hc => (del_ne (noa hc)).trans hc) fun c xs hc => (del_ne (at_ne ea hc exo_tup)).trans hc
    have hca : c ≠ a := hc.elim (fun e => by rw [e]; exact hba) noa
    exact (gk c hca).trans y
  refine ⟨t0, Gp, I1.call' (ch := []) ho U hok3 hb (fun b z => absurd z (by simp)), fun b o z => ?_, ge, hoe⟩
  by_cases hba : b = a
  · rw [hba, ge] at z
    cases z
  · exact (gk b hba).symm.trans z
theorem pmk_no {x : Str} {C fI : Addr} {fd : FuncData} {p0 pos : Pos} (T : OexC X.K C) (iC : PySem.W.findIn X.K (.ref C) "__init__" = some (some (.ref fI))) (tI : PySem.W.typeIn X.K (.ref fI) = some (.type "function"))
    (F1 : FnOk X.prog X.w X.K X.mg X.base (L2.CX X.prog X.w) 1 fI fd ["self"] spNo) (hr : Room 2 X.A) (hb : Binds X.K fd ["self"] []) (hg : Gl X x) (hm : X.mg x = some (.ref C)) (hdb : (x == ("__debug__" : Str)) = false := by decide) :
    PMk X (.Call (.Name x p0) [] [] pos) (fun _ H Q => ∀ H', (∀ b o, H b = some o → H' b = some o) → Q (.ref C) none H') := by
  intro pins s σ H Q I h
  obtain ⟨nm, q, N, bs, bm, sn, sub, ab, col, dd, k0, k1, k2, k3, k5, hC, hbm⟩ := T.cls
  refine wpAny_Call_Name_kw (ld_glob I hg hm (PySem.W.callWith_K0 I.kIn T.kC ?_) hdb)
  show wpAny _ _ (call (.ref C) []) _ _ _
  obtain ⟨hp, g, dr, tk, os⟩ := s
  have hsz : hp.objs.size ≤ hp.objs.size + 1 := Nat.le_succ _
  have hn : H (hp.objs.size + 1) = none := I.hok.fresh hsz
  have kk : ∀ b o, hp.get? b = some o → ((hp.push (PySem.W.kdv_tup [])).push (PySem.HandSPX.excO C hp.objs.size)).get? b = some o := fun b o e => Heap.get?_push_of_some _ (Heap.get?_push_of_some _ e)
  have hget : ((hp.push (PySem.W.kdv_tup [])).push (PySem.HandSPX.excO C hp.objs.size)).get? (hp.objs.size + 1) = some (PySem.HandSPX.excO C hp.objs.size) := by heap_get
  have I2 : Inv X pins σ (upd H (hp.objs.size + 1) (exo (hp.objs.size + 1) C none)) ⟨(hp.push (PySem.W.kdv_tup [])).push (PySem.HandSPX.excO C hp.objs.size), g, dr, tk, os⟩ :=
    I.laid (t' := tk) (a := hp.objs.size + 1) (o := exo (hp.objs.size + 1) C none) (h' := (hp.push (PySem.W.kdv_tup [])).push (PySem.HandSPX.excO C hp.objs.size)) kk hsz (exo_ok hget)
  have hq : spNo [V.ref (hp.objs.size + 1)] (upd H (hp.objs.size + 1) (exo (hp.objs.size + 1) C none)) (fun v H2 => v = .non ∧ H2 = upd H (hp.objs.size + 1) (exo (hp.objs.size + 1) C none)) (fun _ _ _ => False) := ⟨_, rfl, rfl, rfl⟩
  have hbb := hb ⟨(hp.push (PySem.W.kdv_tup [])).push (PySem.HandSPX.excO C hp.objs.size), g, dr, tk, os⟩ [Value.ref (hp.objs.size + 1)] I2.kIn rfl
  rw [List.append_nil] at hbb
  refine wpAny_call (PySem.HandSPX.call_own F.excBase_ValueError (fun Y => PySem.HandSPX.refsVE_contains Y bm hbm) (I.kIn _ _ hC) (PySem.W.looks_findIn I.kIn iC) (fun self => PySem.W.bind_fn I.kIn self tI) (by show 0 ≤ sizeLine; exact Nat.zero_le _)
    (codeAny_mono (F1.run _ X.stack _ _ ⟨[Value.ref (hp.objs.size + 1)], []⟩ [Value.ref (hp.objs.size + 1)] [V.ref (hp.objs.size + 1)] _ (fun _ _ _ => False) (hr.make C [] []) (I2.env0.make C [] []) hbb (.cons rfl .nil) hq) fun r s' hq' => ?_))
  cases r with
  | error er => exact False.elim (by obtain ⟨_, _, _, _, _, _, _, _, _, _, _, _, z⟩ := hq'; exact z)
  | ok fl =>
    cases fl with
    | ret u =>
      obtain ⟨v, H2, os2, bare2, un2, hok2, rv, ev, eH⟩ := hq'
      subst ev eH
      obtain ⟨h2, g2, d2, t2, os'⟩ := s'
      obtain ⟨t0, Gp, J, kG, ge, hoe⟩ := no_dict (d2 := d2) (t2 := t2) I hsz kk un2 hok2 os2 bare2 upd_same
      refine ⟨rv, hp.objs.size + 1, _, _, ⟨Gp, g2, d2, t2, os'⟩, _, .ref C, none, rfl, J, kG, ge, hoe, ⟨rfl, rfl⟩, rfl, rfl, del_same, rfl, bare2, raises_own T.exC T.tyC, h _ fun b o e => ?_⟩
      rw [del_ne (ne_of_none e hn), upd_ne (ne_of_none e hn)]
      exact e
    | next => exact False.elim hq'
    | brk => exact False.elim hq'
    | cont => exact False.elim hq'
theorem PenOk.mono {p : Fm} {H H' : Hp} {s : Pen} (h : PenOk G p H s) (k : ∀ b o, H b = some o → H' b = some o) : PenOk G p H' s := by
  refine ⟨fun b kd eb => ?_, fun x c dx e => ?_, fun b hb => ?_, h.2.2.2.kept (fun a o _ h => k a o h) fun j b e => ?_⟩
  · rcases h.1 b kd eb with ⟨e1, e2⟩ | ⟨c, e1, h0, h1, h2⟩
    · exact .inl ⟨e1, k _ _ e2⟩
    · exact .inr ⟨c, e1, h0, k _ _ h1, k _ _ h2⟩
  · obtain ⟨vs, h1, hl, h2⟩ := h.2.1 x c dx e
    exact ⟨vs, k _ _ h1, hl, repL_keep trivial (fun a o _ h => k a o h) _ _ h2⟩
  · obtain ⟨o, h1⟩ := h.2.2.1 b hb
    exact ⟨o, k _ _ h1⟩
  · obtain ⟨_, _, _, z, _⟩ := h.2.2.2 j b e
    rw [z]; exact k _ _ z
theorem ds_raise0 {c : Nat} {e : Expr} {pos : Pos} (hc : X.calm = true) (tk : Takes X W) (hp : PMk X e (fun _ H Q => ∀ H', (∀ b o, H b = some o → H' b = some o) → Q (.ref (G.cls c)) none H')) :
    DS G X W (.Raise (some e) none pos) (fun _ σ H => ∀ H', (∀ b o, H b = some o → H' b = some o) → W (.ref (G.cls c)) none σ H') (fun ρ s => .exc c [] [] ρ s) := by
  refine ⟨ps_raise hc tk hp, fun p σ H ρ s Z e pk fin H' k => ?_⟩
  have kp : Keep p H H' := fun a o _ h => k a o h
  have pk' : PenOk G p H' s := pk.mono k
  exact fin none σ H' kp pk' (e.keep pk.at kp) ⟨[], rfl, .inl ⟨rfl, rfl⟩⟩
end
end Tw
namespace Tw
open PySem L2 PySem.Spec PyProof.Rows
section
variable {K : PySem.W.Frag} {G : Gt} {W : WX} {X : Cx}
def sTry (mb : MS) (mt : Nat → Option Bool) (hm : Nat → List Str → List D → MS) : MS := fun ρ s => match mb ρ s with
  | .exc c ns xs ρ' s' => (match mt c with
    | some true => hm c ns xs ρ' s'
    | some false => .exc c ns xs ρ' s'
    | none => .bad)
  | .nx ρ' s' => .nx ρ' s'
  | .ret d s' => .ret d s'
  | .bk ρ' s' => .bk ρ' s'
  | .ct ρ' s' => .ct ρ' s'
  | .bad => .bad
abbrev W0 : WX := fun _ _ _ _ => False
def tOwn (X : Cx) (body : List Stmt) (W' : WX) : TS := fun Z σ H => ∀ (pn : List (Addr × Obj)) (xe : Value → Shared → Prop), Takes (X.tr pn xe) W' → PassesOwn (model X.prog X.w) X.A X.env xe →
  ∀ (pins : List (Addr × Obj)) (s : Shared), L2.Inv (X.tr pn xe) pins σ H s → wpAny (model X.prog X.w) X.A (execs body X.env) (SP (X.tr pn xe) pins Z) xe s
def tSui (X : Cx) (su : List Stmt) (a : Addr) (cls : Value) (d : Option Addr) : TS := fun Z σ H => ∀ (oe : Obj) (pn : List (Addr × Obj)), Zc cls d oe → (∃ vs, oe.data = .fields vs) →
  ∀ (pins : List (Addr × Obj)) (s : Shared), L2.Inv (X.suite a ((a, oe) :: pn)) pins σ H s → wpAny (model X.prog X.w) (X.suite a ((a, oe) :: pn)).A (execs su X.env) (SP (X.suite a ((a, oe) :: pn)) pins Z) (fun _ _ => False) s
variable {x n : Str} {T : Nat} {body suite : List Stmt} {b₀ : Stmt} {np pos pos' : Pos} {mb : MS} {mt : Nat → Option Bool} {hm : Nat → List Str → List D → MS}
theorem own_run (hb : ∀ (W' : WX) (pn : List (Addr × Obj)) (xe : Value → Shared → Prop), Takes (X.tr pn xe) W' → PassesOwn (model X.prog X.w) X.A X.env xe → ∃ t, DSs G (X.tr pn xe) W' body t mb) (W' : WX) : RunS G W' (tOwn X body W') mb := by
  intro p σ H ρ s Z e pk fin pn xe tk po pins s1 I
  obtain ⟨t, dt⟩ := hb W' pn xe tk po
  exact dt.ps.run pins s1 σ H Z I (dt.run p σ H ρ s Z e pk fin)
theorem ds_try_only (hs : X.stack = X.env :: X.outer) (hf : X.env.frame = some X.env.locals) (hc : Names X x (.ref (G.cls T))) (tk : Takes X W) (hmt : ∀ c b, mt c = some b → PySem.W.exmOne X.K (.ref (G.cls c)) (.ref (G.cls T)) = some b)
    (hb : ∀ (W' : WX) (pn : List (Addr × Obj)) (xe : Value → Shared → Prop), Takes (X.tr pn xe) W' → PassesOwn (model X.prog X.w) X.A X.env xe → ∃ t, DSs G (X.tr pn xe) W' body t mb)
    (hsu : ∀ (a : Addr) (oe : Obj) (c : Nat) (ns : List Str) (xs : List D) (dd : Option Addr) (pn : List (Addr × Obj)), mt c = some true → Zc (.ref (G.cls c)) dd oe → (∃ vs, oe.data = .fields vs) → ∃ t, DSs G (X.suite a ((a, oe) :: pn)) W0 (b₀ :: suite) t (hm c ns xs)) :
    ∃ t, DS G X W (.Try body [.ExceptHandler (some (.Name x np)) none (b₀ :: suite) pos'] [] [] pos) t (sTry mb mt fun c ns xs ρ s => match hm c ns xs ρ s with | .exc _ _ _ _ _ => .bad | o => o) := by
  refine ⟨_, ps_try_only (tb := tOwn X body) (ts := tSui X (b₀ :: suite)) hs hf hc tk (fun W' pn xe tk' po => ⟨fun pins s σ H Z I h => h pn xe tk' po pins s I⟩) (fun a oe cls d pn hz hv => ⟨fun pins s σ H Z I h => h oe pn hz hv pins s I⟩), ?_⟩
  intro p σ H ρ s Z e pk fin
  refine own_run hb _ p σ H ρ s Z e pk ?_
  unfold sTry at fin
  cases q : mb ρ s with
  | nx ρ' s' => rw [q] at fin; exact fin
  | ret d s' => rw [q] at fin; exact fin
  | bk ρ' s' => rw [q] at fin; exact fin
  | ct ρ' s' => rw [q] at fin; exact fin
  | bad => rw [q] at fin; exact fin
  | exc c ns xs ρ' s' =>
    rw [q] at fin
    dsimp only at fin
    cases q2 : mt c with
    | none => rw [q2] at fin; exact False.elim fin
    | some b =>
      rw [q2] at fin
      intro dd σ' H' k' pk' e' x'
      refine ⟨b, hmt c b q2, fun hbt => ?_, fun hbf => ?_⟩
      · subst hbt
        intro a ha oe pn hz hv pins s1 I
        obtain ⟨t, dt⟩ := hsu a oe c ns xs dd pn q2 hz hv
        refine dt.ps.run pins s1 σ' H' Z I (dt.run p σ' H' ρ' s' Z e' pk' ?_)
        dsimp only at fin
        cases q3 : hm c ns xs ρ' s' with
        | exc c2 ns2 xs2 ρ2 s2 => rw [q3] at fin; exact False.elim fin
        | nx ρ2 s2 => rw [q3] at fin; exact fun σ2 H2 k2 => fin σ2 H2 (k'.trans k2)
        | ret d s2 => rw [q3] at fin; exact fun v H2 k2 => fin v H2 (k'.trans k2)
        | bk ρ2 s2 => rw [q3] at fin; exact fun σ2 H2 k2 => fin σ2 H2 (k'.trans k2)
        | ct ρ2 s2 => rw [q3] at fin; exact fun σ2 H2 k2 => fin σ2 H2 (k'.trans k2)
        | bad => rw [q3] at fin; exact False.elim fin
      · subst hbf
        exact fin dd σ' H' k' pk' e' x'
mutual
def noErr : D → Bool
  | .err _ _ _ => false
  | .lst xs => noErrL xs
  | .tup xs => noErrL xs
  | .ins _ _ xs => noErrL xs
  | .dct _ xs => noErrL xs
  | .exo _ _ xs => noErrL xs
  | _ => true
def noErrL : List D → Bool
  | [] => true
  | d :: ds => noErr d && noErrL ds
end
mutual
theorem rep_swap {G' : Gt} {p : Fm} {H : Hp} (hc : G'.cls = G.cls ∧ G'.K = G.K) : ∀ (d : D) (v : V), noErr d = true → Rep G p H d v → Rep G' p H d v
  | .non, _, _, h => h
  | .bl _, _, _, h => h
  | .int _, _, _, h => h
  | .str _, _, _, h => h
  | .ty _, _, _, h => h
  | .cls n, v, _, h => by show v = .ref (G'.cls n); rw [hc.1]; exact h
  | .pen, _, _, h => h
  | .bag, _, _, h => h
  | .own _, _, _, h => h
  | .self, _, _, h => h
  | .scr ns, v, _, h => by
    obtain ⟨a, e, h⟩ := h
    exact ⟨a, e, by rw [hc.2]; exact h⟩
  | .lst ds, v, e, h => by
    obtain ⟨a, vs, e1, q0, q1, q2⟩ := h
    exact ⟨a, vs, e1, q0, q1, repL_swap hc ds vs e q2⟩
  | .tup ds, v, e, h => by
    obtain ⟨a, vs, e1, q0, q1, q2⟩ := h
    exact ⟨a, vs, e1, q0, q1, repL_swap hc ds vs e q2⟩
  | .ins n ns ds, v, e, h => by
    obtain ⟨a, dx, vs, e1, q0, q1, q3, q2⟩ := h
    exact ⟨a, dx, vs, e1, q0, by rw [hc.1]; exact q1, q3, repL_swap hc ds vs e q2⟩
  | .dct ns ds, v, e, h => by
    obtain ⟨a, vs, e1, q0, q1, q3, q2⟩ := h
    exact ⟨a, vs, e1, q0, q1, q3, repL_swap hc ds vs e q2⟩
  | .exo c ns ds, v, e, h => by
    obtain ⟨a, dd, vs, e1, q0, q1, q2, q3⟩ := h
    refine ⟨a, dd, vs, e1, q0, by rw [hc.1]; exact q1, repL_swap hc ds vs e q2, ?_⟩
    rcases q3 with q3 | ⟨b, gs, e0, e1, e2, e3, e4⟩
    · exact .inl q3
    · exact .inr ⟨b, gs, e0, e1, e2, e3, e4⟩
  | .err _ _ _, _, e, _ => by cases e
theorem repL_swap {G' : Gt} {p : Fm} {H : Hp} (hc : G'.cls = G.cls ∧ G'.K = G.K) : ∀ (ds : List D) (vs : List V), noErrL ds = true → RepL G p H ds vs → RepL G' p H ds vs
  | [], _, _, h => h
  | d :: ds, vs, e, h => by
    obtain ⟨v, r, e1, q1, q2⟩ := h
    have e' : (noErr d && noErrL ds) = true := e
    rw [Bool.and_eq_true] at e'
    exact ⟨v, r, e1, rep_swap hc d v e'.1 q1, repL_swap hc ds r e'.2 q2⟩
end
mutual
theorem noErr_of {p : Fm} {H : Hp} (hn : G.err = none) : ∀ (d : D) (v : V), Rep G p H d v → noErr d = true
  | .non, _, _ => rfl
  | .bl _, _, _ => rfl
  | .int _, _, _ => rfl
  | .str _, _, _ => rfl
  | .ty _, _, _ => rfl
  | .cls _, _, _ => rfl
  | .pen, _, _ => rfl
  | .bag, _, _ => rfl
  | .own _, _, _ => rfl
  | .self, _, _ => rfl
  | .scr _, _, _ => rfl
  | .lst ds, v, h => by
    obtain ⟨a, vs, e1, q0, q1, q2⟩ := h
    exact noErrL_of hn ds vs q2
  | .tup ds, v, h => by
    obtain ⟨a, vs, e1, q0, q1, q2⟩ := h
    exact noErrL_of hn ds vs q2
  | .ins n ns ds, v, h => by
    obtain ⟨a, dx, vs, e1, q0, q1, q3, q2⟩ := h
    exact noErrL_of hn ds vs q2
  | .dct ns ds, v, h => by
    obtain ⟨a, vs, e1, q0, q1, q3, q2⟩ := h
    exact noErrL_of hn ds vs q2
  | .exo c ns ds, v, h => by
    obtain ⟨a, dd, vs, e1, q0, q1, q2, q3⟩ := h
    exact noErrL_of hn ds vs q2
  | .err _ _ _, _, h => by
    obtain ⟨a, dd, vs, _, q, _⟩ := h
    rw [hn] at q
    cases q
theorem noErrL_of {p : Fm} {H : Hp} (hn : G.err = none) : ∀ (ds : List D) (vs : List V), RepL G p H ds vs → noErrL ds = true
  | [], _, _ => rfl
  | d :: ds, vs, h => by
    obtain ⟨v, r, e1, q1, q2⟩ := h
    show (noErr d && noErrL ds) = true
    rw [noErr_of hn d v q1, noErrL_of hn ds r q2]
    all_goals rfl
end
def cleanD (o : Option D) : Option D := match o with
  | some d => if noErr d = true then some d else none
  | none => none
def clean (ρ : Loc) : Loc := ρ.map cleanD
theorem EnvOk.clean {G' : Gt} {p : Fm} {H : Hp} {σ : L2.St} {ρ : Loc} (hc : G.cls = G'.cls ∧ G.K = G'.K) (e : EnvOk G' p H σ ρ) : EnvOk G p H σ (clean ρ) := by
  refine ⟨by unfold Tw.clean; rw [List.length_map]; exact e.1, fun i d h => ?_⟩
  unfold Tw.clean at h
  rw [List.getElem?_map] at h
  cases q : ρ[i]? with
  | none => rw [q] at h; cases h
  | some o =>
    rw [q] at h
    cases o with
    | none => cases h
    | some x =>
      have h : some (if noErr x = true then some x else none) = some (some d) := h
      by_cases hx : noErr x = true
      · rw [if_pos hx] at h
        cases h
        obtain ⟨v, h1, h2⟩ := e.2 i d q
        exact ⟨v, h1, rep_swap hc d v hx h2⟩
      · rw [if_neg hx] at h; cases h
theorem EnvOk.err {p : Fm} {H : Hp} {σ : L2.St} {ρ : Loc} {G' : Gt} (hn : G.err = none) (hc : G'.cls = G.cls ∧ G'.K = G.K) (e : EnvOk G p H σ ρ) : EnvOk G' p H σ ρ :=
  ⟨e.1, fun i d h => let ⟨v, h1, h2⟩ := e.2 i d h; ⟨v, h1, rep_swap hc d v (noErr_of hn d v h2) h2⟩⟩
theorem EnvOk.unset {p : Fm} {H : Hp} {σ : L2.St} {ρ : Loc} {i : Nat} (e : EnvOk G p H σ ρ) : EnvOk G p H (σ.set i none) (ρ.set i none) := by
  refine ⟨by simp [e.1], fun j x hx => ?_⟩
  rw [List.getElem?_set] at hx
  by_cases hij : i = j
  · subst hij
    simp only [if_true] at hx
    split at hx <;> cases hx
  · rw [if_neg hij] at hx
    obtain ⟨u, h1, h2⟩ := e.2 j x hx
    exact ⟨u, by rw [List.getElem?_set, if_neg hij]; exact h1, h2⟩
def backOf (i : Nat) (o : OutS) : OutS := match o with
  | .nx ρ s => .nx (clean (ρ.set i none)) s
  | .ret d s => if noErr d = true then .ret d s else .bad
  | .bk ρ s => .bk (clean (ρ.set i none)) s
  | .ct ρ s => .ct (clean (ρ.set i none)) s
  | _ => .bad
abbrev Gt.at (G : Gt) (a : Addr) (c : Nat) (dd : Option Addr) : Gt := ⟨G.cls, some (a, c, dd), G.K⟩
theorem ds_try_as {i : Nat} {nf : Nat → Bool} {hs1 : Nat → MS} (hn : G.err = none) (hs : X.stack = X.env :: X.outer) (hf : X.env.frame = some X.env.locals) (hN : X.N.Nodup) (hi : X.N[i]? = some n) (hln : X.env.kindOf n = some .local) (hc : Names X x (.ref (G.cls T))) (tk : Takes X W) (hmt : ∀ c b, mt c = some b → PySem.W.exmOne X.K (.ref (G.cls c)) (.ref (G.cls T)) = some b)
    (hb : ∀ (W' : WX) (pn : List (Addr × Obj)) (xe : Value → Shared → Prop), Takes (X.tr pn xe) W' → PassesOwn (model X.prog X.w) X.A X.env xe → ∃ t, DSs G (X.tr pn xe) W' body t mb)
    (hsu : ∀ (a : Addr) (oe : Obj) (c : Nat) (dd : Option Addr) (pn : List (Addr × Obj)), mt c = some true → (nf c = true → dd = none) → Zc (.ref (G.cls c)) dd oe → (∃ vs, oe.data = .fields vs) → ∃ t, DSs (G.at a c dd) (X.suite a ((a, oe) :: pn)) W0 (b₀ :: suite) t (hs1 c)) :
    ∃ t, DS G X W (.Try body [.ExceptHandler (some (.Name x np)) (some n) (b₀ :: suite) pos'] [] [] pos) t (sTry mb mt fun c ns xs ρ s => if (nf c && !ns.isEmpty) = true then .bad else backOf i (hs1 c (ρ.set i (some (.err c ns xs))) s)) := by
  refine ⟨_, ps_try_as (tb := tOwn X body) (ts := tSui X (b₀ :: suite)) hs hf hN hi hln hc tk (fun W' pn xe tk' po => ⟨fun pins s σ H Z I h => h pn xe tk' po pins s I⟩) (fun a oe cls d pn hz hv => ⟨fun pins s σ H Z I h => h oe pn hz hv pins s I⟩), ?_⟩
  intro p σ H ρ s Z e pk fin
  refine own_run hb _ p σ H ρ s Z e pk ?_
  unfold sTry at fin
  cases q : mb ρ s with
  | nx ρ' s' => rw [q] at fin; exact fin
  | ret d s' => rw [q] at fin; exact fin
  | bk ρ' s' => rw [q] at fin; exact fin
  | ct ρ' s' => rw [q] at fin; exact fin
  | bad => rw [q] at fin; exact fin
  | exc c ns xs ρ' s' =>
    rw [q] at fin
    dsimp only at fin
    cases q2 : mt c with
    | none => rw [q2] at fin; exact False.elim fin
    | some b =>
      rw [q2] at fin
      intro dd σ' H' k' pk' e' x'
      refine ⟨b, hmt c b q2, fun hbt => ?_, fun hbf => ?_⟩
      · subst hbt
        intro a ha oe pn hz hv pins s1 I
        obtain ⟨us, rus, xk⟩ := x'
        by_cases hnf : (nf c && !ns.isEmpty) = true
        · dsimp only at fin
          rw [if_pos hnf] at fin
          exact False.elim fin
        dsimp only at fin
        rw [if_neg hnf] at fin
        have hdd : nf c = true → dd = none := fun z => by
          rcases xk with z2 | ⟨b, gs, e0, _⟩
          · exact z2.2
          · refine absurd ?_ hnf
            rw [z]
            cases ns with
            | nil => exact absurd rfl e0
            | cons _ _ => rfl
        obtain ⟨t, dt⟩ := hsu a oe c dd pn q2 hdd hz hv
        have rx : Rep (G.at a c dd) p H' (.err c ns xs) (.ref a) := ⟨a, dd, us, rfl, rfl, repL_swap (G := G) (G' := G.at a c dd) ⟨rfl, rfl⟩ xs us (noErrL_of hn xs us rus) rus, xk⟩
        refine dt.ps.run pins s1 _ H' _ I (dt.run p _ H' (ρ'.set i (some (.err c ns xs))) s' _ ((EnvOk.err (G' := G.at a c dd) hn ⟨rfl, rfl⟩ e').set rx) pk' ?_)
        cases q3 : hs1 c (ρ'.set i (some (.err c ns xs))) s' with
        | exc c2 ns2 xs2 ρ2 s2 => rw [q3] at fin; exact False.elim fin
        | nx ρ2 s2 => rw [q3] at fin; exact fun σ2 H2 k2 pk2 e2 => fin _ H2 (k'.trans k2) pk2 (EnvOk.clean (G := G) (G' := G.at a c dd) ⟨rfl, rfl⟩ e2.unset)
        | bk ρ2 s2 => rw [q3] at fin; exact fun σ2 H2 k2 pk2 e2 => fin _ H2 (k'.trans k2) pk2 (EnvOk.clean (G := G) (G' := G.at a c dd) ⟨rfl, rfl⟩ e2.unset)
        | ct ρ2 s2 => rw [q3] at fin; exact fun σ2 H2 k2 pk2 e2 => fin _ H2 (k'.trans k2) pk2 (EnvOk.clean (G := G) (G' := G.at a c dd) ⟨rfl, rfl⟩ e2.unset)
        | ret d s2 =>
          rw [q3] at fin
          have fin : FinS G W p H Z (if noErr d = true then .ret d s2 else .bad) := fin
          by_cases hd : noErr d = true
          · rw [if_pos hd] at fin
            exact fun v H2 k2 pk2 rd => fin v H2 (k'.trans k2) pk2 (rep_swap (G := G.at a c dd) (G' := G) ⟨rfl, rfl⟩ d v hd rd)
          · rw [if_neg hd] at fin; exact False.elim fin
        | bad => rw [q3] at fin; exact False.elim fin
      · subst hbf
        exact fin dd σ' H' k' pk' e' x'
end
end Tw
namespace Tw
open PySem L2 PySem.Spec PyProof.Rows
section
variable {K : PySem.W.Frag} {G : Gt} {W : WX} {X : Cx}
inductive Fl where
  | cells | next | digits | rest | seed | turn
def Fl.key : Fl → Str
  | .cells => "cells"
  | .next => "next"
  | .digits => "digits"
  | .rest => "rest"
  | .seed => "seed"
  | .turn => "turn"
def Pen.get (s : Pen) : Fl → D
  | .cells => .lst (s.cells.map D.int)
  | .next => .int s.next
  | .digits => .int s.digits
  | .rest => .int s.rest
  | .seed => .int s.seed
  | .turn => .int s.turn
def Pen.put (s : Pen) (f : Fl) (d : D) : Option Pen := match f, d with
  | .next, .int i => if decide (0 ≤ i) = true then some { s with next := i.toNat } else none
  | .digits, .int i => some { s with digits := i }
  | .rest, .int i => some { s with rest := i }
  | .seed, .int i => some { s with seed := i }
  | .turn, .int i => some { s with turn := i }
  | _, _ => none
theorem val_pen (c : Addr) (s : Pen) (f : Fl) : valV (penKV c s) (Sum.inr f.key : Key) = some (match f with | .cells => .ref c | .next => .int s.next | .digits => .int s.digits | .rest => .int s.rest | .seed => .int s.seed | .turn => .int s.turn) := by
  cases f <;> rfl
theorem put_pen (c : Addr) (s s' : Pen) (f : Fl) (i : Int) (h : s.put f (.int i) = some s') : putK (penKV c s) (Sum.inr f.key : Key) (.int i) = penKV c s' := by
  cases f
  · cases h
  · have h : (if decide (0 ≤ i) = true then some { s with next := i.toNat } else none) = some s' := h
    by_cases hi : 0 ≤ i
    · rw [if_pos (decide_eq_true hi)] at h
      cases h
      have e : i = ((i.toNat : Nat) : Int) := (Int.toNat_of_nonneg hi).symm
      show putK (penKV c s) (Sum.inr "next" : Key) (.int i) = ([(Sum.inr "cells", .ref c), (Sum.inr "next", .int ((i.toNat : Nat) : Int)), (Sum.inr "digits", .int s.digits), (Sum.inr "rest", .int s.rest), (Sum.inr "seed", .int s.seed), (Sum.inr "turn", .int s.turn)] : List (Key × V))
      rw [← e]
      rfl
    · rw [if_neg (by simp [hi])] at h; cases h
  all_goals (cases h; rfl)
theorem rep_ints {p : Fm} {H : Hp} : ∀ ns : List Int, RepL G p H (ns.map D.int) (ns.map V.int)
  | [] => rfl
  | n :: ns => ⟨.int n, ns.map V.int, rfl, rfl, rep_ints ns⟩
def penGet (fe : Loc → M D) (f : Fl) : Loc → M D := fun ρ => mbind (fe ρ) fun d => fun s => match d with
  | .pen => .ok (s.get f) s
  | _ => .bad
variable {o : Expr} {to : TE} {fo fv : Loc → M D} {pos pos' : Pos} {j : Nat} {pk : Pos} {value : Expr} {tv : TE}
theorem de_penGet (f : Fl) (hu : X.A.units + 1 < cLine) (ho : DE G X W o to fo) {z : Str} (hz : z = f.key) : DE G X W (.Subscript o (.Constant (.str z) j pk) pos) (tDGet to (tC (.str z))) (penGet fo f) := by
  subst hz
  refine ⟨pe_dget hu ho.pe pe_str (fun _ _ => rfl), fun p σ H ρ s Q e pk fin => ?_⟩
  refine ho.run p σ H ρ s _ e pk (fin.step fun d s1 v H1 k1 pk1 rd fin1 => ?_)
  cases d <;> first
    | exact False.elim fin1
    | skip
  obtain ⟨a, c0, ea, rfl⟩ := rd
  obtain ⟨c, ec, hc, h1, h2⟩ := (pk1.1 a (some c0) ea).resolve_left fun z => nomatch z.1
  have hg := DGet.k (k := (Sum.inr f.key : Key)) h1
  rw [val_pen] at hg
  refine ⟨a, _, rfl, hg, fin1 _ H1 Keep.refl pk1 ?_⟩
  cases f <;> first
    | rfl
    | exact ⟨c, _, rfl, hc, h2, rep_ints _⟩
def penPut (fo fv : Loc → M D) (f : Fl) : MS := fun ρ s => sof (fv ρ s) ρ fun d s1 => sof (fo ρ s1) ρ fun x s2 => match x with
  | .pen => (match s2.put f d with
    | some s3 => .nx ρ s3
    | none => .bad)
  | _ => .bad
theorem ds_penPut (f : Fl) (hu : X.A.units + 1 < cLine) (ho : DE G X W o to fo) (hv : DE G X W value tv fv) {z : Str} (hz : z = f.key) (hs : swapsWith value (some (.Subscript o (.Constant (.str z) j pk) pos')) pos.line X.env = pure false := by rfl) :
    DS G X W (.Assign [.Subscript o (.Constant (.str z) j pk) pos'] value pos) (sDPut to (tC (.str z)) tv) (penPut fo fv f) := by
  subst hz
  refine ⟨ps_dput hu ho.pe pe_str hv.pe hs, fun p σ H ρ s Z e pk fin => ?_⟩
  refine hv.run p σ H ρ s _ e pk (FinS.step fin (fun H1 s1 k1 pk1 => e.keep pk.at k1) fun d s1 v H1 k1 pk1 rd fin1 => ?_)
  have e1 := e.keep pk.at k1
  refine ho.run p σ H1 ρ s1 _ e1 pk1 (FinS.step fin1 (fun H2 s2 k2 pk2 => e1.keep pk1.at k2) fun x s2 vx H2 k2 pk2 rx fin2 => ?_)
  cases x <;> first
    | exact False.elim fin2
    | skip
  obtain ⟨a, c0, ea, rfl⟩ := rx
  dsimp only at fin2
  obtain ⟨c, ec, hc, h1, h2⟩ := (pk2.1 a (some c0) ea).resolve_left fun z => nomatch z.1
  cases q : s2.put f d with
  | none => rw [q] at fin2; exact False.elim fin2
  | some s3 =>
    rw [q] at fin2
    have hi : ∃ i, d = .int i := by
      cases f <;> cases d <;> first
        | exact ⟨_, rfl⟩
        | cases q
    obtain ⟨i, rfl⟩ := hi
    obtain rfl : v = .int i := rd
    refine ⟨a, _, rfl, DPut.k (k := (Sum.inr f.key : Key)) h1 (by show 6 < sizeLine; decide), ?_⟩
    have hcell : s3.cells = s2.cells ∧ s3.obj = s2.obj ∧ s3.ocls = s2.ocls ∧ s3.own = s2.own := by
      cases f <;> first
        | (cases q; exact ⟨rfl, rfl, rfl, rfl⟩)
        | (cases q; done)
        | (have q : (if decide (0 ≤ i) = true then some { s2 with next := i.toNat } else none) = some s3 := q
           split at q
           · cases q; exact ⟨rfl, rfl, rfl, rfl⟩
           · cases q)
    rw [put_pen c s2 s3 f i q]
    have hca : c ≠ a := ne_of h2 h1 (fun z => nomatch z)
    obtain ⟨hc1, hc3, hc4, hc5⟩ := hcell
    have ha : p.out a := p.okp a (some c0) ea
    have kk : Keep p H2 (upd H2 a (.dK (penKV c s3))) := fun b u n eb => by
      rw [upd_ne (fun z => n (.inl ⟨some c0, by rw [z]; exact ea⟩))]; exact eb
    have pk3 : PenOk G p (upd H2 a (.dK (penKV c s3))) s3 := by
      refine ⟨fun b kd eb => ?_, fun x c' dx e => ?_, fun b hb => ?_, ?_⟩
      · have eab : (a, some c0) = (b, kd) := Option.some.inj (ea.symm.trans eb)
        cases eab
        exact .inr ⟨c, ec, hc, upd_same, by rw [upd_ne hca, hc1]; exact h2⟩
      · obtain ⟨vs, h3, hl, h4⟩ := pk2.2.1 x c' dx e
        rw [hc3, hc4]
        exact ⟨vs, by rw [upd_ne (p.neo a (some c0) _ _ _ ea e)]; exact h3, hl, repL_upd ha _ _ h4⟩
      · by_cases z : b = a
        · subst z; exact ⟨_, upd_same⟩
        · rw [upd_ne z]; exact pk2.2.2.1 b hb
      · exact OwnR.upd (by rw [hc5]; exact pk2.2.2.2) ha fun k z => (p.nal k a z).1 _ ea
    exact fin2 σ _ kk pk3 ((e1.keep pk1.at k2).keep pk2.at kk)
end
end Tw
namespace Tw
open PySem L2 PySem.Spec PyProof.Rows
section
variable {K : PySem.W.Frag} {G : Gt} {W : WX} {X : Cx}
def CDivX (_ j : Int) : Prop := j ≠ 0 ∧ j.natAbs.log2 < 9000
theorem op_fdivX : OpR X (binaryOp .FloorDiv) (rI CDivX fun i j => .int (i.fdiv j)) := opI fun i j _ _ _ _ _ hc q => floordiv_int hc.1 q (.inl (PyProof.noPylong_of_log2 hc.2))
def fdvI : D → D → M D := int2c (fun _ j => decide (j ≠ 0 ∧ j.natAbs.log2 < 9000)) fun i j => .int (i.fdiv j)
def fmdI : D → D → M D := int2c (fun _ j => decide (j ≠ 0)) fun i j => .int (i.fmod j)
theorem prim_fdv : Prim2 G (rI CDivX fun i j => .int (i.fdiv j)) fdvI := prim_I (fun i j h => of_decide_eq_true (p := j ≠ 0 ∧ j.natAbs.log2 < 9000) h) fun _ _ _ _ => rfl
theorem prim_fmd : Prim2 G (rI (fun _ j => j ≠ 0) fun i j => .int (i.fmod j)) fmdI := prim_I (fun i j h => of_decide_eq_true (p := j ≠ 0) h) fun _ _ _ _ => rfl
theorem cr_len (hK : X.K = K) : CallR X (.builtin "len") (fun xs H Q => ∃ p ys, xs = [.ref p] ∧ (SqL K H p ys ∨ SqT K H p ys) ∧ Q (.int ys.length) H) := by subst hK; exact call_len_seq
variable {a b c e : Expr} {ta te : TE} {fa fe : Loc → M D} {pos : Pos} {tA : TA} {fA : Loc → M (List D)}
theorem run_yes : RunG G W RelB tYes (fun _ => mret true) := fun p σ H ρ s Q e pk fin => fin _ H Keep.refl pk rfl
theorem ds_par {i j : Nat} {x y : Str} {px py pt : Pos} {kt k2 pt2} (hc : X.calm = true) (hN : X.N.Nodup) (hi : X.N[i]? = some x) (hj : X.N[j]? = some y) (hij : i ≠ j)
    (hx : X.env.scope.names.lookup x = some .local) (hy : X.env.scope.names.lookup y = some .local) (ha : DA G X W [a, b] tA fA)
    (hw : swappedStores [.Tuple [.Name x px, .Name y py] kt pt] (.Tuple [a, b] k2 pt2) X.env = pure (some [x, y]) := by rfl)
    (hs : swapsWithSole [.Tuple [.Name x px, .Name y py] kt pt] (.Tuple [a, b] k2 pt2) pos.line X.env = pure false := by rfl) :
    DS G X W (.Assign [.Tuple [.Name x px, .Name y py] kt pt] (.Tuple [a, b] k2 pt2) pos) (tPar i j tA) (spar i j fA) := ⟨ps_par hc hN hi hj hij hx hy ha.pa hw hs, run_par ha.run⟩
structure Dfn (K : PySem.W.Frag) (mg : Str → Option Value) (x qual : Str) (st : Stmt) (ps : List Str) (f : Addr) (fd : FuncData) : Prop where
  fn : Fun K x qual st f fd
  m : mg x = some (.ref f)
  b : L2.Binds K fd ps []
structure Err0 (K : PySem.W.Frag) (mg : Str → Option Value) (x : Str) (C fI : Addr) (st : Stmt) (qual : Str) (fd : FuncData) : Prop where
  ox : OexC K C
  fi : PySem.W.findIn K (.ref C) "__init__" = some (some (.ref fI))
  ti : PySem.W.typeIn K (.ref fI) = some (.type "function")
  fn : Fun K "__init__" qual st fI fd
  bd : L2.Binds K fd ["self"] []
  m : mg x = some (.ref C)
variable {P : Program} {w : World} {mg : Str → Option Value} {base : Heap}
def pen0 (ns : List Int) (seed : Int) : Pen := ⟨ns, 0, 0, 0, seed, 0, [], 0, []⟩
def spPen (K : PySem.W.Frag) : Sp := fun vs H Q _ => ∃ (a : Addr) (ns : List Int), vs = [.ref a] ∧ SqL K H a (ns.map V.int) ∧
  ∀ (seed : Int) (H' : Hp) (p c : Addr), Same H H' → H p = none → H c = none → H' p = some (.dK (penKV c (pen0 ns seed))) → H' c = some (.lst (ns.map V.int)) → Q (.ref p) H'
end
end Tw
namespace Tw
open PySem L2 PySem.Spec PyProof.Rows
def kC (d : D) : Loc → M D := fun _ => mret d
def kOp (f : D → D → M D) (fa fb : Loc → M D) : Loc → M D := fun ρ => mbind (fa ρ) fun x => mbind (fb ρ) fun y => f x y
def kUn (f : D → M D) (fa : Loc → M D) : Loc → M D := fun ρ => mbind (fa ρ) f
def kB (fa : Loc → M D) : Loc → M Bool := fun ρ => mbind (fa ρ) asB
def kAnd (f1 f2 : Loc → M Bool) : Loc → M Bool := fun ρ => mbind (f1 ρ) fun c => if c = true then f2 ρ else mret false
def kOr (f1 f2 : Loc → M Bool) : Loc → M Bool := fun ρ => mbind (f1 ρ) fun c => if c = true then mret true else f2 ρ
def kNot (f1 : Loc → M Bool) : Loc → M Bool := fun ρ => mbind (f1 ρ) fun c => mret (!c)
def kAndV (fa fb : Loc → M D) : Loc → M D := fun ρ => mbind (mbind (fa ρ) asB) fun c => if c = true then fb ρ else mret (.bl false)
def kOrV (fa fb : Loc → M D) : Loc → M D := fun ρ => mbind (mbind (fa ρ) asB) fun c => if c = true then mret (.bl true) else fb ρ
def kNotV (fa : Loc → M D) : Loc → M D := fun ρ => mbind (mbind (fa ρ) asB) fun c => mret (.bl (!c))
def kIf (f1 : Loc → M Bool) (fa fb : Loc → M D) : Loc → M D := fun ρ => mbind (f1 ρ) fun c => if c = true then fa ρ else fb ρ
def kCh (f f' : D → D → M D) (fa fb fc : Loc → M D) : Loc → M D := fun ρ => mbind (fa ρ) fun x => mbind (fb ρ) fun y => mbind (mbind (f x y) asB) fun k => if k = true then mbind (fc ρ) fun z => f' y z else mret (.bl false)
def aNil : Loc → M (List D) := fun _ => mret []
def aCons (fe : Loc → M D) (fA : Loc → M (List D)) : Loc → M (List D) := fun ρ => mbind (fe ρ) fun x => mbind (fA ρ) fun xs => mret (x :: xs)
def kCall (m : List D → M D) (fA : Loc → M (List D)) : Loc → M D := fun ρ => mbind (fA ρ) m
def kLc (fi : Loc → M (List D)) (gm : D → Loc → Option Loc) (mt : Loc → M Bool) (fe : Loc → M D) (vs : List Nat) : Loc → M D := fun ρ => mbind (fi ρ) fun ds => mbind (cloop gm mt fe ds (wipeL ρ vs) []) lstD
def iL (fe : Loc → M D) : Loc → M (List D) := fun ρ => mbind (fe ρ) asL
def iT (fe : Loc → M D) : Loc → M (List D) := fun ρ => mbind (fe ρ) asT
def iR1 (fA : Loc → M (List D)) : Loc → M (List D) := fun ρ => mbind (fA ρ) rng1
def iR2 (fA : Loc → M (List D)) : Loc → M (List D) := fun ρ => mbind (fA ρ) rng2
def zNx : MS := fun ρ s => .nx ρ s
def zBk : MS := fun ρ s => .bk ρ s
def zCt : MS := fun ρ s => .ct ρ s
def zEx (fe : Loc → M D) : MS := fun ρ s => sof (fe ρ s) ρ fun _ s' => .nx ρ s'
def zRet (fe : Loc → M D) : MS := fun ρ s => sof (fe ρ s) ρ fun d s' => .ret d s'
def zRetN : MS := fun _ s => .ret .non s
def zIf (f1 : Loc → M Bool) (m m' : MS) : MS := fun ρ s => sof (f1 ρ s) ρ fun k s' => if k = true then m ρ s' else m' ρ s'
def zRaise (c : Nat) : MS := fun ρ s => .exc c [] [] ρ s
def oT (mt : Nat → Option Bool) (mb : MS) (hm : MS) : MS := sTry mb mt fun c ns xs ρ s => match hm ρ s with | .exc _ _ _ _ _ => .bad | o => o
def oA (i : Nat) (mt : Nat → Option Bool) (nf : Nat → Bool) (mb : MS) (hm : Nat → MS) : MS := sTry mb mt fun c ns xs ρ s => if (nf c && !ns.isEmpty) = true then .bad else backOf i (hm c (ρ.set i (some (.err c ns xs))) s)
section
variable {K : PySem.W.Frag} {G : Gt} {W : WX} {X : Cx}
variable {a b c e : Expr} {es rest : List Expr} {ta tb tc te : TE} {fa fb fc fe : Loc → M D} {r r' : R2} {f f' : D → D → M D} {pos : Pos} {tA : TA} {fA : Loc → M (List D)} {A1 A2 : TT} {f1 f2 : Loc → M Bool} {t u : TS} {m m' mb : MS} {sts : List Stmt} {st : Stmt}
theorem x_int {i : Int} {j : Nat} : DE G X W (.Constant (.int i) j pos) (tC (.int i)) (kC (.int i)) := de_int
theorem x_bl {i : Bool} {j : Nat} : DE G X W (.Constant (.bool i) j pos) (tC (.bl i)) (kC (.bl i)) := de_bl
theorem x_non {j : Nat} : DE G X W (.Constant .none j pos) (tC .non) (kC .non) := de_non
theorem x_str {x : Str} {j : Nat} : DE G X W (.Constant (.str x) j pos) (tC (.str x)) (kC (.str x)) := de_str
theorem x_ty {x : Str} {n : String} (hm : X.mg x = none) (hv : bootBuiltins x = some (.type n)) (hg : Gl X x := by rfl) (hn : x ≠ "__name__" := by decide) (hd : (x == ("__debug__" : Str)) = false := by decide) : DE G X W (.Name x pos) (tC (.ty n)) (kC (.ty n)) := de_ty hg hm hv hn hd
theorem x_cls {x : Str} {n : Nat} (hm : X.mg x = some (.ref (G.cls n))) (hg : Gl X x := by rfl) (hd : (x == ("__debug__" : Str)) = false := by decide) : DE G X W (.Name x pos) (tC (.ref (G.cls n))) (kC (.cls n)) := de_cls hg hm hd
theorem x_op {op : Operator} (ho : OpR X (binaryOp op) r) (hp : Prim2 G r f) (ha : DE G X W a ta fa) (hb : DE G X W b tb fb) : DE G X W (.BinOp a op b pos) (tOp r ta tb) (kOp f fa fb) := de_op ho hp ha hb
theorem x_un {op : UnaryOp} {r : V → Hp → VK → Prop} {f : D → M D} (ho : UnR X (unaryOp op) r) (hp : Prim1 G r f) (ha : DE G X W a ta fa) : DE G X W (.UnaryOp op a pos) (tUn r ta) (kUn f fa) := de_un ho hp ha
theorem x_cmp {op : CmpOp} (ho : OpR X (compareOp op) r) (hp : Prim2 G r f) (ha : DE G X W a ta fa) (hb : DE G X W b tb fb) (hm : behindInMarks op b = false := by first | exact nomark _ | rfl) : DE G X W (.Compare a [op] [b] pos) (tOp r ta tb) (kOp f fa fb) := de_cmp ho hp ha hb hm
theorem q_val (h : DE G X W e te fe) (he : ∀ whole, isTrue e X.env whole = (do let v ← whole; standAt e.pos; holding [v] (truthy v)) := by intro _; rfl) : DT G X W e (tB te) (kB fe) := dt_val h he
theorem q_cmp {op : CmpOp} (ho : OpR X (compareOp op) r) (hp : Prim2 G r f) (ha : DE G X W a ta fa) (hb : DE G X W b tb fb) (hm : behindInMarks op b = false := by first | exact nomark _ | rfl) : DT G X W (.Compare a [op] [b] pos) (tTest (tOp r ta tb)) (kB (kOp f fa fb)) := dt_cmp ho hp ha hb hm
theorem w_and1 (ha : DT G X W a A1 f1) : DW G X W (.BoolOp .And [a] pos) A1 f1 := dw_and1 ha
theorem w_or1 (ha : DT G X W a A1 f1) : DW G X W (.BoolOp .Or [a] pos) A1 f1 := dw_or1 ha
theorem w_and (ha : DT G X W a A1 f1) (hb : DW G X W (.BoolOp .And (b :: rest) pos) A2 f2) : DW G X W (.BoolOp .And (a :: b :: rest) pos) (tAnd A1 A2) (kAnd f1 f2) := dw_and ha hb
theorem w_or (ha : DT G X W a A1 f1) (hb : DW G X W (.BoolOp .Or (b :: rest) pos) A2 f2) : DW G X W (.BoolOp .Or (a :: b :: rest) pos) (tOr A1 A2) (kOr f1 f2) := dw_or ha hb
theorem q_not (ha : DT G X W a A1 f1) : DT G X W (.UnaryOp .Not a pos) (tNot A1) (kNot f1) := dt_not ha
theorem x_and (ha : DE G X W a ta fa) (hb : DE G X W (.BoolOp .And (b :: rest) pos) tb fb) : DE G X W (.BoolOp .And (a :: b :: rest) pos) (tAndV ta tb) (kAndV fa fb) := de_and ha hb
theorem a_nil : DA G X W [] tNil aNil := da_nil
theorem a_cons (ha : DE G X W e te fe) (hr : DA G X W es tA fA) (hs : starEach (e :: es) X.env = (false, eval e X.env) :: starEach es X.env := by rfl) : DA G X W (e :: es) (tCons te tA) (aCons fe fA) := da_cons ha hr hs
theorem l_nil : LenA aNil 0 := len_nil
theorem l_cons {n : Nat} (h : LenA fA n) : LenA (aCons fe fA) (n + 1) := len_cons h
theorem x_tup {x1} (h : DA G X W es tA fA) : DE G X W (.Tuple es x1 pos) (tTup tA) (kCall tupD fA) := de_tup h
theorem x_lst (h : DA G X W es tA fA) : DE G X W (.List es pos) (tLst tA) (kCall lstD fA) := de_lst h
theorem x_ix (hK : X.K = K) (ha : DE G X W a ta fa) (hb : DE G X W b tb fb) (hs : PlainIx b := by exact fun _ _ => rfl) : DE G X W (.Subscript a b pos) (tOp (fun x y H Q => rIxL K x y H Q ∨ rIxT K x y H Q) ta tb) (kOp itemD fa fb) := de_ix hK ha hb hs
theorem x_call {k n : Nat} {g : Addr} {fd : FuncData} {ps : List Str} {m : List D → M D} {x : Str} {p0 : Pos} (F : FnOk X.prog X.w X.K X.mg X.base (L2.CX X.prog X.w) k g fd ps (spM G n m)) (hr : Room k X.A) (tk : Takes X W) (hm : X.mg x = some (.ref g)) (hk : PySem.W.keepIn X.K (.ref g) = true) (hb : L2.Binds X.K fd ps [])
    (ha : DA G X W (e :: es) tA fA) (hl : LenA fA n) (hg : Gl X x := by rfl) (hdb : (x == ("__debug__" : Str)) = false := by decide) (he : starEach (e :: es) X.env = (false, eval e X.env) :: starEach es X.env := by rfl) (hpl : (backTo pos (starEach es X.env)).any (·.1) = false := by rfl) :
    DE G X W (.Call (.Name x p0) (e :: es) [] pos) (tCallS (spM G n m) (WE W) tA) (kCall m fA) := de_call F hr tk hg hm hk hb ha hl hdb he hpl
theorem x_callB {x : Str} {p0 : Pos} {id : String} {rl : List V → Hp → VK → Prop} {g : List D → M D} (hc : CallR X (.builtin id) rl) (hp : PrimL G rl g) (hm : X.mg x = none) (hv : bootBuiltins x = some (.builtin id)) (ha : DA G X W (e :: es) tA fA) (hg : Gl X x := by rfl) (hn : x ≠ "__name__" := by decide) (hdb : (x == ("__debug__" : Str)) = false := by decide)
    (he : starEach (e :: es) X.env = (false, eval e X.env) :: starEach es X.env := by rfl) (hpl : (backTo pos (starEach es X.env)).any (·.1) = false := by rfl) : DE G X W (.Call (.Name x p0) (e :: es) [] pos) (tCB rl tA) (kCall g fA) := de_callB hc hp hg hm hv ha hn hdb he hpl
theorem x_callTy {x : Str} {p0 : Pos} {T : String} {rl : List V → Hp → VK → Prop} {g : List D → M D} (hc : CallR X (.type T) rl) (hp : PrimL G rl g) (hm : X.mg x = none) (hv : bootBuiltins x = some (.type T)) (ha : DA G X W (e :: es) tA fA) (hg : Gl X x := by rfl) (hn : x ≠ "__name__" := by decide) (hdb : (x == ("__debug__" : Str)) = false := by decide)
    (he : starEach (e :: es) X.env = (false, eval e X.env) :: starEach es X.env := by rfl) (hpl : (backTo pos (starEach es X.env)).any (·.1) = false := by rfl) : DE G X W (.Call (.Name x p0) (e :: es) [] pos) (tCB rl tA) (kCall g fA) := de_callTy hc hp hg hm hv ha hn hdb he hpl
theorem i_range1 {tg : Expr} {p0 : Pos} (hm : X.mg "range" = none) (ha : DA G X W [a] tA fA) (hg : Gl X "range" := by rfl) (hs : starEach [a] X.env = [(false, eval a X.env)] := by rfl) : DI G X W tg (.Call (.Name "range" p0) [a] [] pos) (iRng1 tA) (iR1 fA) := di_range1 hg hm ha hs
theorem x_lc {tg iter elt : Expr} {ifs : List Expr} {scope : Scope} (own : List (Str × Nat)) {wi : TI} {g : TG} {gm : D → Loc → Option Loc} {fi : Loc → M (List D)} {tt : TT} {mt : Loc → M Bool} (hc : X.calm = true) (hN : X.N.Nodup) (hi : DI G X W tg iter wi fi) (ok : BlkOk X.N X.env.scope scope own)
    (hg : ∀ (s : Shared) (H : Hp) (C : Addr) (cl : List (Str × Addr)) (fp : List Addr), DG G (X.blk s H scope (compEnvC scope cl C X.env) fp) (own.map (·.2)) tg g gm) (ht : ∀ (s : Shared) (H : Hp) (C : Addr) (cl : List (Str × Addr)) (fp : List Addr), PTs (X.blk s H scope (compEnvC scope cl C X.env) fp) ifs tt) (htr : RunG G W0 RelB tt mt)
    (he : ∀ (s : Shared) (H : Hp) (C : Addr) (cl : List (Str × Addr)) (fp : List Addr), DE G (X.blk s H scope (compEnvC scope cl C X.env) fp) W0 elt te fe) (hs : ∀ x, foldedSetIterable iter X.env x = pure x := by intro _; rfl) :
    DE G X W (.ListComp elt [⟨tg, iter, ifs, 0⟩] scope pos) (tLc wi g tt te (own.map (·.2))) (kLc fi gm mt fe (own.map (·.2))) := de_lc hc hN hi ok hg ht htr he hs
theorem z_nil : DSs G X W [] tNext zNx := dss_nil
theorem z_ret (he : DE G X W e te fe) : DS G X W (.Return (some e) pos) (tRet te) (zRet fe) := ds_ret he
theorem z_if {x y : List Stmt} (hc : DT G X W c A1 f1) (ha : DSs G X W x t m) (hb : DSs G X W y u m') : DS G X W (.If c x y pos) (tIfS A1 t u) (zIf f1 m m') := ds_if hc ha hb
theorem z_raise0 {cn : Nat} {x : Str} {fI : Addr} {stI : Stmt} {qual : Str} {fd : FuncData} {p0 pos' ppos : Pos} (hc : X.calm = true) (tk : Takes X W) (E : Err0 X.K X.mg x (G.cls cn) fI stI qual fd) (S : FnScope ["self"] ["self"] (defScope stI)) (hb : defBody stI = [.Pass ppos]) (hr : Room 2 X.A) (hg : Gl X x := by rfl) (hdb : (x == ("__debug__" : Str)) = false := by decide) :
    DS G X W (.Raise (some (.Call (.Name x p0) [] [] pos')) none pos) (fun _ σ H => ∀ H', (∀ b o, H b = some o → H' b = some o) → W (.ref (G.cls cn)) none σ H') (zRaise cn) :=
  ds_raise0 hc tk (pmk_no E.ox E.fi E.ti (ok_noinit E.fn S hb) hr E.bd hg E.m hdb)
theorem g_tup {vs : List Nat} {n k : Nat} {gs : TGs} {g2 : List D → Loc → Option Loc} (hK : X.K = K) (hc : X.calm = true) (h : DGs G X vs es gs g2) (hn : (assignEach es X.env).length = n := by rfl) (hst : (assignEach es X.env).findIdx? (·.1) = none := by rfl) : DG G X vs (.Tuple es k pos) (gTup K n gs) (gtm n g2) := by
  subst hK; exact dg_tup h.run (pg_tup hc h.pg hn hst)
def gnl : List D → Loc → Option Loc := fun ds ρ => match ds with
  | [] => some ρ
  | _ => none
theorem g_nil {vs : List Nat} : DGs G X vs [] gNil gnl := dgs_nil
theorem g_cons {vs : List Nat} {g : TG} {gs : TGs} {g1 : D → Loc → Option Loc} {g2 : List D → Loc → Option Loc} (h1 : DG G X vs e g g1) (h2 : DGs G X vs es gs g2) (hs : (assignEach (e :: es) X.env).map (·.2) = assign e X.env :: (assignEach es X.env).map (·.2) := by rfl) : DGs G X vs (e :: es) (gCons g gs) (gcn g1 g2) := dgs_cons h1 h2 (pgs_cons h1.pg h2.pg hs)
end
end Tw
namespace Tw
open PySem L2
theorem mbind_ret {α β : Type} (a : α) (f : α → M β) : mbind (mret a) f = f a := rfl
theorem mbind_bad {α β : Type} (f : α → M β) : mbind mbad f = mbad := rfl
theorem sof_ret {α : Type} (a : α) (s : Pen) (ρ : Loc) (k : α → Pen → OutS) : sof (mret a s) ρ k = k a s := rfl
theorem mbind_ap {α β : Type} (m : M α) (f : α → M β) (s : Pen) : mbind m f s = obind (m s) f := rfl
theorem obind_ok {α β : Type} (a : α) (s : Pen) (f : α → M β) : obind (.ok a s) f = f a s := rfl
theorem sof_ok {α : Type} (a : α) (s : Pen) (ρ : Loc) (k : α → Pen → OutS) : sof (.ok a s) ρ k = k a s := rfl
theorem mret_ap {α : Type} (a : α) (s : Pen) : mret a s = .ok a s := rfl
theorem sseq_nx {m m' : MS} {ρ ρ' : Loc} {s s' : Pen} (h : m ρ s = .nx ρ' s') : sseq m m' ρ s = m' ρ' s' := by unfold sseq; rw [h]
theorem sseq_ret {m m' : MS} {ρ : Loc} {d : D} {s s' : Pen} (h : m ρ s = .ret d s') : sseq m m' ρ s = .ret d s' := by unfold sseq; rw [h]
theorem mdef_ret {n : Nat} {b : MS} {ds : List D} {d : D} {s s' : Pen} (h : b (startL n ds) s = .ret d s') : mdef n b ds s = .ok d s' := by unfold mdef; rw [h]
theorem p9 : powI (.int 10) (.int 9) = mret (.int 1000000000) := rfl
theorem p15 : powI (.int 10) (.int 15) = mret (.int 1000000000000000) := rfl
theorem p18 : powI (.int 10) (.int 18) = mret (.int 1000000000000000000) := rfl
theorem p20 : powI (.int 10) (.int 20) = mret (.int 100000000000000000000) := rfl
theorem p30 : powI (.int 10) (.int 30) = mret (.int 1000000000000000000000000000000) := rfl
theorem mul_eq {i j : Int} (h : mulOk i j = true) : mulI (.int i) (.int j) = mret (.int (i * j)) := by
  show (if mulOk i j = true then mret (D.int (i * j)) else mbad) = _
  rw [if_pos h]
theorem mulOk_r {i j : Int} (h : j.natAbs < 2 ^ 64) : mulOk i j = true := by unfold mulOk; rw [decide_eq_true h]; rfl
theorem mulOk_l {i j : Int} (h : i.natAbs < 2 ^ 64) : mulOk i j = true := by
  unfold mulOk
  rw [decide_eq_true h]
  cases decide (j.natAbs < 2 ^ 64) <;> rfl
theorem log2_le {n m : Nat} (h : n ≤ m) : n.log2 ≤ m.log2 := by
  by_cases h0 : n = 0
  · subst h0; simp
  · exact (Nat.le_log2 (by omega)).mpr (Nat.le_trans (Nat.log2_self_le h0) h)
def Sm (n : Nat) (x : Int) : Prop := x.natAbs < 2 ^ n
instance {n : Nat} {x : Int} : Decidable (Sm n x) := inferInstanceAs (Decidable (x.natAbs < 2 ^ n))
theorem Sm.mul {i j : Int} {n m : Nat} (hi : Sm n i) (hj : Sm m j) : Sm (n + m) (i * j) := wide_lt hi hj
theorem Sm.add {i j : Int} {n : Nat} (hi : Sm n i) (hj : Sm n j) : Sm (n + 1) (i + j) := by
  unfold Sm at *
  have : (2 : Nat) ^ (n + 1) = 2 ^ n + 2 ^ n := by rw [Nat.pow_succ]; omega
  omega
theorem Sm.sub {i j : Int} {n : Nat} (hi : Sm n i) (hj : Sm n j) : Sm (n + 1) (i - j) := by
  unfold Sm at *
  have : (2 : Nat) ^ (n + 1) = 2 ^ n + 2 ^ n := by rw [Nat.pow_succ]; omega
  omega
theorem Sm.mono {i : Int} {n m : Nat} (hi : Sm n i) (h : n ≤ m) : Sm m i := Nat.lt_of_lt_of_le hi (Nat.pow_le_pow_right (by decide) h)
theorem isi_of {x : D} {T a : String} (h : tag x = some a) (hk : kitB a T = some (subT a T)) : isiB [x, .ty T] = mret (.bl (subT a T)) := by
  show (match tag x with | some a => if decide (kitB a T = some (subT a T)) = true then mret (D.bl (subT a T)) else mbad | none => mbad) = _
  rw [h]
  show (if decide (kitB a T = some (subT a T)) = true then mret (D.bl (subT a T)) else mbad) = _
  rw [if_pos (decide_eq_true hk)]
theorem ii_int (i : Int) : isiB [.int i, .ty "int"] = mret (.bl true) := isi_of (a := "int") rfl (by decide +kernel)
theorem ii_bool (i : Int) : isiB [.int i, .ty "bool"] = mret (.bl false) := isi_of (a := "int") rfl (by decide +kernel)
theorem ib_int (i : Bool) : isiB [.bl i, .ty "int"] = mret (.bl true) := isi_of (a := "bool") rfl (by decide +kernel)
theorem ib_bool (i : Bool) : isiB [.bl i, .ty "bool"] = mret (.bl true) := isi_of (a := "bool") rfl (by decide +kernel)
theorem in_int : isiB [.non, .ty "int"] = mret (.bl false) := isi_of (a := "NoneType") rfl (by decide +kernel)
theorem is_int (x : Str) : isiB [.str x, .ty "int"] = mret (.bl false) := isi_of (a := "str") rfl (by decide +kernel)
theorem it_int (xs : List D) : isiB [.tup xs, .ty "int"] = mret (.bl false) := isi_of (a := "tuple") rfl (by decide +kernel)
theorem il_int (xs : List D) : isiB [.lst xs, .ty "int"] = mret (.bl false) := isi_of (a := "list") rfl (by decide +kernel)
theorem it_tuple (xs : List D) : isiB [.tup xs, .ty "tuple"] = mret (.bl true) := isi_of (a := "tuple") rfl (by decide +kernel)
theorem atI_int {ns : List Int} {i : Nat} (h : i < ns.length) : ∃ n, atI (ns.map D.int) (i : Int) = some (.int n) := by
  refine ⟨ns[i], atI_nat ?_⟩
  rw [List.getElem?_map, List.getElem?_eq_some_iff.mpr ⟨h, rfl⟩]
  rfl
theorem fmd_eq {i j : Int} (h : j ≠ 0) : fmdI (.int i) (.int j) = mret (.int (i.fmod j)) := by
  show (if decide (j ≠ 0) = true then mret (D.int (i.fmod j)) else mbad) = _
  rw [if_pos (decide_eq_true h)]
theorem fdv_eq {i j : Int} (h : j ≠ 0) (h9 : j.natAbs.log2 < 9000) : fdvI (.int i) (.int j) = mret (.int (i.fdiv j)) := by
  show (if decide (j ≠ 0 ∧ j.natAbs.log2 < 9000) = true then mret (D.int (i.fdiv j)) else mbad) = _
  rw [if_pos (decide_eq_true ⟨h, h9⟩)]
theorem fdv_64 {i : Int} : fdvI (.int i) (.int 64) = mret (.int (i.fdiv 64)) := fdv_eq (by decide) (by decide)
end Tw
namespace Tw
open PySem L2
def rd (q : Rat) : D := .tup [.int q.num, .int (q.den : Nat)]
end Tw
namespace Tw
open PySem L2 PySem.Spec PyProof.Rows
section
variable {K : PySem.W.Frag} {G : Gt} {W : WX} {X : Cx}
variable {a b c e o : Expr} {es : List Expr} {ta te to tv : TE} {fa fe fo fv : Loc → M D} {pos pos' apos : Pos} {tA : TA} {fA : Loc → M (List D)} {f m : Str}
def fldOf (ns : List Str) (xs : List D) (f : Str) : Option D := (ns.zip xs).lookup f
def fldD (cf : Nat → Bool) (f : Str) : D → M D := fun d s => match d with
  | .ins n ns xs => if cf n = true then (match fldOf ns xs f with
    | some x => .ok x s
    | none => .bad) else .bad
  | .self => if (cf s.ocls && s.ocls != gro) = true then (match s.obj.lookup f with
    | some x => .ok x s
    | none => .bad) else .bad
  | _ => .bad
def kFld (cf : Nat → Bool) (f : Str) (fa : Loc → M D) : Loc → M D := fun ρ => mbind (fa ρ) (fldD cf f)
def objPut (n : Nat) (f : Str) (fo fv : Loc → M D) : MS := fun ρ s => sof (fv ρ s) ρ fun d s1 => sof (fo ρ s1) ρ fun x s2 => match x with
  | .self => if (s2.ocls == n && n != gro && (s2.obj.lookup f).isNone && clear d && decide (s2.obj.length < 1000)) = true then .nx ρ { s2 with obj := s2.obj ++ [(f, d)] } else .bad
  | _ => .bad
def mkD (c : Nat) (m : List D → M D) : List D → M D := fun ds s => if (clearL ds && c != gro) = true then (match m (.self :: ds) { s with obj := [], ocls := c } with
  | .ok .non s' => .ok (.ins c (s'.obj.map (·.1)) (s'.obj.map (·.2))) { s' with obj := s.obj, ocls := s.ocls }
  | .exc c' ns xs s' => if clearL xs = true then .exc c' ns xs { s' with obj := s.obj, ocls := s.ocls } else .bad
  | _ => .bad) else .bad
structure MkC (K : PySem.W.Frag) (mg : Str → Option Value) (x : Str) (C fI : Addr) (fd : FuncData) (ps : List Str) (dl : List Value) : Prop where
  made : L2.Mk K C fI
  m : mg x = some (.ref C)
  bd : L2.Binds K fd ps dl
end
end Tw
namespace Tw
open PySem L2 PySem.Spec PyProof.Rows
section
variable {K : PySem.W.Frag} {G : Gt} {W : WX} {X : Cx}
variable {a b c e o : Expr} {es : List Expr} {ta te to tv : TE} {fa fe fo fv : Loc → M D} {pos pos' apos : Pos} {tA : TA} {fA : Loc → M (List D)} {f m : Str}
def isI (n : Nat) (m : Str) : D → M Unit := fun d => match d with
  | .ins k ns _ => if (k == n && !ns.contains m) = true then mret () else mbad
  | _ => mbad
section
variable {CX : CXT} {k : Nat} {C g : Addr} {fd : FuncData} {ps : List Str} {sp : Sp} {dvs : List V} {dl : List Value} {E : L2.St → XK} {t : TA} {pl : Sem Bool}
end
structure Mtd (K : PySem.W.Frag) (C : Addr) (m : Str) (ps : List Str) (dl : List Value) (g : Addr) (fd : FuncData) : Prop where
  c : L2.Cls K C
  at_ : L2.Meth K C m g
  b : L2.Binds K fd ps dl
def kMeth (n : Nat) (m : Str) (md : List D → M D) (dd : List D) (fo : Loc → M D) (fA : Loc → M (List D)) : Loc → M D := fun ρ => mbind (fo ρ) fun d => mbind (isI n m d) fun _ => mbind (fA ρ) fun ds => md (d :: (ds ++ dd))
theorem FinG.calm {α β : Type} {W' : WX} {R : Fm → Hp → α → β → Prop} {p : Fm} {σ σ' : L2.St} {H : Hp} {s : Pen} {Q : β → Hp → Prop} {md : M α} (h : FinG G W R p σ H Q (nox md s)) : FinG G W' R p σ' H Q (md s) := by
  unfold nox at h
  cases q : md s with
  | ok a s1 => rw [q] at h; exact h
  | exc c ns xs s1 => rw [q] at h; exact False.elim h
  | bad => rw [q] at h; exact h
structure Prp (K : PySem.W.Frag) (C : Addr) (m : Str) (ps : List Str) (pr g : Addr) (fd : FuncData) : Prop where
  c : L2.Cls K C
  at_ : PropOf K C m pr g
  b : L2.Binds K fd ps []
def kProp (n : Nat) (m : Str) (md : List D → M D) (fo : Loc → M D) : Loc → M D := fun ρ => mbind (fo ρ) fun d => mbind (isI n m d) fun _ => nox (md [d])
structure Cmt (K : PySem.W.Frag) (C : Addr) (m : Str) (ps : List Str) (dl : List Value) (mc : Value) (pr g : Addr) (fd : FuncData) : Prop where
  rd : ClX.CRead K C mc
  at_ : ClX.CMet K C mc m pr g
  b : L2.Binds K fd ps dl
end
end Tw
namespace Tw
open PySem L2 PySem.Spec PyProof.Rows
section
variable {prog : Program} {w : World} {A : Around} {E : Value → Shared → Prop} {s : Shared} {K : PySem.W.Frag} {x y C f : Addr} {ox oy : Obj} {od oe : Option Obj}
open PySem.W in
end
section
variable {K : PySem.W.Frag} {G : Gt} {W : WX} {X : Cx}
structure Opr (K : PySem.W.Frag) (C : Addr) (op : Operator) (g : Addr) (fd : FuncData) (ps : List Str) : Prop where
  first : PySem.W.selfFirst K C = true
  at_ : PySem.W.findIn K (.ref C) (PySem.dunder op.info.2) = some (some (.ref g))
  isf : PySem.W.isFn K (.ref g) = true
  b : L2.Binds K fd ps []
structure OprI (K : PySem.W.Frag) (C : Addr) (op : Operator) : Prop where
  r : PySem.W.findIn K (.ref C) (dunderR op.info.2) = some none
  h1 : ∃ fo, PySem.W.findIn K (.type "int") (PySem.dunder op.info.2) = some fo
  h2 : ∃ ro, PySem.W.findIn K (.type "int") (dunderR op.info.2) = some ro
  sub : PySem.W.subIn K (.type "int") (.ref C) = some false
variable {op : Operator} {C g : Addr} {qual : Str} {st : Stmt} {fd : FuncData} {ps : List Str} {k : Nat} {sp : Sp}
structure Ong (K : PySem.W.Frag) (C : Addr) (g : Addr) (fd : FuncData) (ps : List Str) : Prop where
  at_ : PySem.W.findIn K (.ref C) "__neg__" = some (some (.ref g))
  isf : PySem.W.isFn K (.ref g) = true
  b : L2.Binds K fd ps []
variable {n : Nat} {md : List D → M D}
inductive Bx where
  | rest | seed | turn
def Bx.ix : Bx → Int
  | .rest => 0
  | .seed => 1
  | .turn => 2
def Pen.bget (s : Pen) : Bx → Int
  | .rest => s.rest
  | .seed => s.seed
  | .turn => s.turn
def Pen.bput (s : Pen) (f : Bx) (i : Int) : Pen := match f with
  | .rest => { s with rest := i }
  | .seed => { s with seed := i }
  | .turn => { s with turn := i }
def bagGet (fe : Loc → M D) (f : Bx) : Loc → M D := fun ρ => mbind (fe ρ) fun d => fun s => match d with
  | .bag => .ok (.int (s.bget f)) s
  | _ => .bad
variable {o e : Expr} {to te tv : TE} {fo fv : Loc → M D} {pos pos' pk' : Pos} {j : Nat} {value : Expr}
def bagPut (fo fv : Loc → M D) (f : Bx) : MS := fun ρ s => sof (fv ρ s) ρ fun d s1 => sof (fo ρ s1) ρ fun x s2 => match x, d with
  | .bag, .int i => .nx ρ (s2.bput f i)
  | _, _ => .bad
end
end Tw
namespace Tw
open PySem L2 PySem.Spec PyProof.Rows
section
variable {K : PySem.W.Frag} {G : Gt} {W : WX} {X : Cx}
def tyTag : D → Option (String ⊕ Nat)
  | .non => some (.inl "NoneType")
  | .bl _ => some (.inl "bool")
  | .int _ => some (.inl "int")
  | .str _ => some (.inl "str")
  | .lst _ => some (.inl "list")
  | .tup _ => some (.inl "tuple")
  | .ins n _ _ => some (.inr n)
  | .dct _ _ => some (.inl "dict")
  | _ => none
def tyV (G : Gt) : String ⊕ Nat → Value
  | .inl x => .type x
  | .inr n => .ref (G.cls n)
structure Oeq (K : PySem.W.Frag) (C : Addr) (g : Addr) (fd : FuncData) (ps : List Str) : Prop where
  at_ : PySem.W.findIn K (.ref C) "__eq__" = some (some (.ref g))
  isf : PySem.W.isFn K (.ref g) = true
  b : L2.Binds K fd ps []
variable {C g : Addr} {qual : Str} {st : Stmt} {fd : FuncData} {ps : List Str} {k n : Nat} {sp : Sp} {md : List D → M D}
structure Isc (K : PySem.W.Frag) (C : Addr) : Prop where
  c : L2.Cls K C
  h1 : PySem.W.findIn K (.ref C) "__class__" = some (some (.builtin "object.__class__"))
  h2 : PySem.W.specialIn K (.builtin "object.__class__") "__get__" = some (some (.builtin "getset_descriptor.__get__"))
  h3 : PySem.W.takesIn K (.builtin "object.__class__") = some true
  h4 : PySem.W.mroIn K C (.type "object") = some true
def isiO (ans : String ⊕ Nat → String ⊕ Nat → Option Bool) (ds : List D) : M D := match ds with
  | [x, .ty T] => (match tyTag x with
    | some t => (match ans t (.inl T) with
      | some b => mret (.bl b)
      | none => mbad)
    | none => mbad)
  | [x, .cls c] => (match tyTag x with
    | some t => (match ans t (.inr c) with
      | some b => mret (.bl b)
      | none => mbad)
    | none => mbad)
  | _ => mbad
structure IsA (G : Gt) (K : PySem.W.Frag) (ans : String ⊕ Nat → String ⊕ Nat → Option Bool) : Prop where
  ok : ∀ t c b, ans t c = some b → PySem.W.kitOne K (tyV G t) (tyV G c) = some b
  isc : ∀ n c b, ans (.inr n) c = some b → Isc K (G.cls n)
variable {c : Expr} {body : List Stmt} {A1 : TT} {f1 : Loc → M Bool} {tb : TS} {mb : MS} {pos : Pos}
open Classical in
end
end Tw
namespace Tw
open PySem L2 PySem.Spec PyProof.Rows
section
variable {K : PySem.W.Frag} {G : Gt} {W : WX} {X : Cx}
variable {a b c e o : Expr} {es : List Expr} {ta te to tv : TE} {fa fe fo fv : Loc → M D} {pos pos' apos : Pos} {tA : TA} {fA : Loc → M (List D)} {f m : Str}
def kMkV (c : Nat) (m : List D → M D) (dd : List D) (fn : Loc → M D) (fA : Loc → M (List D)) : Loc → M D := fun ρ => mbind (fn ρ) fun d => match d with
  | .cls k => if (k == c) = true then mbind (fA ρ) fun ds => mkD c m (ds ++ dd) else mbad
  | _ => mbad
variable {P : Program} {w : World} {mg : Str → Option Value} {base : Heap}
def spX1 (C : Addr) (f : Str) : Sp := fun vs H Q _ => ∃ a v, vs = [.ref a, v] ∧ H a = some (exo a C none) ∧ ∀ dx, H dx = none → dx ≠ a → Q .non (upd (upd H dx (exd dx [(f, v)])) a (exo a C (some dx)))
theorem ok_x1 {qual : Str} {st : Stmt} {g C : Addr} {fd : FuncData} {pn : Str} {p1 p2 p3 pos : Pos} (F : Fun K "__init__" qual st g fd) (S : FnScope ["self", pn] ["self", pn] (defScope st)) (hb : defBody st = [.Assign [.Attribute (.Name "self" p1) f p2] (.Name pn p3) pos])
    (T : OexC K C) (hf : PySem.W.findIn K (.ref C) f = some none) (hd : (pn == ("__debug__" : Str)) = false := by decide) (hcd : (pn == ("__classdict__" : Str)) = false := by decide) : FnOk P w K mg base (L2.CX P w) 1 g fd ["self", pn] (spX1 C f) := by
  refine F.okX S (fun vs H Q E h => by obtain ⟨a, v, rfl, _⟩ := h; rfl) fun cdv A outer s H vs Q E hr h => ?_
  obtain ⟨a, v, rfl, ha, q⟩ := h
  have vis : ∀ y : Str, y ∈ ([("self" : Str), pn] : List Str) → Vis (defScope st) y := fun y hy => (S.par y hy).elim (fun z => .inl z) (fun z => .inr (.inl z))
  refine ⟨_, by rw [hb]; exact pss_one (ps_ost (pe_var (i := 0) rfl (vis "self" (by simp))) (pe_var (i := 1) rfl (vis pn (by simp)) hd hcd)), ?_⟩
  exact ⟨v, rfl, .ref a, rfl, a, C, rfl, T, hf, .inl ⟨ha, q⟩⟩
def spX2 (C : Addr) (f f' : Str) : Sp := fun vs H Q _ => ∃ a v u, vs = [.ref a, v, u] ∧ H a = some (exo a C none) ∧ ∀ dx, H dx = none → dx ≠ a → Q .non (upd (upd (upd H dx (exd dx [(f, v)])) a (exo a C (some dx))) dx (exd dx [(f', u), (f, v)]))
theorem ok_x2 {qual : Str} {st : Stmt} {g C : Addr} {fd : FuncData} {f' pn pn' : Str} {p1 p2 p3 p1' p2' p3' pos pos' : Pos} (F : Fun K "__init__" qual st g fd) (S : FnScope ["self", pn, pn'] ["self", pn, pn'] (defScope st))
    (hb : defBody st = [.Assign [.Attribute (.Name "self" p1) f p2] (.Name pn p3) pos, .Assign [.Attribute (.Name "self" p1') f' p2'] (.Name pn' p3') pos'])
    (T : OexC K C) (hf : PySem.W.findIn K (.ref C) f = some none) (hf' : PySem.W.findIn K (.ref C) f' = some none) (hd : (pn == ("__debug__" : Str)) = false := by decide) (hcd : (pn == ("__classdict__" : Str)) = false := by decide) (hd' : (pn' == ("__debug__" : Str)) = false := by decide) (hcd' : (pn' == ("__classdict__" : Str)) = false := by decide) :
    FnOk P w K mg base (L2.CX P w) 1 g fd ["self", pn, pn'] (spX2 C f f') := by
  refine F.okX S (fun vs H Q E h => by obtain ⟨a, v, u, rfl, _⟩ := h; rfl) fun cdv A outer s H vs Q E hr h => ?_
  obtain ⟨a, v, u, rfl, ha, q⟩ := h
  have vis : ∀ y : Str, y ∈ ([("self" : Str), pn, pn'] : List Str) → Vis (defScope st) y := fun y hy => (S.par y hy).elim (fun z => .inl z) (fun z => .inr (.inl z))
  refine ⟨_, by rw [hb]; exact pss_cons (ps_ost (pe_var (i := 0) rfl (vis "self" (by simp))) (pe_var (i := 1) rfl (vis pn (by simp)) hd hcd)) (pss_one (ps_ost (pe_var (i := 0) rfl (vis "self" (by simp))) (pe_var (i := 2) rfl (vis pn' (by simp)) hd' hcd'))), ?_⟩
  refine ⟨v, rfl, .ref a, rfl, a, C, rfl, T, hf, .inl ⟨ha, fun dx hdx hne => ?_⟩⟩
  exact ⟨u, rfl, .ref a, rfl, a, C, rfl, T, hf', .inr ⟨dx, [(f, v)], upd_same, by rw [upd_ne hne, upd_same], by simp, q dx hdx hne⟩⟩
structure ErrN (K : PySem.W.Frag) (mg : Str → Option Value) (x : Str) (C fI : Addr) (st : Stmt) (qual : Str) (fd : FuncData) (ps : List Str) : Prop where
  ox : OexC K C
  fi : PySem.W.findIn K (.ref C) "__init__" = some (some (.ref fI))
  ti : PySem.W.typeIn K (.ref fI) = some (.type "function")
  fn : Fun K "__init__" qual st fI fd
  bd : L2.Binds K fd ps []
  m : mg x = some (.ref C)
def zRaiseN (c : Nat) (ns : List Str) (fA : Loc → M (List D)) : MS := fun ρ s => sof (fA ρ s) ρ fun ds s' => if decide (ds.length = ns.length) = true then .exc c ns ds ρ s' else .bad
theorem exc_heap {H1 : Hp} {a d : Addr} {o1 o2 o3 : HO} (ha : H1 a = none) (hd : upd H1 a o1 d = none) (hne : d ≠ a) {H2 : Hp} (h2 : ∀ b, b ≠ a → b ≠ d → H2 b = H1 b) : (∀ b o, H1 b = some o → upd (del H2 a) d o3 b = some o) ∧ H1 d = none := by
  have hd1 : H1 d = none := by rw [upd_ne hne] at hd; exact hd
  refine ⟨fun b o e => ?_, hd1⟩
  have n1 : b ≠ a := ne_of_none e ha
  have n2 : b ≠ d := ne_of_none e hd1
  rw [upd_ne n2, del_ne n1, h2 b n1 n2]
  exact e
theorem z_raise1 {cn : Nat} {x : Str} {fI : Addr} {stI : Stmt} {qual : Str} {fd : FuncData} {pn : Str} {p0 : Pos} (hc : X.calm = true) (tk : Takes X W) (E : ErrN X.K X.mg x (G.cls cn) fI stI qual fd ["self", pn])
    (F : FnOk X.prog X.w X.K X.mg X.base (L2.CX X.prog X.w) 1 fI fd ["self", pn] (spX1 (G.cls cn) f)) (hr : Room 2 X.A) (ha : DA G X W [e] tA fA) (hl : LenA fA 1) (hg : Gl X x := by rfl) (hdb : (x == ("__debug__" : Str)) = false := by decide) (he : starEach [e] X.env = [(false, eval e X.env)] := by rfl) (hpl : (backTo pos' (starEach [] X.env)).any (·.1) = false := by rfl) :
    DS G X W (.Raise (some (.Call (.Name x p0) [e] [] pos')) none pos) (fun _ σ H => tMkO (G.cls cn) (spX1 (G.cls cn) f) [] tA σ H (fun cls d H' => W cls d σ H')) (zRaiseN cn [f] fA) := by
  refine ⟨ps_raise hc tk (pmk_oex E.ox E.fi E.ti F hr E.bd .nil passL hg E.m ha.pa hdb he hpl), fun p σ H ρ s Z e pk fin => ?_⟩
  refine ha.run p σ H ρ s _ e pk (FinS.step fin (fun H1 s1 k1 pk1 => e.keep pk.at k1) fun ds s1 vs H1 k1 pk1 rs fin1 => ?_)
  by_cases hdn : ¬ ds.length = [f].length
  · rw [if_neg (by simpa using hdn)] at fin1
    exact False.elim fin1
  have hds0 : ds.length = [f].length := Decidable.not_not.mp hdn
  rw [if_pos (decide_eq_true hds0)] at fin1
  have hds : ds.length = 1 := hds0
  match ds, hds, rs, fin1 with
  | [d0], _, rs, fin1 =>
    obtain ⟨v, _, rfl, rv, hz⟩ := rs
    obtain rfl := hz
    refine ⟨by simp, fun a hna => ⟨a, v, rfl, upd_same, fun dx hdx hne => ?_⟩⟩
    obtain ⟨hk, hd1⟩ := exc_heap (H1 := H1) (a := a) (d := dx) (o1 := exo a (G.cls cn) none) (o2 := exo a (G.cls cn) none) (o3 := .xd [(f, v)]) hna hdx hne (H2 := upd (upd (upd H1 a (exo a (G.cls cn) none)) dx (exd dx [(f, v)])) a (exo a (G.cls cn) (some dx))) (fun b n1 n2 => by rw [upd_ne n1, upd_ne n2, upd_ne n1])
    refine ⟨rfl, dx, [(f, v)], upd_same, by rw [upd_ne hne, upd_same], hd1, ?_⟩
    have kp : Keep p H1 (upd (del (upd (upd (upd H1 a (exo a (G.cls cn) none)) dx (exd dx [(f, v)])) a (exo a (G.cls cn) (some dx))) a) dx (.xd [(f, v)])) := fun b o _ h => hk b o h
    refine fin1 (some dx) σ _ kp (pk1.mono hk) ((e.keep pk.at k1).keep pk1.at kp) ⟨[v], ⟨v, [], rfl, rep_keep pk1.at kp _ _ rv, rfl⟩, .inr ⟨dx, _, by simp, rfl, pk1.free hd1, upd_same, fun i f' v' h1 h2 => ?_⟩⟩
    match i, h1, h2 with
    | 0, h1, h2 =>
      cases h1; cases h2
      simp [List.lookup]
theorem z_raise2 {cn : Nat} {x : Str} {fI : Addr} {stI : Stmt} {qual : Str} {fd : FuncData} {f' pn pn' : Str} {p0 : Pos} {e2 : Expr} (hc : X.calm = true) (tk : Takes X W) (E : ErrN X.K X.mg x (G.cls cn) fI stI qual fd ["self", pn, pn'])
    (F : FnOk X.prog X.w X.K X.mg X.base (L2.CX X.prog X.w) 1 fI fd ["self", pn, pn'] (spX2 (G.cls cn) f f')) (hr : Room 2 X.A) (ha : DA G X W [e, e2] tA fA) (hl : LenA fA 2) (hg : Gl X x := by rfl) (hdb : (x == ("__debug__" : Str)) = false := by decide) (hff : f ≠ f') (he : starEach [e, e2] X.env = (false, eval e X.env) :: starEach [e2] X.env := by rfl) (hpl : (backTo pos' (starEach [e2] X.env)).any (·.1) = false := by rfl) :
    DS G X W (.Raise (some (.Call (.Name x p0) [e, e2] [] pos')) none pos) (fun _ σ H => tMkO (G.cls cn) (spX2 (G.cls cn) f f') [] tA σ H (fun cls d H' => W cls d σ H')) (zRaiseN cn [f, f'] fA) := by
  refine ⟨ps_raise hc tk (pmk_oex E.ox E.fi E.ti F hr E.bd .nil passL hg E.m ha.pa hdb he hpl), fun p σ H ρ s Z e pk fin => ?_⟩
  refine ha.run p σ H ρ s _ e pk (FinS.step fin (fun H1 s1 k1 pk1 => e.keep pk.at k1) fun ds s1 vs H1 k1 pk1 rs fin1 => ?_)
  by_cases hdn : ¬ ds.length = [f, f'].length
  · rw [if_neg (by simpa using hdn)] at fin1
    exact False.elim fin1
  have hds0 : ds.length = [f, f'].length := Decidable.not_not.mp hdn
  rw [if_pos (decide_eq_true hds0)] at fin1
  have hds : ds.length = 2 := hds0
  match ds, hds, rs, fin1 with
  | [d0, d1], _, rs, fin1 =>
    obtain ⟨v, _, rfl, rv, u, _, rfl, ru, hz⟩ := rs
    obtain rfl := hz
    refine ⟨by simp, fun a hna => ⟨a, v, u, rfl, upd_same, fun dx hdx hne => ?_⟩⟩
    obtain ⟨hk, hd1⟩ := exc_heap (H1 := H1) (a := a) (d := dx) (o1 := exo a (G.cls cn) none) (o2 := exo a (G.cls cn) none) (o3 := .xd [(f', u), (f, v)]) hna hdx hne (H2 := upd (upd (upd (upd H1 a (exo a (G.cls cn) none)) dx (exd dx [(f, v)])) a (exo a (G.cls cn) (some dx))) dx (exd dx [(f', u), (f, v)])) (fun b n1 n2 => by rw [upd_ne n2, upd_ne n1, upd_ne n2, upd_ne n1])
    refine ⟨rfl, dx, [(f', u), (f, v)], by rw [upd_ne (Ne.symm hne), upd_same], upd_same, hd1, ?_⟩
    have kp : Keep p H1 (upd (del (upd (upd (upd (upd H1 a (exo a (G.cls cn) none)) dx (exd dx [(f, v)])) a (exo a (G.cls cn) (some dx))) dx (exd dx [(f', u), (f, v)])) a) dx (.xd [(f', u), (f, v)])) := fun b o _ h => hk b o h
    refine fin1 (some dx) σ _ kp (pk1.mono hk) ((e.keep pk.at k1).keep pk1.at kp) ⟨[v, u], ⟨v, [u], rfl, rep_keep pk1.at kp _ _ rv, u, [], rfl, rep_keep pk1.at kp _ _ ru, rfl⟩, .inr ⟨dx, _, by simp, rfl, pk1.free hd1, upd_same, fun i g' v' h1 h2 => ?_⟩⟩
    match i, h1, h2 with
    | 0, h1, h2 =>
      cases h1; cases h2
      have : (f == f') = false := by simpa using hff
      simp [List.lookup, this]
    | 1, h1, h2 =>
      cases h1; cases h2
      simp [List.lookup]
end
end Tw
namespace Tw
open PySem L2 PySem.Spec PyProof.Rows
section
variable {K : PySem.W.Frag} {G : Gt} {W : WX} {X : Cx}
variable {a b c e o i : Expr} {es : List Expr} {ta te to tv ti : TE} {fa fe fo fv fi : Loc → M D} {pos pos' apos : Pos} {tA : TA} {fA : Loc → M (List D)} {f m : Str}
theorem FinS.calm {α β : Type} {R : Fm → Hp → α → β → Prop} {p q : Fm} {σ : L2.St} {H Hq : Hp} {ρ : Loc} {Z : Ends} {mm : M α} {s : Pen} {k : α → Pen → OutS} {Q : β → Hp → Prop} (fin : FinS G W p H Z (sof (nox mm s) ρ k))
    (hb : ∀ a s1 b H1, Keep q Hq H1 → PenOk G q H1 s1 → R q H1 a b → FinS G W p H Z (k a s1) → Q b H1) : FinG G W R q σ Hq Q (mm s) := by
  unfold nox at fin
  cases h : mm s with
  | ok a s1 => rw [h] at fin; exact fun b H1 k1 pk1 r => hb a s1 b H1 k1 pk1 r fin
  | exc c ns xs s1 => rw [h] at fin; exact False.elim fin
  | bad => rw [h] at fin; exact False.elim fin
end
end Tw
namespace Tw
open PySem L2 PySem.Spec PyProof.Rows
section
variable {K : PySem.W.Frag} {G : Gt} {W : WX} {X : Cx}
variable {P : Program} {w : World} {mg : Str → Option Value} {base : Heap}
theorem ok_fd {x qual : Str} {st : Stmt} {f : Addr} {fd : FuncData} {N ps : List Str} {k n : Nat} {b : MS} {dvs : List V} (F : FunD K x qual (defArgs st) (defBody st) (defScope st) dvs [] f fd) (S : FnScope N ps (defScope st)) (hn : ps.length = n)
    (hb : ∀ (cdv : Value) (A : Around) (outer : List Env) (s : Shared) (H : Hp) (E : XK), Room k (A.deeper (envOfC qual (defScope st) s.heap.objs.size f cdv)) →
      ∃ t, DSs G (cxOf (L2.CX P w) P w K mg base N qual (defScope st) f cdv A outer s H E) (fun c d _ H' => E c d H') (defBody st) t b) :
    FnOk P w K mg base (L2.CX P w) (k + 1) f fd ps (spM G n (mdef N.length b)) := by
  refine F.ok S (fun vs H Q E h => by rw [h.1, hn]) fun cdv A outer s H vs Q E hr h => ?_
  obtain ⟨t, dt⟩ := hb cdv A outer s H E hr
  refine ⟨t, dt.ps, ?_⟩
  obtain ⟨_, p, ds, s1, rs, pk, fin⟩ := h
  refine dt.run p _ H (startL N.length ds) s1 _ (env_start rs) pk ?_
  unfold mdef at fin
  cases q : b (startL N.length ds) s1 with
  | nx ρ s' => rw [q] at fin; exact fun σ' H' k pk' _ => fin _ H' k pk' rfl
  | ret d s' => rw [q] at fin; exact fun v H' k pk' rd => fin v H' k pk' rd
  | exc c ns xs ρ s' => rw [q] at fin; exact fun dd σ' H' k pk' _ x => fin dd H' k pk' x
  | bk ρ s' => rw [q] at fin; exact False.elim fin
  | ct ρ s' => rw [q] at fin; exact False.elim fin
  | bad => rw [q] at fin; exact False.elim fin
theorem fund_mk {x qual : Str} {st : Stmt} {f : Addr} {oc : Value} {od an : Option Addr} {osl : Array (Option Value)} {kV doc pm cdv ct : Value} (l : K.lookup f = some ⟨oc, od, .func (PySem.W.fnOf x qual (defArgs st) (defBody st) (defScope st) .none kV doc pm an cdv ct), osl⟩)
    (c : PySem.W.codeIn K cdv qual = true) (k : PySem.W.keepIn K (.ref f) = true) : FunD K x qual (defArgs st) (defBody st) (defScope st) [] [] f (PySem.W.fnOf x qual (defArgs st) (defBody st) (defScope st) .none kV doc pm an cdv ct) :=
  ⟨⟨oc, od, .none, kV, doc, pm, an, cdv, ct, osl, rfl, l, c, .inl ⟨rfl, rfl⟩, .inl rfl⟩, k⟩
def notBo : D → D → M D := fun x y => match x, y with
  | .bl i, .bl j => mret (.bl (!decide (i = j)))
  | _, _ => mbad
open PySem.Calls in
open PySem.Calls in
section
variable {o e : Expr} {es : List Expr} {to : TE} {fo : Loc → M D} {pos apos : Pos} {tA : TA} {fA : Loc → M (List D)} {m : Str}
variable {CX : CXT} {k : Nat} {C p g : Addr} {mc : Value} {fd : FuncData} {ps : List Str} {sp : Sp} {dvs : List V} {dl : List Value} {E : L2.St → XK} {t : TA} {pl : Sem Bool}
def kCmS (c : Nat) (md : List D → M D) (dd : List D) (fo : Loc → M D) (fA : Loc → M (List D)) : Loc → M D := fun ρ => mbind (fo ρ) fun d => match d with
  | .cls k => if (k == c) = true then mbind (fA ρ) fun ds => md (.cls c :: (ds ++ dd)) else mbad
  | _ => mbad
end
section
variable {a b : Expr} {ta tb : TE} {fa fb : Loc → M D} {pos : Pos}
variable {op : Operator} {C g : Addr} {fd : FuncData} {ps : List Str} {k n : Nat} {sp : Sp} {md : List D → M D} {E : L2.St → XK}
end
section
def isiX (ans : String ⊕ Nat → String ⊕ Nat → Option Bool) (ds : List D) : M D := match ds with
  | [.err c _ _, .ty T] => (match ans (.inr c) (.inl T) with
    | some b => mret (.bl b)
    | none => mbad)
  | [.err c _ _, .cls n] => (match ans (.inr c) (.inr n) with
    | some b => mret (.bl b)
    | none => mbad)
  | _ => mbad
def kXf (f : Str) (fe : Loc → M D) : Loc → M D := fun ρ => mbind (fe ρ) fun d => match d with
  | .err _ ns xs => (match fldOf ns xs f with
    | some x => mret x
    | none => mbad)
  | _ => mbad
theorem fldOf_ix : ∀ {ns : List Str} {xs : List D} {f : Str} {d : D}, fldOf ns xs f = some d → ∃ i : Nat, ns[i]? = some f ∧ xs[i]? = some d
  | [], xs, f, d, h => by simp [fldOf] at h
  | n :: ns, [], f, d, h => by simp [fldOf] at h
  | n :: ns, x :: xs, f, d, h => by
    unfold fldOf at h
    rw [List.zip_cons_cons] at h
    simp only [List.lookup] at h
    split at h
    · rename_i hb
      obtain rfl := beq_iff_eq.mp hb
      exact ⟨0, rfl, h⟩
    · obtain ⟨i, e1, e2⟩ := fldOf_ix (ns := ns) (xs := xs) (show fldOf ns xs f = some d from h)
      exact ⟨i + 1, e1, e2⟩
theorem x_xf {a : Addr} {oe : Obj} {pn : List (Addr × Obj)} {c : Nat} {dd : Option Addr} {e : Expr} {te : TE} {fe : Loc → M D} {pos : Pos} {n : Str} (T : XfC X.K (G.cls c)) (hno : PySem.W.findIn X.K (.ref (G.cls c)) n = some none)
    (hz : Zc (.ref (G.cls c)) dd oe) (hf : ∃ vs, oe.data = .fields vs) (he : DE (G.at a c dd) (X.suite a ((a, oe) :: pn)) W0 e te fe) (hb : attributeBase e n X.env (eval e X.env) = eval e X.env := by rfl) :
    DE (G.at a c dd) (X.suite a ((a, oe) :: pn)) W0 (.Attribute e n pos) (tXf a (.ref (G.cls c)) dd (G.cls c) n te) (kXf n fe) := by
  refine ⟨pe_xf T hno hz hf he.pe hb, fun p σ H ρ s Q en pk fin => ?_⟩
  refine he.run p σ H ρ s _ en pk (FinG.step (RA := RelE (G.at a c dd)) fin fun d s1 v H1 k1 pk1 rd fin1 => ?_)
  cases d <;> try (exact False.elim fin1)
  rename_i c2 ns xs
  dsimp only at fin1
  cases q : fldOf ns xs n with
  | none => rw [q] at fin1; exact False.elim fin1
  | some x =>
    rw [q] at fin1
    obtain ⟨i, h1, h2⟩ := fldOf_ix q
    obtain ⟨a2, d2, us, rfl, q0, rs, q1⟩ := id rd
    have q0' : (a, c, dd) = (a2, c2, d2) := Option.some.inj q0
    obtain ⟨rfl, q2⟩ := Prod.mk.inj q0'
    obtain ⟨rfl, rfl⟩ := Prod.mk.inj q2
    rcases q1 with ⟨e0, _⟩ | ⟨b', gs, _, e0, _, hb', hg⟩
    · subst e0; cases i <;> cases h1
    · obtain ⟨w, hw, rw'⟩ := repL_get rs h2
      exact ⟨rfl, rfl, b', gs, w, e0, hb', hg i n w h1 hw, fin1 _ H1 Keep.refl pk1 rw'⟩
end
end
end Tw
namespace Tw
open PySem L2 PySem.Spec PyProof.Rows
section
variable {K : PySem.W.Frag} {G : Gt} {W : WX} {X : Cx}
variable {a b c e : Expr} {es : List Expr} {ta te : TE} {fa fe : Loc → M D} {pos : Pos} {tA : TA} {fA : Loc → M (List D)}
def kMk (c : Nat) (m : List D → M D) (dd : List D) (fA : Loc → M (List D)) : Loc → M D := fun ρ => mbind (fA ρ) fun ds => mkD c m (ds ++ dd)
def spar3 (i j l : Nat) (fA : Loc → M (List D)) : MS := fun ρ s => sof (fA ρ s) ρ fun ds s' => match ds with
  | [x, y, z] => .nx (((ρ.set i (some x)).set j (some y)).set l (some z)) s'
  | _ => .bad
def listD (ds : List D) : M D := match ds with
  | [.lst xs] => mret (.lst xs)
  | [.tup xs] => mret (.lst xs)
  | _ => mbad
def tupleD (ds : List D) : M D := match ds with
  | [.lst xs] => mret (.tup xs)
  | [.tup xs] => mret (.tup xs)
  | _ => mbad
def isiA (ans : String ⊕ Nat → String ⊕ Nat → Option Bool) (ds : List D) : M D := match ds with
  | [.ins _ _ _, _] => isiO ans ds
  | [_, .cls _] => isiO ans ds
  | _ => isiB ds
theorem kit_self {C : Addr} : PySem.W.kitOne K (.ref C) (.ref C) = some true := by
  unfold PySem.W.kitOne
  rw [if_pos (beq_self_eq_true _)]
theorem kit_own {C : Addr} {t : Value} {b : Bool} (h1 : PySem.W.hasDictIn K C = true) (h2 : PySem.W.typeIn K (.ref C) = some (.type "type")) (h3 : PySem.W.subIn K t (.ref C) = some b) (hn : t ≠ .ref C) : PySem.W.kitOne K t (.ref C) = some b := by
  unfold PySem.W.kitOne
  rw [if_neg (fun z => hn (beq_iff_eq.mp z))]
  have hc : (PySem.W.clsIn K C).isSome = true := by
    obtain ⟨cd, hc, _⟩ := PySem.W.any_some h1
    rw [hc]; rfl
  show (if ((PySem.W.clsIn K C).isSome && PySem.W.typeIn K (.ref C) == some (.type "type")) = true then PySem.W.subIn K t (.ref C) else none) = some b
  rw [if_pos (by rw [hc, h2]; rfl)]
  exact h3
theorem kit_bt {C : Addr} {T : String} {b : Bool} (h1 : PySem.W.kitMeta T = true) (h3 : PySem.W.subIn K (.ref C) (.type T) = some b) : PySem.W.kitOne K (.ref C) (.type T) = some b := by
  unfold PySem.W.kitOne
  rw [if_neg (fun z => by have := beq_iff_eq.mp z; cases this)]
  show (if PySem.W.kitMeta T = true then PySem.W.subIn K (.ref C) (.type T) else none) = some b
  rw [if_pos h1]
  exact h3
end
end Tw
namespace Tw
open PySem L2
theorem Sm.add2 {i j : Int} {n m : Nat} (hi : Sm n i) (hj : Sm m j) : Sm (n + m + 1) (i + j) := by
  unfold Sm at *
  have h1 : 2 ^ n ≤ 2 ^ (n + m) := Nat.pow_le_pow_right (by decide) (by omega)
  have h2 : 2 ^ m ≤ 2 ^ (n + m) := Nat.pow_le_pow_right (by decide) (by omega)
  rw [Nat.pow_succ]
  omega
theorem Sm.neg {i : Int} {n : Nat} (hi : Sm n i) : Sm n (-i) := by
  unfold Sm at *
  rw [Int.natAbs_neg]; exact hi
theorem Sm.sub2 {i j : Int} {n m : Nat} (hi : Sm n i) (hj : Sm m j) : Sm (n + m + 1) (i - j) := by
  rw [Int.sub_eq_add_neg]; exact hi.add2 hj.neg
theorem Sm.lit200 {i : Int} (h : decide (i.natAbs < 2 ^ 200) = true) : Sm 200 i := of_decide_eq_true h
theorem mulOk_any {i j : Int} {n m : Nat} (hi : Sm n i) (hj : Sm m j) (h : n + m < 1000000) : mulOk i j = true := by
  unfold Sm at *
  have l : ∀ {x : Int} {k : Nat}, x.natAbs < 2 ^ k → x.natAbs.log2 ≤ k := by
    intro x k hx
    by_cases h0 : x.natAbs = 0
    · rw [h0, Nat.log2_zero]; exact Nat.zero_le _
    · exact Nat.le_of_lt ((Nat.log2_lt h0).mpr hx)
  have a := l hi
  have b := l hj
  unfold mulOk
  rw [decide_eq_true (show i.natAbs.log2 + j.natAbs.log2 < 1000000 by omega)]
  simp
theorem eqA_int (i j : Int) : eqA (.int i) (.int j) = mret (.bl (decide (i = j))) := rfl
theorem isI_ins (n : Nat) (m : Str) (ns : List Str) (xs : List D) (h : ns.contains m = false) : isI n m (.ins n ns xs) = mret () := by
  unfold isI
  simp only [beq_self_eq_true, Bool.true_and, h, Bool.not_false, if_true]
theorem sseq_nx' {m m' : MS} {ρ ρ' : Loc} {s s' : Pen} {o : OutS} (h : m ρ s = .nx ρ' s') (h2 : m' ρ' s' = o) : sseq m m' ρ s = o := by rw [sseq_nx h]; exact h2
theorem p6 : powI (.int 10) (.int 6) = mret (.int 1000000) := rfl
section
variable {ans : String ⊕ Nat → String ⊕ Nat → Option Bool}
theorem isiA_int (i : Int) (T : String) : isiA ans [.int i, .ty T] = isiB [.int i, .ty T] := rfl
theorem isiA_bl (i : Bool) (T : String) : isiA ans [.bl i, .ty T] = isiB [.bl i, .ty T] := rfl
theorem isiA_non (T : String) : isiA ans [.non, .ty T] = isiB [.non, .ty T] := rfl
theorem isiA_str (x : Str) (T : String) : isiA ans [.str x, .ty T] = isiB [.str x, .ty T] := rfl
theorem isiA_tup (xs : List D) (T : String) : isiA ans [.tup xs, .ty T] = isiB [.tup xs, .ty T] := rfl
theorem isiA_lst (xs : List D) (T : String) : isiA ans [.lst xs, .ty T] = isiB [.lst xs, .ty T] := rfl
end
end Tw
namespace Tw
open PySem L2
theorem at0 (x : D) (xs : List D) : atI (x :: xs) 0 = some x := atI_nat (j := 0) (show (x :: xs)[0]? = some x by simp)
theorem at1 (x y : D) (xs : List D) : atI (x :: y :: xs) 1 = some y := atI_nat (j := 1) (show (x :: y :: xs)[1]? = some y by simp)
theorem at2 (x y z : D) (xs : List D) : atI (x :: y :: z :: xs) 2 = some z := atI_nat (j := 2) (show (x :: y :: z :: xs)[2]? = some z by simp)
end Tw
namespace Tw
open PySem L2 PySem.Spec PyProof.Rows
section
variable {K : PySem.W.Frag} {G : Gt} {W : WX} {X : Cx}
variable {a b c e : Expr} {es : List Expr} {ta te to tv ti : TE} {fa fe fo fv fi : Loc → M D} {pos : Pos} {tA : TA} {fA : Loc → M (List D)}
def RunF (G : Gt) (W : WX) (te : TE) (f : Loc → M (List D)) : Prop :=
  ∀ (p : Fm) (σ : L2.St) (H : Hp) (ρ : Loc) (s : Pen) (Q : VK), EnvOk G p H σ ρ → PenOk G p H s →
    (match f ρ s with
      | .ok ds s' => ∀ H2 vs a, H a = none → Keep p H H2 → PenOk G (p.add a) H2 s' → RepL G (p.add a) H2 ds vs → H2 a = some (.lst vs) → Q (.ref a) H2
      | .exc c ns xs s' => ∀ dd H', Keep p H H' → PenOk G p H' s' → ExcOk G p H' ns xs dd → W (.ref (G.cls c)) dd σ H'
      | .bad => False) → te σ H Q
theorem keep_free {p : Fm} {H H1 : Hp} {a : Addr} (h : H1 a = none) (k : Keep p H H1) (pk : ∀ b, p.out b → ∃ o, H1 b = some o) : H a = none := by
  cases q : H a with
  | none => rfl
  | some o =>
    by_cases hm : p.mut a
    · obtain ⟨o', e⟩ := pk a (Classical.byContradiction fun z => (Fm.no z) hm)
      rw [h] at e; cases e
    · have := k a o hm q
      rw [h] at this; cases this
end
end Tw
namespace Tw
open PySem L2 PySem.Spec PyProof.Rows
section
open PySem.W
variable {prog : Program} {w : World} {A : Around} {E : Value → Shared → Prop} {s : Shared} {K : Frag} {x C f : Addr} {ox : Obj} {od : Option Obj} {b tb : Value}
end
section
variable {K : PySem.W.Frag} {G : Gt} {W : WX} {X : Cx}
structure One (K : PySem.W.Frag) (C : Addr) : Prop where
  ne : PySem.W.findIn K (.ref C) "__ne__" = some (some (.builtin "object.__ne__"))
  so : PySem.W.subIn K (.ref C) (.type "object") = some true
variable {C g : Addr} {fd : FuncData} {ps : List Str} {k n : Nat} {sp : Sp} {md : List D → M D}
structure DB (G : Gt) (X : Cx) (W : WX) (sts : List Stmt) (t : TS) (m : MS) : Prop where
  app : ∀ rest tr, PSs X rest tr → PSs X (sts ++ rest) (tSeq t tr)
  run : RunS G W t m
variable {st : Stmt} {sts rest : List Stmt} {t u tr : TS} {m m' mr : MS}
section
variable {o e i value : Expr} {to te ti tv : TE} {fo fe fi fv : Loc → M D} {pos pos' apos cpos : Pos}
end
end
end Tw
namespace Tw
open PySem L2 PySem.Spec PyProof.Rows
section
variable {K : PySem.W.Frag} {G : Gt} {W : WX} {X : Cx}
variable {a b c e : Expr} {es : List Expr} {ta tb te to tv ti : TE} {fa fb fe fo fv fi : Loc → M D} {pos : Pos} {tA : TA} {fA : Loc → M (List D)}
structure DTs (G : Gt) (X : Cx) (W : WX) (ifs : List Expr) (t : TT) (m : Loc → M Bool) : Prop where
  pts : PTs X ifs t
  run : RunG G W RelB t m
structure DO (G : Gt) (X : Cx) (W : WX) (e : Option Expr) (t : TO) (m : Loc → M (Option Int)) : Prop where
  po : PO X e t
  run : RunG G W (fun _ _ x y => x = y) t m
def kPart (fe : Loc → M D) : Loc → M (Option Int) := fun ρ => mbind (fe ρ) fun d => match d with
  | .int i => mret (some i)
  | _ => mbad
def kNo : Loc → M (Option Int) := fun _ => mret none
def cutD (xs : List D) (lo hi : Option Int) : List D := (xs.drop (HT.sIx xs.length 0 lo)).take (HT.sIx xs.length xs.length hi - HT.sIx xs.length 0 lo)
def kSl (fe : Loc → M D) (fl fh : Loc → M (Option Int)) : Loc → M D := fun ρ => mbind (fe ρ) fun x => mbind (fl ρ) fun l => mbind (fh ρ) fun h => match x with
  | .lst xs => mret (.lst (cutD xs l h))
  | .tup xs => mret (.tup (cutD xs l h))
  | _ => mbad
def max2D (ds : List D) : M D := match ds with
  | [.int i, .int j] => mret (.int (if j > i then j else i))
  | _ => mbad
end
end Tw
namespace Tw
open PySem L2 PySem.Spec PyProof.Rows
section
variable {prog : Program} {w : World} {A : Around} {X : Cx} {pins : List (Addr × Obj)} {σ : L2.St} {H : Hp} {s : Shared} {K : PySem.W.Frag}
end
section
variable {prog : Program} {w : World} {A : Around} {E : Value → Shared → Prop} {s : Shared} {X : Cx}
end
section
variable {K : PySem.W.Frag} {G : Gt} {W : WX} {X : Cx} {p : Fm} {H1 : Hp} {tA : TA} {fA : Loc → M (List D)}
def seqD : D → Option (List D)
  | .lst xs => some xs
  | .tup xs => some xs
  | _ => none
def pairUp (xs ys : List D) : List D := List.zipWith (fun x y => .tup [x, y]) xs ys
def numUp (n : Nat) : List D → List D
  | [] => []
  | x :: xs => .tup [.int (n : Nat), x] :: numUp (n + 1) xs
def zipD (ds : List D) : M (List D) := match ds with
  | [x, y] => (match seqD x with
    | some xs => (match seqD y with
      | some ys => mret (pairUp xs ys)
      | none => mbad)
    | none => mbad)
  | _ => mbad
def enumD (ds : List D) : M (List D) := match ds with
  | [x] => (match seqD x with
    | some xs => mret (numUp 0 xs)
    | none => mbad)
  | _ => mbad
def iZ (fA : Loc → M (List D)) : Loc → M (List D) := fun ρ => mbind (fA ρ) zipD
def iN (fA : Loc → M (List D)) : Loc → M (List D) := fun ρ => mbind (fA ρ) enumD
end
end Tw
namespace Tw
open PySem L2 PySem.Spec PyProof.Rows
structure FnG (P : Program) (w : World) (K : PySem.W.Frag) (mg : Str → Option Value) (base : Heap) (CX : CXT) (k : Nat) (f : Addr) (fd : FuncData) (ps : List Str) (sp : Sp) : Prop where
  len : ∀ vs H Q E, sp vs H Q E → vs.length = ps.length
  run : ∀ (A : Around), A.guards = some [] → ∀ (outer : List Env) (s : Shared) (H : Hp) (args : Args) (us : List Value) (vs : List V) (Q : VK) (E : XK),
    Room k A → Env0 P w K mg base A outer s H → BindsTo s fd args (ps.zip us) → Vals vs us → sp vs H Q E → codeAny (model P w) A (.call (.ref f) args) (CR CX outer P w H s Q E) s
section
variable {P : Program} {w : World} {K : PySem.W.Frag} {mg : Str → Option Value} {base : Heap} {CX : CXT} {f : Addr} {fd : FuncData} {ps : List Str} {sp : Sp} {k : Nat}
theorem FnG.of (F : FnOk P w K mg base CX k f fd ps sp) : FnG P w K mg base CX k f fd ps sp := ⟨F.len, fun A _ => F.run A⟩
theorem FnG.mono {j : Nat} (F : FnG P w K mg base CX j f fd ps sp) (h : j ≤ k) : FnG P w K mg base CX k f fd ps sp := ⟨F.len, fun A hg outer s H args us vs Q E hr => F.run A hg outer s H args us vs Q E (hr.mono h)⟩
theorem fng_of {x qual : Str} {params : Arguments} {body : List Stmt} {scope : Scope} {dvs : List V} {kws : List (Str × V)} {N : List Str} (F : FunD K x qual params body scope dvs kws f fd) (S : FnScope N ps scope) (len : ∀ vs H Q E, sp vs H Q E → vs.length = ps.length)
    (walk : ∀ (cdv : Value) (A : Around) (outer : List Env) (s : Shared) (H : Hp) (vs : List V) (Q : VK) (E : XK), A.guards = some [] → Room k (A.deeper (envOfC qual scope s.heap.objs.size f cdv)) → sp vs H Q E →
      ∃ t, PSs (cxOf CX P w K mg base N qual scope f cdv A outer s H E) body t ∧ t { nx := fun _ H' => Q .non H', rt := Q } (L2.start N vs) H) : FnG P w K mg base CX (k + 1) f fd ps sp := by
  obtain ⟨oc, od, dV, kV, doc, pm, an, cdv, ct, osl, rfl, lk, hcd, _, _⟩ := F.ex
  refine ⟨len, fun A hgd outer s H args us vs Q E room e0 bd rv wish => ?_⟩
  have Kin : K.In s.heap := e0.mod.kin.keeps fun b o z => (e0.bs b o z).1
  have local' : ∀ y ∈ ps.zip us, scope.names.lookup y.1 = some .local ∨ (scope.names.lookup y.1 = some .cell ∧ ((cellsFrom (s.heap.objs.size + 1) scope.names []).lookup y.1).isSome = true) := by
    rintro ⟨n, v⟩ hy
    exact (S.par n (List.of_mem_zip hy).1).imp id fun q => ⟨q, PySem.W.cellsFrom_some _ _ _ (.inl q)⟩
  refine codeAny_call_function room.depth (Kin _ _ lk) rfl S.co S.gen rfl (PySem.W.codeRec_of Kin hcd) (bd _ _ _ _ ?_)
  refine wpAny_newFunctionEnv_cells S.kind local' fun env he s1 x => ?_
  subst he
  refine ⟨(e0.mod.nolimit.keeps fun b o z => (e0.bs b o z).1).keeps x.toInCall.keep, codeAny_func ?_⟩
  obtain ⟨t, ht, hq⟩ := walk cdv A outer s H vs Q E hgd (room.deeper _) wish
  refine wpAny_mono (ht.run [] s1 (L2.start N vs) H _ (inv_start S room.hd e0 (len _ _ _ _ wish) rv x) hq) (fun fl s' hs => ?_) fun e s' hs => hs
  cases fl with
  | ret u => obtain ⟨v, σ', H', J, rv', q⟩ := hs; exact ⟨v, H', J.os, J.bare, J.base, J.hok, rv', q⟩
  | next => obtain ⟨σ', H', J, q⟩ := hs; exact ⟨V.non, H', J.os, J.bare, J.base, J.hok, rfl, q⟩
  | brk => obtain ⟨_, _, _, q⟩ := hs; exact False.elim q
  | cont => obtain ⟨_, _, _, q⟩ := hs; exact False.elim q
end
section
variable {P : Program} {w : World} {K : PySem.W.Frag} {G : Gt} {mg : Str → Option Value} {base : Heap}
theorem ok_fdG {x qual : Str} {st : Stmt} {f : Addr} {fd : FuncData} {N ps : List Str} {k n : Nat} {b : MS} {dvs : List V} (F : FunD K x qual (defArgs st) (defBody st) (defScope st) dvs [] f fd) (S : FnScope N ps (defScope st)) (hn : ps.length = n)
    (hb : ∀ (cdv : Value) (A : Around) (outer : List Env) (s : Shared) (H : Hp) (E : XK), A.guards = some [] → Room k (A.deeper (envOfC qual (defScope st) s.heap.objs.size f cdv)) →
      ∃ t, DSs G (cxOf (L2.CX P w) P w K mg base N qual (defScope st) f cdv A outer s H E) (fun c d _ H' => E c d H') (defBody st) t b) :
    FnG P w K mg base (L2.CX P w) (k + 1) f fd ps (spM G n (mdef N.length b)) := by
  refine fng_of F S (fun vs H Q E h => by rw [h.1, hn]) fun cdv A outer s H vs Q E hgd hr h => ?_
  obtain ⟨t, dt⟩ := hb cdv A outer s H E hgd hr
  obtain ⟨_, p, ds, s1, rs, pk, fin⟩ := h
  refine ⟨t, dt.ps, dt.run p _ H (startL N.length ds) s1 _ (env_start rs) pk ?_⟩
  unfold mdef at fin
  revert fin
  cases b (startL N.length ds) s1 with
  | nx ρ s' => exact fun fin σ' H' k pk' _ => fin _ H' k pk' rfl
  | ret d s' => exact fun fin v H' k pk' rd => fin v H' k pk' rd
  | exc c ns xs ρ s' => exact fun fin dd σ' H' k pk' _ x => fin dd H' k pk' x
  | bk ρ s' => exact False.elim
  | ct ρ s' => exact False.elim
  | bad => exact False.elim
end
section
variable {X : Cx} {CX : CXT} {k : Nat} {f : Addr} {fd : FuncData} {ps : List Str} {sp : Sp} {E : L2.St → XK} {x : Str} {p pos : Pos} {e : Expr} {es : List Expr} {t : TA} {G : Gt} {W : WX} {tA : TA} {fA : Loc → M (List D)}
theorem run_fnG {pins : List (Addr × Obj)} {σ : L2.St} {H : Hp} {s : Shared} {Q : VK} {us : List Value} {vs : List V} (F : FnG X.prog X.w X.K X.mg X.base CX k f fd ps sp) (gd : X.A.guards = some []) (hr : Room k X.A) (hb : L2.Binds X.K fd ps []) (hx : PassesAt CX X σ (E σ))
    (I : Inv X pins σ H s) (r : Vals vs us) (h : sp vs H Q (E σ)) : wpAny (model X.prog X.w) X.A (call (.ref f) us) (EP X pins σ Q) X.xe s := by
  have n : (us ++ []).length = ps.length := by rw [List.append_nil, ← r.length]; exact F.len _ _ _ _ h
  have bd := hb s us I.kIn n
  rw [List.append_nil] at bd
  refine wpAny_call (codeAny_mono (F.run X.A gd X.stack s H ⟨us, []⟩ us vs Q (E σ) hr I.env0 bd r h) fun q s' hq => ?_)
  cases q with
  | error er => exact hx pins H s er s' I hq
  | ok fl => cases fl <;> first | exact I.after hq | exact False.elim hq
theorem x_callGd {n : Nat} {m : List D → M D} (F : FnG X.prog X.w X.K X.mg X.base (L2.CX X.prog X.w) k f fd ps (spM G n m)) (gd : X.A.guards = some []) (hr : Room k X.A) (tk : Takes X W) (hm : X.mg x = some (.ref f)) (hk : PySem.W.keepIn X.K (.ref f) = true) (hb : L2.Binds X.K fd ps [])
    (ha : DA G X W (e :: es) tA fA) (hl : LenA fA n) (hg : Gl X x := by rfl) (hdb : (x == ("__debug__" : Str)) = false := by decide) (he : starEach (e :: es) X.env = (false, eval e X.env) :: starEach es X.env := by rfl) (hpl : (backTo pos (starEach es X.env)).any (·.1) = false := by rfl) :
    DE G X W (.Call (.Name x p) (e :: es) [] pos) (tCallS (spM G n m) (WE W) tA) (kCall m fA) := by
  refine ⟨⟨fun pins s σ H Q I h => ?_⟩, run_call ha.run hl⟩
  refine wpAny_Call_Name_kw (ld_glob I hg hm ?_ hdb)
  exact PySem.W.callWith_K (h₀ := X.base) I.ok.mod.kin hk (thn (ha.pa.run pos pins s σ H _ I h) fun us s1 ⟨vs, H1, I1, r, q⟩ => ⟨I1.kIn, run_fnG F gd hr hb (passAt tk σ) I1 r q⟩) he hpl
end
section
variable {P : Program} {w : World} {K : PySem.W.Frag} {mg mb : Str → Option Value} {CX : CXT} {k : Nat} {fa a : Addr} {fd : FuncData} {x : Str} {sp : Sp} {s1 : Shared} {vs : List Value} {ns : List Int}
theorem law_goG (Kin : K.In s1.heap) (hn1 : s1.heap.Ns mainGlobals mg) (hn2 : s1.heap.Ns builtinsNs mb) (hbb : ∀ x : Str, x ≠ "__name__" → mb x = bootBuiltins x) (lim : s1.heap.NoLimit) (hg : s1.gens = #[])
    (ha : s1.heap.get? a = some { cls := .type "list", data := .seq vs.toArray }) (hr : Room k callerA)
    (F : ∀ base : Heap, K.In base → base.Ns mainGlobals mg → FnG P w K mg base CX k fa fd [x] sp) (bd : ∀ (s : Shared) (u : Value), BindsTo s fd ⟨[u], []⟩ [(x, u)])
    {H : Hp} (hO : Only H) (wish : sp [.ref a] H (fun v _ => v = .bl true) fun _ _ _ => False) (hok : HOk P w H s1.heap) (only : ∀ b u, H b = some u → b = a ∧ K.lookup a = none) (no : ∀ e s', CX [] H s1 (fun _ _ _ => False) e s' → False) :
    codeAny (model P w) callerA (.call (.ref fa) ⟨[.ref a], []⟩) (fun r s' => r = .ok (.ret (.bool true)) ∧ OldK s1.heap s'.heap ∧ s'.os = s1.os ∧ AllBare s'.gens) s1 := by
  have free : ∀ b, b ≠ a → H b = none := fun b ne => by
    cases q : H b with
    | none => rfl
    | some u => exact absurd (only b u q).1 ne
  have hid : ∀ {b : Addr} {m : Str → Option Value}, s1.heap.Ns b m → (hidT s1.heap H).Ns b m := fun {b m} ⟨o, es, ep, z, d, r⟩ => by
    refine ⟨o, es, ep, hidT_get z (free b fun q => ?_), d, r⟩
    rw [q, ha] at z
    cases z
    cases d
  have hidK : K.In (hidT s1.heap H) := fun b o z => by
    refine hidT_get (Kin b o z) ?_
    cases q : H b with
    | none => rfl
    | some u =>
      obtain ⟨e1, e2⟩ := only b u q
      rw [e1, e2] at z
      cases z
  obtain ⟨mc, lim1, lim2⟩ := lim
  have e0 : Env0 P w K mg (hidT s1.heap H) callerA [] s1 H :=
    { frames := rfl, mod := ⟨hidK, hid hn1, ⟨mb, hid hn2, hbb⟩, mc, hid lim1, lim2⟩, bs := fun b o z => of_hidT z, bsz := Nat.le_of_eq (hidT_size _ _), funs := trivial, frf := fun b hb => (List.not_mem_nil hb).elim, hok := hok, bare := .of_eq hg }
  refine codeAny_mono ((F _ hidK (hid hn1)).run callerA rfl [] s1 H ⟨[.ref a], []⟩ [.ref a] [.ref a] _ _ hr e0 (bd s1 (.ref a)) (.cons rfl .nil) wish) fun r s' h => ?_
  rcases r with er | fl
  · exact (no er s' h).elim
  · cases fl <;> first | exact False.elim h | skip
    rename_i u
    obtain ⟨v, H', z1, z2, un, ok2, z3, rfl⟩ := h
    obtain rfl : u = Value.bool true := z3
    refine ⟨rfl, OldK.of_keep fun b o z => ?_, z1, z2⟩
    cases q : H b with
    | none => exact un.keep b o z q (fun m => (List.not_mem_nil m).elim) (List.not_mem_nil)
    | some u =>
      rcases hO b with y | ⟨ob, xs, y⟩
      · rw [q] at y; cases y
      · obtain ⟨f1, _⟩ := hok b _ y
        rw [z] at f1
        cases f1
        exact (ok2 b _ (un.frzs b o _ y)).1
theorem law_callG (Kin : K.In s1.heap) (hn1 : s1.heap.Ns mainGlobals mg) (hn2 : s1.heap.Ns builtinsNs mb) (hbb : ∀ x : Str, x ≠ "__name__" → mb x = bootBuiltins x) (lim : s1.heap.NoLimit) (hg : s1.gens = #[])
    (ha : s1.heap.get? a = some { cls := .type "list", data := .seq vs.toArray }) (hi : IntsAre vs ns) (hl : ns.length ≤ sizeLine) (hr : Room k callerA)
    (F : ∀ base : Heap, K.In base → base.Ns mainGlobals mg → FnG P w K mg base CX k fa fd [x] sp) (bd : ∀ (s : Shared) (u : Value), BindsTo s fd ⟨[u], []⟩ [(x, u)])
    (hsp : ∀ H : Hp, Only H → SqL K H a (ns.map V.int) → sp [.ref a] H (fun v _ => v = .bl true) fun _ _ _ => False) (no : ∀ H e s', CX [] H s1 (fun _ _ _ => False) e s' → False) :
    codeAny (model P w) callerA (.call (.ref fa) ⟨[.ref a], []⟩) (fun r s' => r = .ok (.ret (.bool true)) ∧ OldK s1.heap s'.heap ∧ s'.os = s1.os ∧ AllBare s'.gens) s1 := by
  have rv := vals_ints hi
  cases hk : K.lookup a with
  | some o =>
    have z := Kin a o hk
    rw [ha] at z
    cases z
    have hO : Only fun _ => none := fun _ => .inl rfl
    have hS : SqL K (fun _ => none) a (ns.map V.int) := .inr ⟨_, vs.toArray, _, hk, rfl, rfl, rfl, by rw [List.size_toArray, hi.length]; exact hl, by simpa using rv⟩
    exact law_goG Kin hn1 hn2 hbb lim hg ha hr F bd hO (hsp _ hO hS) (fun b u z => nomatch z) (fun b u z => nomatch z) (no _)
  | none =>
    let H : Hp := fun b => if b = a then some (.frz { cls := .type "list", data := .seq vs.toArray } (.lst (ns.map V.int))) else none
    have at1 : H a = some (.frz { cls := .type "list", data := .seq vs.toArray } (.lst (ns.map V.int))) := if_pos rfl
    have off : ∀ b, b ≠ a → H b = none := fun b z => if_neg z
    have one : ∀ b u, H b = some u → b = a := fun b u z => Classical.byContradiction fun ne => by rw [off b ne] at z; cases z
    have hO : Only H := fun b => by
      by_cases z : b = a
      · rw [z]; exact .inr ⟨_, _, at1⟩
      · exact .inl (off b z)
    refine law_goG Kin hn1 hn2 hbb lim hg ha hr F bd hO (hsp H hO (.inl (.inr ⟨_, at1⟩))) (fun b u z => ?_) (fun b u z => ⟨one b u z, hk⟩) (no H)
    obtain rfl := one b u z
    rw [at1] at z
    cases z
    exact ⟨ha, by rw [List.length_map]; exact hl, vs, _, rv, ha⟩
theorem walk_ofG {l : PySem.W.OpenLaw} {n : Nat} {q : Program} {loose : List Str} {XP : (Str → Option Value) → Heap → Prop} {YP : World → Heap → Prop} {d : DefRec} {Kw : Params → PySem.W.Frag} {CX : World → CXT} {sp : World → Sp}
    (hn : l.most = some n) (hn2 : n ≤ sizeLine) (hdf : d.params.defaults = []) (hr : Room k callerA) (hY : ∀ (w : World) (h : Heap), YP w h → (Kw w.params).In h)
    (F : ∀ (w : World) (mg : Str → Option Value) (fa : Addr) (h : Heap), (Kw w.params).In h → h.Ns mainGlobals mg → mg d.name = some (.ref fa) →
      ∃ fd : FuncData, (∀ (s : Shared) (u : Value), BindsTo s fd ⟨[u], []⟩ [(x, u)]) ∧ ∀ base : Heap, (Kw w.params).In base → base.Ns mainGlobals mg → FnG l.prog w (Kw w.params) mg base (CX w) k fa fd [x] (sp w))
    (hsp : ∀ (w : World) (H : Hp) (a : Addr) (ns : List Int), ns.length ≤ n → Only H → SqL (Kw w.params) H a (ns.map V.int) → sp w [.ref a] H (fun v _ => v = .bl true) fun _ _ _ => False)
    (hCX : ∀ (w : World) (H : Hp) (s : Shared) (e : Value) (s' : Shared), CX w [] H s (fun _ _ _ => False) e s' → False) : PySem.W.WalkO q loose XP YP l.row.toRowW d [] (fun f vs => PySem.call f vs) := by
  refine Att.attach_call hn hdf fun w s₀ s₁ mg mb fa o pm cd doc a vs ns gr Y ho hd hcd hmg hobj hints hlen hg => ?_
  obtain ⟨fd, hb, hF⟩ := F w mg fa _ (hY w _ Y) gr.T.g hmg
  exact law_callG (hY w _ Y) gr.T.g gr.T.b gr.T.builtins gr.T.nolimit hg hobj hints (Nat.le_trans hlen hn2) hr hF hb (fun H hO hS => hsp w H a ns hlen hO hS) fun H e s' => hCX w H s₁ e s'
end
end Tw
namespace Tw
open PySem L2 PySem.Spec PyProof.Rows
section
variable {K : PySem.W.Frag} {G : Gt} {W : WX} {X : Cx}
def rRepr (K : PySem.W.Frag) : List V → Hp → VK → Prop := fun xs H Q => ∃ v x, xs = [v] ∧ Dp K H v x ∧ x.showable = true ∧ x.hasDict = false ∧ x.depth ≤ 64 ∧ x.shown.length ≤ sizeLine ∧ Q (.str x.shown) H
theorem cr_repr (hK : X.K = K) (gd : X.A.guards = some []) (hu : X.A.units + 70 < cLine) : CallR X (.builtin "repr") (rRepr K) := by
  subst hK
  intro pins s σ H xs us Q I r h
  obtain ⟨v, x, rfl, dp, sh, nd, dep, sz, q⟩ := h
  cases r with
  | cons ru rr =>
    rename_i u us
    cases rr
    obtain ⟨as, rd⟩ := Dp.reads I x v u dp ru
    have isref : ∀ a : Addr, u = .ref a → wpAny (model X.prog X.w) X.A (call (.builtin "repr") [u]) (EP X pins σ Q) X.xe s := by
      rintro a rfl
      refine repr_of_reads' rd sh (fun z => by rw [nd] at z; cases z) gd (by omega) (fun _ _ z => z) (fun h' t tk hk => ?_) sz
      exact ⟨.str x.shown, H, I.kept (t' := tk) hk, ⟨t, rfl⟩, q⟩
    cases rd with
    | none => exact PySem.P.repr_of_none ⟨.str _, H, I.tok _, ⟨_, rfl⟩, q⟩
    | bool => exact PySem.P.repr_of_bool ⟨.str _, H, I.tok _, ⟨_, rfl⟩, q⟩
    | int => exact PySem.P.repr_of_int (of_decide_eq_true sh) ⟨.str _, H, I.tok _, ⟨_, rfl⟩, q⟩
    | str => exact PySem.P.repr_of_str ⟨.str _, H, I.tok _, ⟨_, rfl⟩, q⟩ (hsz := sz)
    | list => exact isref _ rfl
    | tuple => exact isref _ rfl
    | dict => exact isref _ rfl
mutual
def shOk : D → Bool
  | .non => true
  | .bl _ => true
  | .int i => decide (i.natAbs < 2 ^ 250)
  | .str x => decide (x.cps.size ≤ 1000) && x.cps.toList.all fun c => decide (c < 16 ^ 8)
  | .lst xs => shOkL xs
  | .tup xs => shOkL xs
  | _ => false
def shOkL : List D → Bool
  | [] => true
  | d :: ds => shOk d && shOkL ds
end
mutual
def wgh : D → Nat
  | .str x => x.cps.size
  | .lst xs => wghL xs
  | .tup xs => wghL xs
  | _ => 0
def wghL : List D → Nat
  | [] => 0
  | d :: ds => wgh d + 1 + wghL ds
end
mutual
def dpt : D → Nat
  | .lst xs => dptL xs + 1
  | .tup xs => dptL xs + 1
  | _ => 0
def dptL : List D → Nat
  | [] => 0
  | d :: ds => max (dpt d) (dptL ds)
end
def reprT (d : D) : Str := match toP d with
  | some x => x.shown
  | none => "None"
theorem log2_small {i : Int} (h : i.natAbs < 2 ^ 250) : i.natAbs.log2 < 250 := by
  by_cases z : i.natAbs = 0
  · rw [z]; decide
  · exact (Nat.log2_lt z).mpr h
mutual
theorem shOk_ok : ∀ (d : D), shOk d = true → ∃ x, toP d = some x ∧ x.showable = true ∧ x.hasDict = false ∧ x.leavesShort 2000 = true ∧ x.bulk = wgh d ∧ x.depth = dpt d
  | .non, _ => ⟨_, rfl, rfl, rfl, rfl, rfl, rfl⟩
  | .bl _, _ => ⟨_, rfl, rfl, rfl, rfl, rfl, rfl⟩
  | .int i, h => by
    have h1 : i.natAbs.log2 < 250 := log2_small (of_decide_eq_true h)
    have h2 := int_text_length_le (k := 250) (by decide) h1
    refine ⟨_, rfl, decide_eq_true (by omega), rfl, decide_eq_true ?_, rfl, rfl⟩
    show (Str.ofString (toString i)).length ≤ 2000
    rw [PySem.ofString_length]; omega
  | .str x, h => by
    have h' : (decide (x.cps.size ≤ 1000) && x.cps.toList.all fun c => decide (c < 16 ^ 8)) = true := h
    rw [Bool.and_eq_true] at h'
    exact ⟨_, rfl, rfl, rfl, h'.2, rfl, rfl⟩
  | .lst xs, h => by
    obtain ⟨ys, e, a, b, c, d1, d2⟩ := shOkL_ok xs h
    exact ⟨.list ys, by show (toPL xs).map _ = _; rw [e]; rfl, a, b, c, d1, by show PyData.depthAll ys + 1 = dptL xs + 1; rw [d2]⟩
  | .tup xs, h => by
    obtain ⟨ys, e, a, b, c, d1, d2⟩ := shOkL_ok xs h
    exact ⟨.tuple ys, by show (toPL xs).map _ = _; rw [e]; rfl, a, b, c, d1, by show PyData.depthAll ys + 1 = dptL xs + 1; rw [d2]⟩
  | .ty _, h => by cases h
  | .cls _, h => by cases h
  | .ins _ _ _, h => by cases h
  | .dct _ _, h => by cases h
  | .exo _ _ _, h => by cases h
  | .err _ _ _, h => by cases h
  | .pen, h => by cases h
  | .bag, h => by cases h
  | .own _, h => by cases h
  | .self, h => by cases h
  | .scr _, h => by cases h
theorem shOkL_ok : ∀ (ds : List D), shOkL ds = true → ∃ xs, toPL ds = some xs ∧ PyData.showableAll xs = true ∧ PyData.hasDictAll xs = false ∧ PyData.leavesShortAll 2000 xs = true ∧ PyData.bulkAll xs = wghL ds ∧ PyData.depthAll xs = dptL ds
  | [], _ => ⟨[], rfl, rfl, rfl, rfl, rfl, rfl⟩
  | d :: ds, h => by
    have h' : (shOk d && shOkL ds) = true := h
    rw [Bool.and_eq_true] at h'
    obtain ⟨x, e, a, b, c, d1, d2⟩ := shOk_ok d h'.1
    obtain ⟨xs, e', a', b', c', d1', d2'⟩ := shOkL_ok ds h'.2
    refine ⟨x :: xs, by unfold toPL; rw [e, e'], ?_, ?_, ?_, ?_, ?_⟩
    · show (x.showable && PyData.showableAll xs) = true; rw [a, a']; rfl
    · show (x.hasDict || PyData.hasDictAll xs) = false; rw [b, b']; rfl
    · show (x.leavesShort 2000 && PyData.leavesShortAll 2000 xs) = true; rw [c, c']; rfl
    · show x.bulk + 1 + PyData.bulkAll xs = wgh d + 1 + wghL ds; rw [d1, d1']
    · show max x.depth (PyData.depthAll xs) = max (dpt d) (dptL ds); rw [d2, d2']
end
def reprD (ds : List D) : M D := match ds with
  | [x] => if (shOk x && decide (wgh x ≤ 4000) && decide (dpt x ≤ 64)) = true then mret (.str (reprT x)) else mbad
  | _ => mbad
theorem prim_repr : PrimL G (rRepr K) reprD := by
  intro W p σ H s xs vs Q pk rs fin
  unfold reprD at fin
  split at fin
  · rename_i x
    split at fin
    · rename_i hx
      simp only [Bool.and_eq_true, decide_eq_true_eq] at hx
      obtain ⟨⟨h1, h2⟩, h3⟩ := hx
      obtain ⟨v, _, rfl, rx, hz⟩ := rs
      obtain rfl := hz
      obtain ⟨y, e, a, b, c, d1, d2⟩ := shOk_ok x h1
      have big := PyData.shown_le_bulk 2000 (by decide) y c
      have e2 : reprT x = y.shown := by unfold reprT; rw [e]
      refine ⟨v, y, rfl, dp_of x v y rx e, a, b, by omega, by rw [sizeLine_eq]; omega, ?_⟩
      rw [← e2]
      exact fin _ H Keep.refl pk rfl
    · exact False.elim fin
  · exact False.elim fin
def rInA (K : PySem.W.Frag) (neg : Bool) : R2 := fun x y H Q => ∃ (k : Bool) (d : PyData) (ds : List PyData), Dp K H x d ∧ Dp K H y (if k = true then .tuple ds else .list ds) ∧ SeqAt.shaped d = true ∧ SeqAt.shaped (.list ds) = true ∧ Q (.bl (neg ^^ ds.any fun z => PyData.eqv z d)) H
theorem shaped_tl {ds : List PyData} (h : SeqAt.shaped (.list ds) = true) : SeqAt.shaped (.tuple ds) = true := h
theorem op_inA (hK : X.K = K) (hu : X.A.units + 65 < cLine) : OpR X (compareOp .In) (rInA K false) := by
  subst hK
  intro pins s σ H x y v u Q I rx ry h
  obtain ⟨k, d, ds, hd, he, sd, se, q⟩ := h
  rw [Bool.false_xor] at q
  obtain ⟨as, r1⟩ := Dp.reads I d x v hd rx
  obtain ⟨bs, r2⟩ := Dp.reads I _ y u he ry
  cases k
  · exact SeqAt.in_list_reads r2 r1 (SeqAt.canLay_of_shaped se) (SeqAt.canLay_of_shaped sd) (room_in_shaped sd hu) ⟨.bl _, H, I, rfl, q⟩
  · exact SeqAt.in_tuple_reads r2 r1 (SeqAt.canLay_of_shaped (shaped_tl se)) (SeqAt.canLay_of_shaped sd) (room_in_shaped sd hu) ⟨.bl _, H, I, rfl, q⟩
def inA (neg : Bool) (x y : D) : M D := match seqD y with
  | some ys => (match toP x with
    | some d => (match toPL ys with
      | some ds => if (SeqAt.shaped d && SeqAt.shaped (.list ds)) = true then mret (.bl (neg ^^ ds.any fun z => PyData.eqv z d)) else mbad
      | none => mbad)
    | none => mbad)
  | none => mbad
theorem prim_inA {neg : Bool} : Prim2 G (rInA K neg) (inA neg) := by
  intro W p σ H s x y vx vy Q pk rx ry fin
  unfold inA at fin
  cases ey : seqD y with
  | none => rw [ey] at fin; exact fin.elim
  | some ys =>
    rw [ey] at fin
    dsimp only at fin
    cases ex : toP x with
    | none => rw [ex] at fin; exact fin.elim
    | some d =>
      rw [ex] at fin
      dsimp only at fin
      cases es : toPL ys with
      | none => rw [es] at fin; exact fin.elim
      | some ds =>
        rw [es] at fin
        dsimp only at fin
        split at fin
        · rename_i hs
          rw [Bool.and_eq_true] at hs
          have fin' := fin _ H Keep.refl pk rfl
          have dx := dp_of (K := K) x vx d rx ex
          cases y <;> cases ey
          · refine ⟨false, d, ds, dx, ?_, hs.1, hs.2, fin'⟩
            exact dp_of (K := K) (.lst _) vy (.list ds) ry (by show (toPL _).map _ = _; rw [es]; rfl)
          · refine ⟨true, d, ds, dx, ?_, hs.1, hs.2, fin'⟩
            exact dp_of (K := K) (.tup _) vy (.tuple ds) ry (by show (toPL _).map _ = _; rw [es]; rfl)
        · exact fin.elim
end
end Tw
namespace Tw
open PySem L2 PySem.Spec PyProof.Rows
structure OwnM (K : PySem.W.Frag) (C : Addr) (m : Str) (g : Addr) (fd : FuncData) (ps : List Str) : Prop where
  at_ : PySem.W.findIn K (.ref C) m = some (some (.ref g))
  isf : PySem.W.isFn K (.ref g) = true
  fnin : PySem.W.fnIn K g = true
  b : L2.Binds K fd ps []
section
variable {K : PySem.W.Frag} {G : Gt} {W : WX} {X : Cx} {C g : Addr} {fd : FuncData} {ps : List Str} {k n : Nat} {sp : Sp} {md : List D → M D} {E : L2.St → XK}
variable {a b e : Expr} {ta tb te : TE} {fa fb fe : Loc → M D} {pos : Pos}
end
end Tw
namespace Tw
open PySem L2 PySem.Spec PyProof.Rows
structure FnN (P : Program) (w : World) (K : PySem.W.Frag) (mg : Str → Option Value) (base : Heap) (CX : CXT) (k : Nat) (f : Addr) (fd : FuncData) (ps : List Str) (sp : Nat → Sp) : Prop where
  len : ∀ n vs H Q E, sp n vs H Q E → vs.length = ps.length
  run : ∀ (A : Around) (outer : List Env) (s : Shared) (H : Hp) (args : Args) (us : List Value) (vs : List V) (Q : VK) (E : XK),
    Room k A → Env0 P w K mg base A outer s H → BindsTo s fd args (ps.zip us) → Vals vs us → sp s.heap.objs.size vs H Q E → codeAny (model P w) A (.call (.ref f) args) (CR CX outer P w H s Q E) s
section
variable {P : Program} {w : World} {K : PySem.W.Frag} {mg : Str → Option Value} {base : Heap} {CX : CXT} {f : Addr} {fd : FuncData} {ps : List Str} {sp : Nat → Sp} {k : Nat}
end
section
variable {X : Cx}
end
section
variable {P : Program} {w : World} {K : PySem.W.Frag} {mg : Str → Option Value} {base : Heap}
end
section
variable {K : PySem.W.Frag} {G : Gt} {W : WX} {X : Cx} {C g : Addr} {fd : FuncData} {ps : List Str} {k n : Nat} {f : Str} {e : Expr} {te : TE} {fe : Loc → M D}
def ownSeq (n : Nat) (f : Str) (d : D) : M (List D) := match d with
  | .ins k ns xs => if (k == n) = true then (match fldOf ns xs f with
    | some (.tup ds) => mret ds
    | _ => mbad) else mbad
  | _ => mbad
def iOw (n : Nat) (f : Str) (fe : Loc → M D) : Loc → M (List D) := fun ρ => mbind (fe ρ) (ownSeq n f)
end
end Tw
namespace Tw
open PySem L2 PySem.Spec PyProof.Rows
section
variable {K : PySem.W.Frag} {G : Gt} {W : WX} {X : Cx} {C g gl : Addr} {fd fdl : FuncData} {ps psl : List Str} {k n : Nat} {f : Str} {spl : Sp}
end
end Tw
namespace Tw
open PySem L2 PySem.Spec PyProof.Rows
mutual
def nolst : D → Bool
  | .lst _ => false
  | .err _ _ _ => false
  | .self => false
  | .scr _ => false
  | .tup xs => nolstL xs
  | .ins _ _ xs => nolstL xs
  | .dct _ xs => nolstL xs
  | .exo _ _ xs => nolstL xs
  | .non => true
  | .bl _ => true
  | .int _ => true
  | .str _ => true
  | .ty _ => true
  | .cls _ => true
  | .pen => true
  | .bag => true
  | .own _ => false
def nolstL : List D → Bool
  | [] => true
  | d :: ds => nolst d && nolstL ds
end
section
variable {K : PySem.W.Frag} {G : Gt} {W : WX} {X : Cx}
variable {a b c e : Expr} {es : List Expr} {ta tb te to tv ti : TE} {fa fb fe fo fv fi : Loc → M D} {pos : Pos} {tA : TA} {fA : Loc → M (List D)}
theorem exo_lst {a C : Addr} {d : Option Addr} {xs : List V} : L2.exo a C d ≠ .lst xs := fun z => by unfold L2.exo at z; cases z
theorem exd_lst {a : Addr} {fs : List (Str × V)} {xs : List V} : exd a fs ≠ .lst xs := fun z => by unfold exd at z; cases z
mutual
theorem rep_shut {p q : Fm} {H : Hp} (hp : q.pen = p.pen) (ho : ∀ a, q.out a → p.out a ∨ ∃ vs, H a = some (.lst vs)) : ∀ (d : D) (v : V), nolst d = true → Rep G p H d v → Rep G q H d v
  | .non, _, _, h => h
  | .bl _, _, _, h => h
  | .int _, _, _, h => h
  | .str _, _, _, h => h
  | .ty _, _, _, h => h
  | .cls _, _, _, h => h
  | .pen, _, _, h => by obtain ⟨a, c, e, z⟩ := h; exact ⟨a, c, hp.trans e, z⟩
  | .bag, _, _, h => by obtain ⟨a, e, z⟩ := h; exact ⟨a, hp.trans e, z⟩
  | .own _, _, e, _ => by cases e
  | .self, _, e, _ => by cases e
  | .scr _, _, e, _ => by cases e
  | .err _ _ _, _, e, _ => by cases e
  | .lst _, _, e, _ => by cases e
  | .tup ds, v, e, h => by
    obtain ⟨a, us, e1, q0, q1, q2⟩ := h
    exact ⟨a, us, e1, fun z => (ho a z).elim q0 fun ⟨_, z⟩ => (by rw [z] at q1; cases q1), q1, repL_shut hp ho ds us e q2⟩
  | .ins n ns ds, v, e, h => by
    obtain ⟨a, dx, us, e1, q0, q1, q3, q2⟩ := h
    exact ⟨a, dx, us, e1, fun z => (ho a z).elim q0 fun ⟨_, z⟩ => (by rw [z] at q1; cases q1), q1, q3, repL_shut hp ho ds us e q2⟩
  | .dct ns ds, v, e, h => by
    obtain ⟨a, us, e1, q0, q1, q3, q2⟩ := h
    exact ⟨a, us, e1, fun z => (ho a z).elim q0 fun ⟨_, z⟩ => (by rw [z] at q1; cases q1), q1, q3, repL_shut hp ho ds us e q2⟩
  | .exo c ns ds, v, e, h => by
    obtain ⟨a, dd, us, e1, q0, q1, q2, q3⟩ := h
    refine ⟨a, dd, us, e1, fun z => (ho a z).elim q0 fun ⟨_, z⟩ => (by rw [z] at q1; exact exo_lst (Option.some.inj q1).symm), q1, repL_shut hp ho ds us e q2, ?_⟩
    rcases q3 with q3 | ⟨b, gs, e0, e1, e2, e3, e4⟩
    · exact .inl q3
    · exact .inr ⟨b, gs, e0, e1, fun z => (ho b z).elim e2 fun ⟨_, z⟩ => (by rw [z] at e3; exact exd_lst (Option.some.inj e3).symm), e3, e4⟩
theorem repL_shut {p q : Fm} {H : Hp} (hp : q.pen = p.pen) (ho : ∀ a, q.out a → p.out a ∨ ∃ vs, H a = some (.lst vs)) : ∀ (ds : List D) (us : List V), nolstL ds = true → RepL G p H ds us → RepL G q H ds us
  | [], _, _, h => h
  | d :: ds, us, e, h => by
    obtain ⟨v, r, e1, q1, q2⟩ := h
    have e' : (nolst d && nolstL ds) = true := e
    rw [Bool.and_eq_true] at e'
    exact ⟨v, r, e1, rep_shut hp ho d v e'.1 q1, repL_shut hp ho ds r e'.2 q2⟩
end
end
end Tw
namespace Tw
open PySem L2 PySem.Spec PyProof.Rows
theorem room_u {k : Nat} {A : Around} (r : Room k A) : A.units + 70 < cLine := by have := r.un; omega
theorem room_v {k : Nat} {A : Around} (r : Room k A) : A.units + 65 < cLine := by have := r.un; omega
section
variable {K : PySem.W.Frag} {G : Gt} {W : WX} {X : Cx}
variable {a b c e : Expr} {es : List Expr} {ta tb te to tv ti : TE} {fa fb fe fo fv fi : Loc → M D} {pos : Pos} {tA : TA} {fA : Loc → M (List D)}
def kCallD (m : List D → M D) (dd : List D) (fA : Loc → M (List D)) : Loc → M D := fun ρ => mbind (fA ρ) fun ds => m (ds ++ dd)
def asS (d : D) : M (List D) := match seqD d with
  | some xs => mret xs
  | none => mbad
def iS (fe : Loc → M D) : Loc → M (List D) := fun ρ => mbind (fe ρ) asS
end
end Tw
namespace Tw
open PySem L2
mutual
def plainD : D → Bool
  | .non => true
  | .bl _ => true
  | .int _ => true
  | .str x => PyData.strOk x
  | .lst xs => plainL xs
  | .tup xs => plainL xs
  | _ => false
def plainL : List D → Bool
  | [] => true
  | d :: ds => plainD d && plainL ds
end
mutual
theorem plain_toP : ∀ d : D, plainD d = true → ∃ x, toP d = some x ∧ x.canLay0 = true ∧ x.depth = dpt d
  | .non, _ => ⟨_, rfl, rfl, rfl⟩
  | .bl _, _ => ⟨_, rfl, rfl, rfl⟩
  | .int _, _ => ⟨_, rfl, rfl, rfl⟩
  | .str x, h => ⟨_, rfl, h, rfl⟩
  | .lst xs, h => by
    obtain ⟨ys, e, a, b⟩ := plainL_toP xs h
    exact ⟨.list ys, by show (toPL xs).map _ = _; rw [e]; rfl, a, by show PyData.depthAll ys + 1 = dptL xs + 1; rw [b]⟩
  | .tup xs, h => by
    obtain ⟨ys, e, a, b⟩ := plainL_toP xs h
    exact ⟨.tuple ys, by show (toPL xs).map _ = _; rw [e]; rfl, a, by show PyData.depthAll ys + 1 = dptL xs + 1; rw [b]⟩
  | .ty _, h => by cases h
  | .cls _, h => by cases h
  | .ins _ _ _, h => by cases h
  | .dct _ _, h => by cases h
  | .exo _ _ _, h => by cases h
  | .err _ _ _, h => by cases h
  | .pen, h => by cases h
  | .bag, h => by cases h
  | .own _, h => by cases h
  | .self, h => by cases h
  | .scr _, h => by cases h
theorem plainL_toP : ∀ ds : List D, plainL ds = true → ∃ xs, toPL ds = some xs ∧ PyData.canLayAll0 xs = true ∧ PyData.depthAll xs = dptL ds
  | [], _ => ⟨[], rfl, rfl, rfl⟩
  | d :: ds, h => by
    have h' : (plainD d && plainL ds) = true := h
    rw [Bool.and_eq_true] at h'
    obtain ⟨x, e, a, b⟩ := plain_toP d h'.1
    obtain ⟨xs, e', a', b'⟩ := plainL_toP ds h'.2
    exact ⟨x :: xs, by unfold toPL; rw [e, e'], by show (x.canLay0 && PyData.canLayAll0 xs) = true; rw [a, a']; rfl, by show max x.depth (PyData.depthAll xs) = max (dpt d) (dptL ds); rw [b, b']⟩
end
def eqvD (x y : D) : Bool := match toP x, toP y with
  | some a, some b => PyData.eqv a b
  | _, _ => false
theorem neA_plain {x y : D} (hx : plainD x = true) (hy : plainD y = true) (dx : dpt x ≤ 64) (dy : dpt y ≤ 64) : neA x y = mret (.bl (!eqvD x y)) := by
  obtain ⟨a, ea, la, da⟩ := plain_toP x hx
  obtain ⟨b, eb, lb, db⟩ := plain_toP y hy
  have gen : neDat x y = mret (.bl (!eqvD x y)) := by
    unfold neDat eqvD
    rw [ea, eb]
    dsimp only
    rw [if_pos]
    show (SeqAt.shaped a && SeqAt.shaped b) = true
    unfold SeqAt.shaped
    rw [la, lb, da, db, decide_eq_true dx, decide_eq_true dy]
    rfl
  cases x <;> cases y <;> first
    | exact gen
    | (rename_i i j; show mret (D.bl (!decide (i = j))) = mret (.bl (!(i == j))); first | rfl | (by_cases h : i = j <;> simp [h]))
theorem eqvD_refl {x : D} (hx : plainD x = true) : eqvD x x = true := by
  obtain ⟨a, ea, la, _⟩ := plain_toP x hx
  unfold eqvD
  rw [ea]
  exact SeqAt.eqv_refl a la
theorem eqA_str (i j : Str) : eqA (.str i) (.str j) = mret (.bl (decide (i = j))) := rfl
theorem neA_str (i j : Str) : neA (.str i) (.str j) = mret (.bl (!decide (i = j))) := rfl
section
variable {gm : D → Loc → Option Loc} {mt : Loc → M Bool} {me : Loc → M D} {mb : MS} {fi : Loc → M (List D)} {vs : List Nat}
theorem cl_pure (f : D → D) (t : D → Bool) {ρ : Loc} : ∀ (ds acc : List D), (∀ d ∈ ds, ∃ ρ1, gm d ρ = some ρ1 ∧ mt ρ1 = mret (t d) ∧ (t d = true → me ρ1 = mret (f d))) → acc.length + ds.length ≤ 100000 → cloop gm mt me ds ρ acc = mret (acc ++ (ds.filter t).map f)
  | [], acc, _, _ => by show mret acc = _; simp
  | d :: ds, acc, h, hl => by
    obtain ⟨ρ1, e1, e2, e3⟩ := h d List.mem_cons_self
    rw [List.length_cons] at hl
    show (match gm d ρ with | none => mbad | some ρ1 => _) = _
    rw [e1]
    dsimp only
    rw [e2]
    show (if t d = true then (mbind (nox (me ρ1)) fun y => if decide (acc.length < 100000) = true then cloop gm mt me ds ρ (acc ++ [y]) else mbad) else cloop gm mt me ds ρ acc) = _
    by_cases ht : t d = true
    · rw [if_pos ht, e3 ht]
      show (if decide (acc.length < 100000) = true then cloop gm mt me ds ρ (acc ++ [f d]) else mbad) = _
      rw [if_pos (decide_eq_true (by omega)), cl_pure f t ds _ (fun x hx => h x (List.mem_cons_of_mem _ hx)) (by rw [List.length_append]; show acc.length + 1 + _ ≤ _; omega)]
      rw [List.filter_cons_of_pos ht, List.map_cons, List.append_assoc]
      rfl
    · rw [if_neg ht, cl_pure f t ds _ (fun x hx => h x (List.mem_cons_of_mem _ hx)) (by omega), List.filter_cons_of_neg ht]
theorem lc_test (f : D → D) (t : D → Bool) {ρ : Loc} {ds : List D} (hf : fi ρ = mret ds) (hl : ds.length ≤ 100000) (h : ∀ d ∈ ds, ∃ ρ1, gm d (wipeL ρ vs) = some ρ1 ∧ mt ρ1 = mret (t d) ∧ (t d = true → me ρ1 = mret (f d))) :
    kLc fi gm mt me vs ρ = mret (.lst ((ds.filter t).map f)) := by
  show mbind (fi ρ) (fun ds => mbind (cloop gm mt me ds (wipeL ρ vs) []) lstD) = _
  rw [hf, mbind_ret, cl_pure f t ds [] h (by simpa using hl), mbind_ret, List.nil_append]
  show (if decide (((ds.filter t).map f).length ≤ 100000) = true then _ else _) = _
  rw [if_pos (decide_eq_true (by rw [List.length_map]; exact Nat.le_trans (List.length_filter_le _ _) hl))]
theorem lc_map (f : D → D) {ρ : Loc} {ds : List D} (hf : fi ρ = mret ds) (hl : ds.length ≤ 100000) (h : ∀ d ∈ ds, ∃ ρ1, gm d (wipeL ρ vs) = some ρ1 ∧ me ρ1 = mret (f d)) :
    kLc fi gm (fun _ => mret true) me vs ρ = mret (.lst (ds.map f)) := by
  have z := lc_test (mt := fun _ => mret true) f (fun _ => true) hf hl (fun d hd => by
    obtain ⟨ρ1, a, b⟩ := h d hd
    exact ⟨ρ1, a, rfl, fun _ => b⟩)
  rw [List.filter_eq_self.mpr fun _ _ => rfl] at z
  exact z
end
section
variable {ans : String ⊕ Nat → String ⊕ Nat → Option Bool}
theorem il_tuple (xs : List D) : isiB [.lst xs, .ty "tuple"] = mret (.bl false) := isi_of (a := "list") rfl (by decide +kernel)
theorem in_bool : isiB [.non, .ty "bool"] = mret (.bl false) := isi_of (a := "NoneType") rfl (by decide +kernel)
theorem is_bool (x : Str) : isiB [.str x, .ty "bool"] = mret (.bl false) := isi_of (a := "str") rfl (by decide +kernel)
theorem it_bool (xs : List D) : isiB [.tup xs, .ty "bool"] = mret (.bl false) := isi_of (a := "tuple") rfl (by decide +kernel)
theorem il_bool (xs : List D) : isiB [.lst xs, .ty "bool"] = mret (.bl false) := isi_of (a := "list") rfl (by decide +kernel)
end
abbrev is (ns : List Int) : List D := ns.map D.int
end Tw
namespace Tw
open PySem L2
local macro_rules | `(tactic| walk_at "tw") => `(tactic| simp only [mdef, startL, sseq, zNx, zIf, zRet, zRetN, zEx, zBk, zCt, zRaise, sasg, spar, sof_ret, sof_ok, mret_ap, mbind_ap, obind_ok, mbind_ret, mbind_bad, kC, kOp, kUn, kB, kAnd, kOr, kNot, kAndV, kOrV, kNotV, kIf, kCh, aNil, aCons, kCall, iL, iT, iR1, iR2, mvar, gnm, asB, asL, asT, int2, int2c, addIL, addI, subI, mul_eq, fdv_eq, fdv_64, fmd_eq, ne_eq, not_false_eq_true, Int.reduceEq, Nat.reduceLeDiff, Int.reduceAdd, Int.reduceNeg, p9, p15, p18, p20, p30, negI, ltI, leI, gtI, geI, eqA, neA, isBo, isNo, tupD, lstD, itemD, gcdD, intD, absD, lenD, penGet, penPut, Pen.get, Pen.put,
  ii_int, ii_bool, ib_int, ib_bool, in_int, is_int, it_int, il_int, it_tuple,
  List.map_cons, List.map_nil, List.length_cons, List.length_nil, List.cons_append, List.nil_append, List.getElem?_cons_zero, List.getElem?_cons_succ, List.set_cons_zero, List.set_cons_succ, List.replicate_succ, List.replicate_zero, Nat.reduceSub, Nat.reduceAdd, if_true, if_false, decide_eq_true_eq, Bool.not_eq_true', Bool.true_eq_false, Bool.false_eq_true, reduceIte, decide_true, decide_false, Bool.not_true, Bool.not_false, ite_true, ite_false, List.length_map, *])
namespace Pn
def b_take_0 : MS := (penPut (mvar 0) (kOp addIL (penGet (mvar 0) .turn) (kC (.int 1))) .turn)
def b_take_1 : MS := (zIf (kAnd (kB (kOp eqA (penGet (mvar 0) .digits) (kC (.int 0)))) (kB (kOp ltI (penGet (mvar 0) .next) (kCall lenD (aCons (penGet (mvar 0) .cells) aNil))))) (sseq (sasg (kCall intD (aCons (kOp itemD (penGet (mvar 0) .cells) (penGet (mvar 0) .next)) aNil)) (gnm 2)) (sseq (penPut (mvar 0) (kOp addIL (penGet (mvar 0) .next) (kC (.int 1))) .next) (zIf (kB (kOp geI (mvar 2) (kOp powI (kC (.int 10)) (kC (.int 18))))) (sseq (penPut (mvar 0) (kOp subI (mvar 2) (kOp powI (kC (.int 10)) (kC (.int 18)))) .rest) (penPut (mvar 0) (kC (.int 40)) .digits)) (penPut (mvar 0) (kOp fmdI (kCall intD (aCons (kOp addIL (kOp addIL (kOp mulI (penGet (mvar 0) .seed) (kC (.int 39373))) (kOp fmdI (mvar 2) (kC (.int 2147483423)))) (kC (.int 7))) aNil)) (kC (.int 2147483489))) .seed)))) zNx)
def b_take_2 : MS := (zIf (kB (kOp gtI (penGet (mvar 0) .digits) (kC (.int 0)))) (sseq (penPut (mvar 0) (kOp subI (penGet (mvar 0) .digits) (kC (.int 1))) .digits) (sseq (sasg (kOp fmdI (kCall intD (aCons (penGet (mvar 0) .rest) aNil)) (mvar 1)) (gnm 3)) (sseq (penPut (mvar 0) (kOp fdvI (penGet (mvar 0) .rest) (mvar 1)) .rest) (zRet (mvar 3))))) zNx)
def b_take_3 : MS := (penPut (mvar 0) (kOp fmdI (kCall intD (aCons (kOp addIL (kOp addIL (kOp mulI (penGet (mvar 0) .seed) (kC (.int 48271))) (kOp mulI (kC (.int 13)) (penGet (mvar 0) .turn))) (kC (.int 5))) aNil)) (kC (.int 2147483647))) .seed)
def b_take_4 : MS := (zRet (kOp fmdI (kOp fdvI (kOp fmdI (kCall intD (aCons (kOp mulI (penGet (mvar 0) .seed) (kC (.int 16807))) aNil)) (kC (.int 2147483629))) (kC (.int 64))) (mvar 1)))
def b_take : MS := (sseq b_take_0 (sseq b_take_1 (sseq b_take_2 (sseq b_take_3 b_take_4))))
def m_take : List D → M D := mdef 4 b_take
def b_of : MS := (zRet (kOp itemD (mvar 1) (kCall m_take (aCons (mvar 0) (aCons (kCall lenD (aCons (mvar 1) aNil)) aNil)))))
def m_of : List D → M D := mdef 2 b_of
def Eq2 (s s' : Pen) : Prop := s'.obj = s.obj ∧ s'.ocls = s.ocls ∧ s'.own = s.own
theorem take0 (many : Int) (x2 x3 : Option D) (s : Pen) : b_take_0 [some .pen, some (.int many), x2, x3] s = .nx [some .pen, some (.int many), x2, x3] { s with turn := s.turn + 1 } := by
  unfold b_take_0
  walk_at "tw"
theorem take1 (many : Int) (x2 x3 : Option D) (s : Pen) : ∃ y s', b_take_1 [some .pen, some (.int many), x2, x3] s = .nx [some .pen, some (.int many), y, x3] s' ∧ Eq2 s s' := by
  unfold b_take_1
  by_cases h1 : s.digits = 0
  · by_cases h2 : ((s.next : Nat) : Int) < (s.cells.length : Nat)
    · obtain ⟨n, hn⟩ := atI_int (show s.next < s.cells.length by omega)
      have hm : mulOk s.seed 39373 = true := mulOk_r (by decide)
      have h0 : (0 : Int) ≤ (s.next : Nat) + 1 := by omega
      have h5 : ((2147483423 : Int) ≠ 0) := by decide
      have h6 : ((2147483489 : Int) ≠ 0) := by decide
      by_cases h3 : 1000000000000000000 ≤ n
      · walk_at "tw"
        exact ⟨_, _, rfl, rfl, rfl, rfl⟩
      · walk_at "tw"
        exact ⟨_, _, rfl, rfl, rfl, rfl⟩
    · walk_at "tw"
      exact ⟨_, _, rfl, rfl, rfl, rfl⟩
  · walk_at "tw"
    exact ⟨_, _, rfl, rfl, rfl, rfl⟩
theorem take2 (many : Int) (x2 x3 : Option D) (s : Pen) (h : 0 < many) (h9 : many.natAbs.log2 < 9000) : (b_take_2 [some .pen, some (.int many), x2, x3] s = .nx [some .pen, some (.int many), x2, x3] s) ∨
    ∃ d s', b_take_2 [some .pen, some (.int many), x2, x3] s = .ret (.int d) s' ∧ 0 ≤ d ∧ d < many ∧ Eq2 s s' := by
  unfold b_take_2
  by_cases h1 : 0 < s.digits
  · have h2 : many ≠ 0 := by omega
    refine .inr ⟨s.rest.fmod many, { s with digits := s.digits - 1, rest := s.rest.fdiv many }, ?_, Int.fmod_nonneg_of_pos _ h, Int.fmod_lt_of_pos _ h, rfl, rfl, rfl⟩
    walk_at "tw"
  · exact .inl (by walk_at "tw")
theorem take3 (many : Int) (x2 x3 : Option D) (s : Pen) : ∃ s', b_take_3 [some .pen, some (.int many), x2, x3] s = .nx [some .pen, some (.int many), x2, x3] s' ∧ Eq2 s s' := by
  unfold b_take_3
  have h1 : mulOk s.seed 48271 = true := mulOk_r (by decide)
  have h2 : mulOk 13 s.turn = true := mulOk_l (by decide)
  have h3 : (2147483647 : Int) ≠ 0 := by decide
  walk_at "tw"
  exact ⟨_, rfl, rfl, rfl, rfl⟩
theorem take4 (many : Int) (x2 x3 : Option D) (s : Pen) (h : 0 < many) : ∃ d s', b_take_4 [some .pen, some (.int many), x2, x3] s = .ret (.int d) s' ∧ 0 ≤ d ∧ d < many ∧ Eq2 s s' := by
  unfold b_take_4
  have h1 : mulOk s.seed 16807 = true := mulOk_r (by decide)
  have h2 : many ≠ 0 := by omega
  have h3 : (2147483629 : Int) ≠ 0 := by decide
  have h4 : (64 : Int) ≠ 0 ∧ (64 : Int).natAbs.log2 < 9000 := by decide
  refine ⟨_, s, ?_, Int.fmod_nonneg_of_pos (((s.seed * 16807).fmod 2147483629).fdiv 64) h, Int.fmod_lt_of_pos _ h, rfl, rfl, rfl⟩
  walk_at "tw"
theorem take_okO (s : Pen) (many : Int) (h : 0 < many) (h9 : many.natAbs.log2 < 9000) : ∃ d s', m_take [.pen, .int many] s = .ok (.int d) s' ∧ 0 ≤ d ∧ d < many ∧ s'.obj = s.obj ∧ s'.ocls = s.ocls ∧ s'.own = s.own := by
  obtain ⟨y, s1, e1, q1, r1, o1⟩ := take1 many none none { s with turn := s.turn + 1 }
  have e : b_take (startL 4 [.pen, .int many]) s = sseq b_take_2 (sseq b_take_3 b_take_4) [some .pen, some (.int many), y, none] s1 := by
    show sseq b_take_0 (sseq b_take_1 _) [some .pen, some (.int many), none, none] s = _
    rw [sseq_nx (take0 many none none s), sseq_nx e1]
  rcases take2 many y none s1 h h9 with e2 | ⟨d, s2, e2, h0, h1, q2, r2, o2⟩
  · obtain ⟨s3, e3, q3, r3, o3⟩ := take3 many y none s1
    obtain ⟨d, s4, e4, h0, h1, q4, r4, o4⟩ := take4 many y none s3 h
    rw [sseq_nx e2, sseq_nx e3, e4] at e
    exact ⟨d, s4, mdef_ret e, h0, h1, by rw [q4, q3, q1], by rw [r4, r3, r1], by rw [o4, o3, o1]⟩
  · rw [sseq_ret e2] at e
    exact ⟨d, s2, mdef_ret e, h0, h1, by rw [q2, q1], by rw [r2, r1], by rw [o2, o1]⟩
theorem take_ok (s : Pen) (many : Int) (h : 0 < many) (h9 : many.natAbs.log2 < 9000) : ∃ d s', m_take [.pen, .int many] s = .ok (.int d) s' ∧ 0 ≤ d ∧ d < many ∧ s'.obj = s.obj ∧ s'.ocls = s.ocls :=
  let ⟨d, s', h1, h2, h3, h4, h5, _⟩ := take_okO s many h h9
  ⟨d, s', h1, h2, h3, h4, h5⟩
theorem of_okO (s : Pen) (xs : List D) (h : 0 < xs.length) (hl : xs.length ≤ 1000) : ∃ d s', m_of [.pen, .lst xs] s = .ok d s' ∧ d ∈ xs ∧ s'.obj = s.obj ∧ s'.ocls = s.ocls ∧ s'.own = s.own := by
  have hlog : ((xs.length : Nat) : Int).natAbs.log2 < 9000 := by
    have : ((xs.length : Nat) : Int).natAbs ≤ 1000 := by omega
    exact Nat.lt_of_le_of_lt (log2_le this) (by decide)
  obtain ⟨d, s1, e1, h0, h1, h2⟩ := take_okO s (xs.length : Nat) (by omega) hlog
  obtain ⟨j, rfl⟩ := Int.eq_ofNat_of_zero_le h0
  have hj : j < xs.length := by omega
  have hat : atI xs ((j : Nat) : Int) = some xs[j] := atI_nat (List.getElem?_eq_some_iff.mpr ⟨hj, rfl⟩)
  refine ⟨xs[j], s1, mdef_ret ?_, List.getElem_mem _, h2⟩
  unfold b_of
  walk_at "tw"
theorem of_ok (s : Pen) (xs : List D) (h : 0 < xs.length) (hl : xs.length ≤ 1000) : ∃ d s', m_of [.pen, .lst xs] s = .ok d s' ∧ d ∈ xs ∧ s'.obj = s.obj ∧ s'.ocls = s.ocls :=
  let ⟨d, s', h1, h2, h3, h4, _⟩ := of_okO s xs h hl
  ⟨d, s', h1, h2, h3, h4⟩
end Pn
end Tw
namespace Tw
open PySem L2
theorem nr {α : Type} {a b : α} (h : a = b) : a = b := h
section
variable {α β : Type}
def seqk (o : OutS) (m : MS) : OutS := match o with
  | .nx ρ' s' => m ρ' s'
  | .ret d s' => .ret d s'
  | .bk ρ' s' => .bk ρ' s'
  | .ct ρ' s' => .ct ρ' s'
  | .exc c ns xs ρ' s' => .exc c ns xs ρ' s'
  | .bad => .bad
theorem seqk_nx (ρ : Loc) (s : Pen) (m : MS) : seqk (.nx ρ s) m = m ρ s := nr rfl
theorem seqk_ret (d : D) (s : Pen) (m : MS) : seqk (.ret d s) m = .ret d s := nr rfl
theorem seqk_bk (ρ : Loc) (s : Pen) (m : MS) : seqk (.bk ρ s) m = .bk ρ s := nr rfl
theorem seqk_ct (ρ : Loc) (s : Pen) (m : MS) : seqk (.ct ρ s) m = .ct ρ s := nr rfl
theorem seqk_exc (c : Nat) (ns : List Str) (xs : List D) (ρ : Loc) (s : Pen) (m : MS) : seqk (.exc c ns xs ρ s) m = .exc c ns xs ρ s := nr rfl
theorem obind_exc (c : Nat) (ns : List Str) (xs : List D) (s : Pen) (f : α → M β) : obind (.exc c ns xs s) f = .exc c ns xs s := nr rfl
theorem sof_exc (c : Nat) (ns : List Str) (xs : List D) (s : Pen) (ρ : Loc) (k : α → Pen → OutS) : sof (.exc c ns xs s) ρ k = .exc c ns xs ρ s := nr rfl
def noxk (o : Out α) : Out α := match o with
  | .ok a s' => .ok a s'
  | _ => .bad
theorem noxk_ok (a : α) (s : Pen) : noxk (.ok a s) = .ok a s := nr rfl
variable {f f' : D → D → M D} {g : D → M D} {m : List D → M D} {fa fb fc fe fo fv : Loc → M D} {fA fi : Loc → M (List D)} {f1 f2 : Loc → M Bool} {ρ : Loc} {s : Pen} {m1 m2 : MS} {gm : D → Loc → Option Loc}
theorem y_nox (m : M α) : nox m s = noxk (m s) := by unfold nox noxk; cases m s <;> rfl
theorem y_seq : sseq m1 m2 ρ s = seqk (m1 ρ s) m2 := nr rfl
theorem y_mvZ {d : D} {r : Loc} : mvar 0 (some d :: r) s = .ok d s := nr rfl
theorem y_mvS {n : Nat} {x : Option D} {r : Loc} : mvar (n + 1) (x :: r) s = mvar n r s := nr rfl
theorem y_c (d : D) : kC d ρ s = .ok d s := nr rfl
theorem y_op : kOp f fa fb ρ s = obind (fa ρ s) fun x => mbind (fb ρ) fun y => f x y := nr rfl
theorem y_un : kUn g fa ρ s = obind (fa ρ s) g := nr rfl
theorem y_b : kB fa ρ s = obind (fa ρ s) asB := nr rfl
theorem y_asB (b : Bool) : asB (.bl b) s = .ok b s := nr rfl
theorem y_and : kAnd f1 f2 ρ s = obind (f1 ρ s) fun c => if c = true then f2 ρ else mret false := nr rfl
theorem y_or : kOr f1 f2 ρ s = obind (f1 ρ s) fun c => if c = true then mret true else f2 ρ := nr rfl
theorem y_not : kNot f1 ρ s = obind (f1 ρ s) fun c => mret (!c) := nr rfl
theorem y_andV : kAndV fa fb ρ s = obind (obind (fa ρ s) asB) fun c => if c = true then fb ρ else mret (.bl false) := nr rfl
theorem y_orV : kOrV fa fb ρ s = obind (obind (fa ρ s) asB) fun c => if c = true then mret (.bl true) else fb ρ := nr rfl
theorem y_notV : kNotV fa ρ s = obind (obind (fa ρ s) asB) fun c => mret (.bl (!c)) := nr rfl
theorem y_ifE : kIf f1 fa fb ρ s = obind (f1 ρ s) fun c => if c = true then fa ρ else fb ρ := nr rfl
theorem y_ch : kCh f f' fa fb fc ρ s = obind (fa ρ s) fun x => mbind (fb ρ) fun y => mbind (mbind (f x y) asB) fun k => if k = true then mbind (fc ρ) fun z => f' y z else mret (.bl false) := nr rfl
theorem y_nil : aNil ρ s = .ok [] s := nr rfl
theorem y_cons : aCons fe fA ρ s = obind (fe ρ s) fun x => mbind (fA ρ) fun xs => mret (x :: xs) := nr rfl
theorem y_call : kCall m fA ρ s = obind (fA ρ s) m := nr rfl
theorem y_callD (dd : List D) : kCallD m dd fA ρ s = obind (fA ρ s) fun ds => m (ds ++ dd) := nr rfl
theorem y_iL : iL fe ρ s = obind (fe ρ s) asL := nr rfl
theorem y_iT : iT fe ρ s = obind (fe ρ s) asT := nr rfl
theorem y_asL (xs : List D) : asL (.lst xs) s = .ok xs s := nr rfl
theorem y_asT (xs : List D) : asT (.tup xs) s = .ok xs s := nr rfl
theorem y_iS : iS fe ρ s = obind (fe ρ s) asS := nr rfl
theorem y_asSl (xs : List D) : asS (.lst xs) s = .ok xs s := nr rfl
theorem y_asSt (xs : List D) : asS (.tup xs) s = .ok xs s := nr rfl
theorem y_iR1 : iR1 fA ρ s = obind (fA ρ s) rng1 := nr rfl
theorem y_iR2 : iR2 fA ρ s = obind (fA ρ s) rng2 := nr rfl
theorem y_iZ : iZ fA ρ s = obind (fA ρ s) zipD := nr rfl
theorem y_iN : iN fA ρ s = obind (fA ρ s) enumD := nr rfl
theorem y_iOw (n : Nat) (x : Str) : iOw n x fe ρ s = obind (fe ρ s) (ownSeq n x) := nr rfl
theorem y_zll (xs ys : List D) : zipD [.lst xs, .lst ys] s = .ok (pairUp xs ys) s := nr rfl
theorem y_zlt (xs ys : List D) : zipD [.lst xs, .tup ys] s = .ok (pairUp xs ys) s := nr rfl
theorem y_ztl (xs ys : List D) : zipD [.tup xs, .lst ys] s = .ok (pairUp xs ys) s := nr rfl
theorem y_ztt (xs ys : List D) : zipD [.tup xs, .tup ys] s = .ok (pairUp xs ys) s := nr rfl
theorem y_enl (xs : List D) : enumD [.lst xs] s = .ok (numUp 0 xs) s := nr rfl
theorem y_ent (xs : List D) : enumD [.tup xs] s = .ok (numUp 0 xs) s := nr rfl
theorem y_rng {j : Int} (h : (decide (j < 100000) = true ∧ decide (-100000 < j) = true)) : rng1 [.int j] s = .ok (rngL 0 j.toNat) s := by
  show (if decide (j < 100000) = true ∧ decide (-100000 < j) = true then mret (rngL 0 j.toNat) else mbad) s = _
  rw [if_pos h]; rfl
theorem y_zNx : zNx ρ s = .nx ρ s := nr rfl
theorem y_zBk : zBk ρ s = .bk ρ s := nr rfl
theorem y_zCt : zCt ρ s = .ct ρ s := nr rfl
theorem y_ex : zEx fe ρ s = sof (fe ρ s) ρ fun _ s' => .nx ρ s' := nr rfl
theorem y_ret : zRet fe ρ s = sof (fe ρ s) ρ fun d s' => .ret d s' := nr rfl
theorem y_retN : zRetN ρ s = .ret .non s := nr rfl
theorem y_if : zIf f1 m1 m2 ρ s = sof (f1 ρ s) ρ fun k s' => if k = true then m1 ρ s' else m2 ρ s' := nr rfl
theorem y_raise (c : Nat) : zRaise c ρ s = .exc c [] [] ρ s := nr rfl
theorem y_raiseN (c : Nat) (ns : List Str) : zRaiseN c ns fA ρ s = sof (fA ρ s) ρ fun ds s' => if decide (ds.length = ns.length) = true then .exc c ns ds ρ s' else .bad := nr rfl
def gok (o : Option Loc) (s : Pen) : OutS := match o with
  | some ρ' => .nx ρ' s
  | none => .bad
theorem gok_some : gok (some ρ) s = .nx ρ s := nr rfl
theorem y_asg : sasg fe gm ρ s = sof (fe ρ s) ρ fun d s' => gok (gm d ρ) s' := by
  unfold sasg gok; exact nr rfl
theorem y_gnm (i : Nat) (d : D) : gnm i d ρ = some (ρ.set i (some d)) := nr rfl
def parK (i j : Nat) (ρ : Loc) (s : Pen) : List D → OutS
  | [x, y] => .nx ((ρ.set i (some x)).set j (some y)) s
  | _ => .bad
theorem parK_ok (i j : Nat) (x y : D) : parK i j ρ s [x, y] = .nx ((ρ.set i (some x)).set j (some y)) s := nr rfl
theorem y_par (i j : Nat) : spar i j fA ρ s = sof (fA ρ s) ρ fun ds s' => parK i j ρ s' ds := nr rfl
def gcK (o : Option Loc) (g2 : List D → Loc → Option Loc) (r : List D) : Option Loc := match o with
  | some ρ' => g2 r ρ'
  | none => none
theorem gcK_some (g2 : List D → Loc → Option Loc) (r : List D) : gcK (some ρ) g2 r = g2 r ρ := nr rfl
theorem y_gcn (g1 : D → Loc → Option Loc) (g2 : List D → Loc → Option Loc) (d : D) (r : List D) : gcn g1 g2 (d :: r) ρ = gcK (g1 d ρ) g2 r := nr rfl
theorem y_gnl : gnl [] ρ = some ρ := nr rfl
theorem y_gtm2 (g : List D → Loc → Option Loc) (x y : D) : gtm 2 g (.tup [x, y]) ρ = g [x, y] ρ := nr rfl
theorem y_gtm3 (g : List D → Loc → Option Loc) (x y z : D) : gtm 3 g (.tup [x, y, z]) ρ = g [x, y, z] ρ := nr rfl
theorem y_addI (i j : Int) : addI (.int i) (.int j) s = .ok (.int (i + j)) s := nr rfl
theorem y_add (i j : Int) : addIL (.int i) (.int j) s = .ok (.int (i + j)) s := nr rfl
theorem y_sub (i j : Int) : subI (.int i) (.int j) s = .ok (.int (i - j)) s := nr rfl
theorem y_neg (i : Int) : negI (.int i) s = .ok (.int (-i)) s := nr rfl
theorem y_lt (i j : Int) : ltI (.int i) (.int j) s = .ok (.bl (decide (i < j))) s := nr rfl
theorem y_le (i j : Int) : leI (.int i) (.int j) s = .ok (.bl (decide (i ≤ j))) s := nr rfl
theorem y_gt (i j : Int) : gtI (.int i) (.int j) s = .ok (.bl (decide (j < i))) s := nr rfl
theorem y_ge (i j : Int) : geI (.int i) (.int j) s = .ok (.bl (decide (j ≤ i))) s := nr rfl
theorem y_eqi (i j : Int) : eqA (.int i) (.int j) s = .ok (.bl (decide (i = j))) s := nr rfl
theorem y_eqb (i j : Bool) : eqA (.bl i) (.bl j) s = .ok (.bl (decide (i = j))) s := nr rfl
theorem y_eqs (i j : Str) : eqA (.str i) (.str j) s = .ok (.bl (decide (i = j))) s := nr rfl
theorem y_nei (i j : Int) : neA (.int i) (.int j) s = .ok (.bl (!decide (i = j))) s := nr rfl
theorem y_neb (i j : Bool) : neA (.bl i) (.bl j) s = .ok (.bl (!decide (i = j))) s := nr rfl
theorem y_nes (i j : Str) : neA (.str i) (.str j) s = .ok (.bl (!decide (i = j))) s := nr rfl
theorem y_isb (i j : Bool) : isBo (.bl i) (.bl j) s = .ok (.bl (decide (i = j))) s := nr rfl
theorem y_nob (i j : Bool) : notBo (.bl i) (.bl j) s = .ok (.bl (!decide (i = j))) s := nr rfl
theorem y_lenl (xs : List D) : lenD [.lst xs] s = .ok (.int (xs.length : Nat)) s := nr rfl
theorem y_lent (xs : List D) : lenD [.tup xs] s = .ok (.int (xs.length : Nat)) s := nr rfl
theorem y_tuple_l (xs : List D) : tupleD [.lst xs] s = .ok (.tup xs) s := nr rfl
theorem y_tuple_t (xs : List D) : tupleD [.tup xs] s = .ok (.tup xs) s := nr rfl
theorem y_list_l (xs : List D) : listD [.lst xs] s = .ok (.lst xs) s := nr rfl
theorem y_list_t (xs : List D) : listD [.tup xs] s = .ok (.lst xs) s := nr rfl
theorem y_int (i : Int) : intD [.int i] s = .ok (.int i) s := nr rfl
theorem y_abs (i : Int) : absD [.int i] s = .ok (.int (if i < 0 then -i else i)) s := nr rfl
theorem y_gcd (i j : Int) : gcdD [.int i, .int j] s = .ok (.int ((Nat.gcd i.natAbs j.natAbs : Nat) : Int)) s := nr rfl
theorem y_max2 (i j : Int) : max2D [.int i, .int j] s = .ok (.int (if j > i then j else i)) s := nr rfl
theorem y_lst {xs : List D} (h : xs.length ≤ 100000) : lstD xs s = .ok (.lst xs) s := by
  show (if decide (xs.length ≤ 100000) = true then mret (D.lst xs) else mbad) s = _
  rw [if_pos (decide_eq_true h)]; rfl
theorem y_tup {xs : List D} (h : xs.length ≤ 100000) : tupD xs s = .ok (.tup xs) s := by
  show (if decide (xs.length ≤ 100000) = true then mret (D.tup xs) else mbad) s = _
  rw [if_pos (decide_eq_true h)]; rfl
theorem y_mul {i j : Int} (h : mulOk i j = true) : mulI (.int i) (.int j) s = .ok (.int (i * j)) s := by
  show (if mulOk i j = true then mret (D.int (i * j)) else mbad) s = _
  rw [if_pos h]; rfl
theorem y_fld (cf : Nat → Bool) (x : Str) : kFld cf x fa ρ s = obind (fa ρ s) (fldD cf x) := nr rfl
theorem y_meth (n : Nat) (x : Str) (dd : List D) : kMeth n x m dd fo fA ρ s = obind (fo ρ s) fun d => mbind (isI n x d) fun _ => mbind (fA ρ) fun ds => m (d :: (ds ++ dd)) := nr rfl
theorem y_prop (n : Nat) (x : Str) : kProp n x m fo ρ s = obind (fo ρ s) fun d => mbind (isI n x d) fun _ => nox (m [d]) := nr rfl
theorem y_isI (n : Nat) (x : Str) (ns : List Str) (xs : List D) (h : ns.contains x = false) : isI n x (.ins n ns xs) s = .ok () s := by rw [isI_ins n x ns xs h]; rfl
theorem y_mk (c : Nat) (dd : List D) : kMk c m dd fA ρ s = obind (fA ρ s) fun ds => mkD c m (ds ++ dd) := nr rfl
theorem y_bget (x : Bx) : bagGet fe x ρ s = obind (fe ρ s) fun d => fun s => match d with
  | .bag => .ok (.int (s.bget x)) s
  | _ => .bad := nr rfl
theorem y_sfor (mb : MS) : sfor fi gm mb ρ s = sof (fi ρ s) ρ fun ds s' => sloop gm mb ds ρ s' := nr rfl
def retk (o : OutS) : Out D := match o with
  | .nx _ s' => .ok .non s'
  | .ret d s' => .ok d s'
  | .exc c ns xs _ s' => .exc c ns xs s'
  | _ => .bad
theorem retk_nx : retk (.nx ρ s) = .ok .non s := nr rfl
theorem retk_ret (d : D) : retk (.ret d s) = .ok d s := nr rfl
theorem retk_exc (c : Nat) (ns : List Str) (xs : List D) : retk (.exc c ns xs ρ s) = .exc c ns xs s := nr rfl
theorem y_mdef (n : Nat) (b : MS) (ds : List D) : mdef n b ds s = retk (b (startL n ds) s) := nr rfl
theorem y_mbind (m : M α) (f : α → M β) (s : Pen) : mbind m f s = obind (m s) f := nr rfl
theorem y_obind (a : α) (s : Pen) (f : α → M β) : obind (.ok a s) f = f a s := nr rfl
theorem y_sof (a : α) (s : Pen) (ρ : Loc) (k : α → Pen → OutS) : sof (.ok a s) ρ k = k a s := nr rfl
theorem y_mret (a : α) (s : Pen) : mret a s = .ok a s := nr rfl
theorem y_set0 (a b : Option D) (l : Loc) : (b :: l).set 0 a = a :: l := nr rfl
theorem y_setS (a b : Option D) (l : Loc) (n : Nat) : (b :: l).set (n + 1) a = b :: l.set n a := nr rfl
def oAK (i : Nat) (mt : Nat → Option Bool) (nf : Nat → Bool) (hm : Nat → MS) (o : OutS) : OutS := match o with
  | .exc c ns xs ρ s => (match mt c with
    | some true => if (nf c && !ns.isEmpty) = true then .bad else backOf i (hm c (ρ.set i (some (.err c ns xs))) s)
    | some false => .exc c ns xs ρ s
    | none => .bad)
  | .nx ρ' s' => .nx ρ' s'
  | .ret d s' => .ret d s'
  | .bk ρ' s' => .bk ρ' s'
  | .ct ρ' s' => .ct ρ' s'
  | .bad => .bad
theorem y_oA {i : Nat} {mt : Nat → Option Bool} {nf : Nat → Bool} {mb : MS} {hm : Nat → MS} : oA i mt nf mb hm ρ s = oAK i mt nf hm (mb ρ s) := by
  unfold oA sTry oAK
  rfl
theorem oAK_exc {i : Nat} {mt : Nat → Option Bool} {nf : Nat → Bool} {hm : Nat → MS} {c : Nat} {ns : List Str} {xs : List D} (h1 : mt c = some true) (h2 : (nf c && !ns.isEmpty) = false) : oAK i mt nf hm (.exc c ns xs ρ s) = backOf i (hm c (ρ.set i (some (.err c ns xs))) s) := by
  show (match mt c with
    | some true => if (nf c && !ns.isEmpty) = true then OutS.bad else backOf i (hm c (ρ.set i (some (.err c ns xs))) s)
    | some false => .exc c ns xs ρ s
    | none => .bad) = _
  rw [h1]
  dsimp only
  rw [h2]
  rfl
theorem oAK_nx {i : Nat} {mt : Nat → Option Bool} {nf : Nat → Bool} {hm : Nat → MS} : oAK i mt nf hm (.nx ρ s) = .nx ρ s := nr rfl
theorem backOf_bl {i : Nat} {b : Bool} : backOf i (.ret (.bl b) s) = .ret (.bl b) s := nr rfl
theorem y_isiX {ans : String ⊕ Nat → String ⊕ Nat → Option Bool} {c : Nat} {ns : List Str} {xs : List D} {n : Nat} {b : Bool} (h : ans (.inr c) (.inr n) = some b) : isiX ans [.err c ns xs, .cls n] s = .ok (.bl b) s := by
  show (match ans (.inr c) (.inr n) with
    | some b => (mret (.bl b) : M D)
    | none => mbad) s = _
  rw [h]; rfl
theorem y_isiXt {ans : String ⊕ Nat → String ⊕ Nat → Option Bool} {c : Nat} {ns : List Str} {xs : List D} {n : String} {b : Bool} (h : ans (.inr c) (.inl n) = some b) : isiX ans [.err c ns xs, .ty n] s = .ok (.bl b) s := by
  show (match ans (.inr c) (.inl n) with
    | some b => (mret (.bl b) : M D)
    | none => mbad) s = _
  rw [h]; rfl
def xfK (f : Str) : D → M D := fun d => match d with
  | .err _ ns xs => (match fldOf ns xs f with
    | some x => mret x
    | none => mbad)
  | _ => mbad
theorem y_xf (f : Str) : kXf f fe ρ s = obind (fe ρ s) (xfK f) := nr rfl
theorem y_xfK {f : Str} {c : Nat} {ns : List Str} {xs : List D} {d : D} (h : fldOf ns xs f = some d) : xfK f (.err c ns xs) s = .ok d s := by
  show (match fldOf ns xs f with
    | some x => (mret x : M D)
    | none => mbad) s = _
  rw [h]; rfl
theorem y_xf1 {f : Str} {c : Nat} {d : D} : xfK f (.err c [f] [d]) s = .ok d s := y_xfK (by unfold fldOf; simp)
end
mutual
theorem plain_clear : ∀ d : D, plainD d = true → clear d = true
  | .non, _ => rfl
  | .bl _, _ => rfl
  | .int _, _ => rfl
  | .str _, _ => rfl
  | .lst xs, h => plainL_clear xs h
  | .tup xs, h => plainL_clear xs h
  | .ty _, h => by cases h
  | .cls _, h => by cases h
  | .ins _ _ _, h => by cases h
  | .dct _ _, h => by cases h
  | .exo _ _ _, h => by cases h
  | .err _ _ _, h => by cases h
  | .pen, h => by cases h
  | .bag, h => by cases h
  | .own _, h => by cases h
  | .self, h => by cases h
  | .scr _, h => by cases h
theorem plainL_clear : ∀ ds : List D, plainL ds = true → clearL ds = true
  | [], _ => rfl
  | d :: ds, h => by
    have h' : (plainD d && plainL ds) = true := h
    rw [Bool.and_eq_true] at h'
    show (clear d && clearL ds) = true
    rw [plain_clear d h'.1, plainL_clear ds h'.2]; rfl
end
end Tw
namespace Tw
open PySem L2
def add2 : D → D
  | .tup [.int a, .int b] => .int (a + b)
  | d => d
def above (k : Nat) : List Int → List Int
  | [] => []
  | n :: ns => if 0 < n then (k : Int) :: above (k + 1) ns else above (k + 1) ns
def slK (l h : Option Int) : D → M D := fun x => match x with
  | .lst xs => mret (.lst (cutD xs l h))
  | .tup xs => mret (.tup (cutD xs l h))
  | _ => mbad
def partK : D → M (Option Int) := fun d => match d with
  | .int i => mret (some i)
  | _ => mbad
section
variable {fe : Tw.Loc → M D} {fl fh : Tw.Loc → M (Option Int)} {ρ : Tw.Loc} {s : Pen}
theorem y_sl : kSl fe fl fh ρ s = obind (fe ρ s) fun x => mbind (fl ρ) fun l => mbind (fh ρ) fun h => slK l h x := nr rfl
theorem y_part : kPart fe ρ s = obind (fe ρ s) partK := nr rfl
theorem y_no : kNo ρ s = .ok none s := nr rfl
theorem y_pi (i : Int) : partK (.int i) s = .ok (some i) s := nr rfl
theorem y_sll (l h : Option Int) (xs : List D) : slK l h (.lst xs) s = .ok (.lst (cutD xs l h)) s := nr rfl
theorem y_slt (l h : Option Int) (xs : List D) : slK l h (.tup xs) s = .ok (.tup (cutD xs l h)) s := nr rfl
theorem y_cat {xs ys : List D} (h : xs.length + ys.length ≤ 100000) : addIL (.lst xs) (.lst ys) s = .ok (.lst (xs ++ ys)) s := by
  show (if decide (xs.length + ys.length ≤ 100000) = true then mret (D.lst (xs ++ ys)) else mbad) s = _
  rw [if_pos (decide_eq_true h)]; rfl
end
def parK3 (i j l : Nat) (ρ : Tw.Loc) (s : Pen) : List D → OutS
  | [x, y, z] => .nx (((ρ.set i (some x)).set j (some y)).set l (some z)) s
  | _ => .bad
theorem parK3_ok (i j l : Nat) (ρ : Tw.Loc) (s : Pen) (x y z : D) : parK3 i j l ρ s [x, y, z] = .nx (((ρ.set i (some x)).set j (some y)).set l (some z)) s := nr rfl
theorem y_par3 (i j l : Nat) (fA : Tw.Loc → M (List D)) (ρ : Tw.Loc) (s : Pen) : spar3 i j l fA ρ s = sof (fA ρ s) ρ fun ds s' => parK3 i j l ρ s' ds := nr rfl
def cmSK (c : Nat) (md : List D → M D) (dd : List D) (fA : Tw.Loc → M (List D)) (ρ : Tw.Loc) : D → M D := fun d => match d with
  | .cls k => if (k == c) = true then mbind (fA ρ) fun ds => md (.cls c :: (ds ++ dd)) else mbad
  | _ => mbad
theorem y_cmS (c : Nat) (md : List D → M D) (dd : List D) (fo : Tw.Loc → M D) (fA : Tw.Loc → M (List D)) (ρ : Tw.Loc) (s : Pen) : kCmS c md dd fo fA ρ s = obind (fo ρ s) (cmSK c md dd fA ρ) := nr rfl
theorem y_cmSK (c : Nat) (md : List D → M D) (dd : List D) (fA : Tw.Loc → M (List D)) (ρ : Tw.Loc) (s : Pen) : cmSK c md dd fA ρ (.cls c) s = obind (fA ρ s) fun ds => md (.cls c :: (ds ++ dd)) := by
  show (if (c == c) = true then mbind (fA ρ) (fun ds => md (.cls c :: (ds ++ dd))) else mbad) s = _
  rw [if_pos (beq_self_eq_true c)]; rfl
def mkVK (c : Nat) (m : List D → M D) (dd : List D) (fA : Tw.Loc → M (List D)) (ρ : Tw.Loc) : D → M D := fun d => match d with
  | .cls k => if (k == c) = true then mbind (fA ρ) fun ds => mkD c m (ds ++ dd) else mbad
  | _ => mbad
theorem y_mkV (c : Nat) (m : List D → M D) (dd : List D) (fn : Tw.Loc → M D) (fA : Tw.Loc → M (List D)) (ρ : Tw.Loc) (s : Pen) : kMkV c m dd fn fA ρ s = obind (fn ρ s) (mkVK c m dd fA ρ) := nr rfl
theorem y_mkVK (c : Nat) (m : List D → M D) (dd : List D) (fA : Tw.Loc → M (List D)) (ρ : Tw.Loc) (s : Pen) : mkVK c m dd fA ρ (.cls c) s = obind (fA ρ s) fun ds => mkD c m (ds ++ dd) := by
  show (if (c == c) = true then mbind (fA ρ) (fun ds => mkD c m (ds ++ dd)) else mbad) s = _
  rw [if_pos (beq_self_eq_true c)]; rfl
theorem y_isNon (s : Pen) : isNo .non .non s = .ok (.bl true) s := nr rfl
theorem backOf_nx (i : Nat) (ρ : Tw.Loc) (s : Pen) : backOf i (.nx ρ s) = .nx (clean (ρ.set i none)) s := nr rfl
mutual
theorem nolst_ints : ∀ ns : List Int, nolstL (is ns) = true
  | [] => rfl
  | n :: ns => nolst_ints ns
end
theorem sl_nx {gm : D → Tw.Loc → Option Tw.Loc} {mb : MS} {d : D} {ds : List D} {ρ ρ1 ρ2 : Tw.Loc} {s s2 : Pen} (h : gm d ρ = some ρ1) (e : mb ρ1 s = .nx ρ2 s2) : sloop gm mb (d :: ds) ρ s = sloop gm mb ds ρ2 s2 := by
  show (match gm d ρ with | none => OutS.bad | some ρ1 => _) = _
  rw [h]
  dsimp only
  rw [e]
end Tw
namespace Tw
open PySem L2
section
variable {G : Gt} {p : Fm} {H H' : Hp}
mutual
theorem rep_kept (k : ∀ b o, ¬ p.out b → H b = some o → H' b = some o) : ∀ (d : D) (v : V), Rep G p H d v → Rep G p H' d v
  | .non, _, q => q
  | .bl _, _, q => q
  | .int _, _, q => q
  | .str _, _, q => q
  | .ty _, _, q => q
  | .cls _, _, q => q
  | .pen, _, q => q
  | .bag, _, q => q
  | .own _, _, q => q
  | .self, _, q => q
  | .scr ns, v, q => by
    obtain ⟨a, e, q⟩ := q
    rcases q with ⟨q0, o, q1, q2⟩ | q
    · exact ⟨a, e, .inl ⟨q0, o, k _ _ q0 q1, q2⟩⟩
    · exact ⟨a, e, .inr q⟩
  | .lst ds, v, q => by
    obtain ⟨a, vs, e, q0, q1, q2⟩ := q
    exact ⟨a, vs, e, q0, k _ _ q0 q1, repL_kept k ds vs q2⟩
  | .tup ds, v, q => by
    obtain ⟨a, vs, e, q0, q1, q2⟩ := q
    exact ⟨a, vs, e, q0, k _ _ q0 q1, repL_kept k ds vs q2⟩
  | .err c ns ds, v, q => by
    obtain ⟨a, dd, vs, e, q0, q2, q3⟩ := q
    refine ⟨a, dd, vs, e, q0, repL_kept k ds vs q2, ?_⟩
    rcases q3 with q3 | ⟨b, gs, e0, e1, e2, e3, e4⟩
    · exact .inl q3
    · exact .inr ⟨b, gs, e0, e1, e2, k _ _ e2 e3, e4⟩
  | .ins n ns ds, v, q => by
    obtain ⟨a, dx, vs, e, q0, q1, q3, q2⟩ := q
    exact ⟨a, dx, vs, e, q0, k _ _ q0 q1, q3, repL_kept k ds vs q2⟩
  | .dct ns ds, v, q => by
    obtain ⟨a, vs, e, q0, q1, q3, q2⟩ := q
    exact ⟨a, vs, e, q0, k _ _ q0 q1, q3, repL_kept k ds vs q2⟩
  | .exo c ns ds, v, q => by
    obtain ⟨a, dd, vs, e, q0, q1, q2, q3⟩ := q
    refine ⟨a, dd, vs, e, q0, k _ _ q0 q1, repL_kept k ds vs q2, ?_⟩
    rcases q3 with q3 | ⟨b, gs, e0, e1, e2, e3, e4⟩
    · exact .inl q3
    · exact .inr ⟨b, gs, e0, e1, e2, k _ _ e2 e3, e4⟩
theorem repL_kept (k : ∀ b o, ¬ p.out b → H b = some o → H' b = some o) : ∀ (ds : List D) (vs : List V), RepL G p H ds vs → RepL G p H' ds vs
  | [], _, q => q
  | d :: ds, vs, q => by
    obtain ⟨v, r, e, q1, q2⟩ := q
    exact ⟨v, r, e, rep_kept k d v q1, repL_kept k ds r q2⟩
end
mutual
theorem rep_plain {G' : Gt} {q : Fm} (ho : ∀ a o, H a = some o → ¬ p.out a → ¬ q.out a) : ∀ (d : D) (v : V), plainD d = true → Rep G p H d v → Rep G' q H d v
  | .non, _, _, h => h
  | .bl _, _, _, h => h
  | .int _, _, _, h => h
  | .str _, _, _, h => h
  | .ty _, _, e, _ => by cases e
  | .cls _, _, e, _ => by cases e
  | .pen, _, e, _ => by cases e
  | .bag, _, e, _ => by cases e
  | .own _, _, e, _ => by cases e
  | .self, _, e, _ => by cases e
  | .scr _, _, e, _ => by cases e
  | .err _ _ _, _, e, _ => by cases e
  | .ins _ _ _, _, e, _ => by cases e
  | .dct _ _, _, e, _ => by cases e
  | .exo _ _ _, _, e, _ => by cases e
  | .lst ds, v, e, h => by
    obtain ⟨a, vs, e1, q0, q1, q2⟩ := h
    exact ⟨a, vs, e1, ho _ _ q1 q0, q1, repL_plain ho ds vs e q2⟩
  | .tup ds, v, e, h => by
    obtain ⟨a, vs, e1, q0, q1, q2⟩ := h
    exact ⟨a, vs, e1, ho _ _ q1 q0, q1, repL_plain ho ds vs e q2⟩
theorem repL_plain {G' : Gt} {q : Fm} (ho : ∀ a o, H a = some o → ¬ p.out a → ¬ q.out a) : ∀ (ds : List D) (vs : List V), plainL ds = true → RepL G p H ds vs → RepL G' q H ds vs
  | [], _, _, h => h
  | d :: ds, vs, e, h => by
    obtain ⟨v, r, e1, q1, q2⟩ := h
    have e' : (plainD d && plainL ds) = true := e
    rw [Bool.and_eq_true] at e'
    exact ⟨v, r, e1, rep_plain ho d v e'.1 q1, repL_plain ho ds r e'.2 q2⟩
end
theorem PenOk.grow {s : Pen} {x : Addr} {o : HO} (pk : PenOk G p H s) (hx : H x = none) (h1 : H' x = some o) (k : ∀ b o, H b = some o → H' b = some o) : PenOk G (p.add x) H' s := by
  refine ⟨fun a kd e => ?_, fun y c dx e => ?_, fun b hb => ?_, ?_⟩
  · rcases pk.1 a kd e with ⟨e1, e2⟩ | ⟨c, e1, z0, z1, z2⟩
    · exact .inl ⟨e1, k _ _ e2⟩
    · exact .inr ⟨c, e1, fun z => z.elim z0 fun z => ne_of_none z2 hx z, k _ _ z1, k _ _ z2⟩
  · obtain ⟨vs, e1, hl, rs⟩ := pk.2.1 y c dx e
    exact ⟨vs, k _ _ e1, hl, repL_kept (fun b o _ h => k b o h) _ _ (repL_out (p := p) (q := p.add x) rfl rfl (fun b o e h z => z.elim h fun z => ne_of_none e hx z) _ _ rs)⟩
  · rcases hb with hb | rfl
    · obtain ⟨o, e⟩ := pk.2.2.1 b hb
      exact ⟨o, k _ _ e⟩
    · exact ⟨_, h1⟩
  · have o1 : OwnR G (p.add x) H s.own := pk.2.2.2.out (p := p) (q := p.add x) rfl fun b o e h z => z.elim h fun z => ne_of_none e hx z
    exact o1.kept (fun b o _ h => k b o h) fun j b e => by obtain ⟨_, _, _, z, _⟩ := o1 j b e; rw [z]; exact k _ _ z
end
section
variable {K : PySem.W.Frag} {G : Gt} {W : WX} {X : Cx} {tA : TA} {fA : Loc → M (List D)} {m : List D → M D} {E2 : L2.St → XK}
end
end Tw
namespace Tw
open PySem L2
section
variable {K : PySem.W.Frag} {G : Gt} {W : WX} {X : Cx} {te : TE} {fe : Loc → M D}
variable {n : Nat} {st : Stmt} {rest : List Stmt} {f : Loc → M (List D)} {tb : TS} {mb mr : MS} {tr : TS}
end
end Tw
namespace Tw
section
open PySem PySem.SeqAt
open AutoSeq1 (wpAny_loadPart')
open MeetsSeq MeetsSeq2 MeetsSeq3 SeqRoads2
variable {prog : Program} {w : World} {A : Around} {R : Result → Shared → Prop}
end
end Tw
namespace Tw
open PySem L2 PySem.Spec PyProof.Rows
section
variable {K : PySem.W.Frag} {G : Gt} {W : WX} {X : Cx}
section
variable {n k : Nat} {g : Addr} {fd : FuncData} {ps : List Str} {md : List D → M D}
end
end
end Tw
namespace Tw
open PySem L2 PySem.Spec PyProof.Rows
abbrev HdT : Type := Value × Option Nat × (Addr → Value → Option Addr → TS)
inductive HdsN (X : Cx) : List ExceptHandler → List HdT → Prop
  | nil : HdsN X [] []
  | only {x : Str} {c : Value} {ts : Addr → Value → Option Addr → TS} {b₀ : Stmt} {suite : List Stmt} {np pos' : Pos} {hds : List ExceptHandler} {l : List HdT} (hc : Names X x c)
      (hsu : ∀ (a : Addr) (oe : Obj) (cls : Value) (d : Option Addr) (pn : List (Addr × Obj)), Zc cls d oe → (∃ vs, oe.data = .fields vs) → PSs (X.suite a ((a, oe) :: pn)) (b₀ :: suite) (ts a cls d)) (r : HdsN X hds l) :
      HdsN X (.ExceptHandler (some (.Name x np)) none (b₀ :: suite) pos' :: hds) ((c, none, ts) :: l)
  | as_ {x n : Str} {i : Nat} {c : Value} {ts : Addr → Value → Option Addr → TS} {b₀ : Stmt} {suite : List Stmt} {np pos' : Pos} {hds : List ExceptHandler} {l : List HdT} (hc : Names X x c) (hN : X.N.Nodup) (hi : X.N[i]? = some n) (hln : X.env.kindOf n = some .local)
      (hsu : ∀ (a : Addr) (oe : Obj) (cls : Value) (d : Option Addr) (pn : List (Addr × Obj)), Zc cls d oe → (∃ vs, oe.data = .fields vs) → PSs (X.suite a ((a, oe) :: pn)) (b₀ :: suite) (ts a cls d)) (r : HdsN X hds l) :
      HdsN X (.ExceptHandler (some (.Name x np)) (some n) (b₀ :: suite) pos' :: hds) ((c, some i, ts) :: l)
section
variable {X : Cx} {body : List Stmt} {h₀ : ExceptHandler} {hds : List ExceptHandler} {l : List HdT} {pos : Pos} {tb : WX → TS} {Wout : WX}
end
section
variable {K : PySem.W.Frag} {G : Gt} {W : WX} {X : Cx}
abbrev HdM : Type := (Nat → Option Bool) × (Nat → List Str → List D → MS)
def hOnly (mt : Nat → Option Bool) (ms : MS) : HdM := (mt, fun _ _ _ ρ s => match ms ρ s with | .exc _ _ _ _ _ => .bad | o => o)
def hAs (i : Nat) (mt : Nat → Option Bool) (ms : MS) : HdM := (mt, fun c ns xs ρ s => backOf i (ms (ρ.set i (some (.err c ns xs))) s))
inductive HdsD (G : Gt) (X : Cx) : List ExceptHandler → List HdM → Prop
  | nil : HdsD G X [] []
  | only {x : Str} {T : Nat} {b₀ : Stmt} {suite : List Stmt} {np pos' : Pos} {hds : List ExceptHandler} {l : List HdM} {mt : Nat → Option Bool} {ms : MS} (hc : Names X x (.ref (G.cls T))) (hmt : ∀ c b, mt c = some b → PySem.W.exmOne X.K (.ref (G.cls c)) (.ref (G.cls T)) = some b)
      (hsu : ∀ (a : Addr) (oe : Obj) (c : Nat) (dd : Option Addr) (pn : List (Addr × Obj)), mt c = some true → Zc (.ref (G.cls c)) dd oe → (∃ vs, oe.data = .fields vs) → ∃ t, DSs G (X.suite a ((a, oe) :: pn)) W0 (b₀ :: suite) t ms) (r : HdsD G X hds l) :
      HdsD G X (.ExceptHandler (some (.Name x np)) none (b₀ :: suite) pos' :: hds) (hOnly mt ms :: l)
  | as_ {x n : Str} {T i : Nat} {b₀ : Stmt} {suite : List Stmt} {np pos' : Pos} {hds : List ExceptHandler} {l : List HdM} {mt : Nat → Option Bool} {ms : MS} (hc : Names X x (.ref (G.cls T))) (hmt : ∀ c b, mt c = some b → PySem.W.exmOne X.K (.ref (G.cls c)) (.ref (G.cls T)) = some b)
      (hN : X.N.Nodup) (hi : X.N[i]? = some n) (hln : X.env.kindOf n = some .local)
      (hsu : ∀ (a : Addr) (oe : Obj) (c : Nat) (dd : Option Addr) (pn : List (Addr × Obj)), mt c = some true → Zc (.ref (G.cls c)) dd oe → (∃ vs, oe.data = .fields vs) → ∃ t, DSs (G.at a c dd) (X.suite a ((a, oe) :: pn)) W0 (b₀ :: suite) t ms) (r : HdsD G X hds l) :
      HdsD G X (.ExceptHandler (some (.Name x np)) (some n) (b₀ :: suite) pos' :: hds) (hAs i mt ms :: l)
variable {body : List Stmt} {h₀ : ExceptHandler} {hds : List ExceptHandler} {l : List HdM} {pos : Pos} {mb : MS}
variable {ρ : Loc} {s : Pen} {hs : List HdM}
end
end Tw
namespace Tw
open PySem L2 PySem.Spec PyProof.Rows
section
variable {K : PySem.W.Frag} {G : Gt} {W : WX} {X : Cx}
end
end Tw
namespace PySem
open PySem.W
section
variable {prog : Program} {w : World} {A : Around} {E : Value → Shared → Prop} {s : Shared}
end
end PySem
namespace Tw
open PySem L2 PySem.Spec PyProof.Rows
section
variable {K : PySem.W.Frag} {G : Gt} {W : WX} {X : Cx}
end
end Tw
set_option maxHeartbeats 400000
namespace Tw
open PySem L2 PySem.Spec PyProof.Rows
section
variable {K : PySem.W.Frag} {G : Gt} {W W' : WX} {X : Cx}
theorem ExcOk.sub {p : Fm} {H : Hp} {a : Addr} {ns : List Str} {xs : List D} {dd : Option Addr} (h : ExcOk G (p.add a) H ns xs dd) : ExcOk G p H ns xs dd := by
  obtain ⟨vs, r, h⟩ := h
  refine ⟨vs, repL_out (p := p.add a) (q := p) rfl rfl (fun a o _ h z => h (.inl z)) _ _ r, h.imp (fun z => z) fun ⟨b, gs, h1, h2, h3, h4⟩ => ⟨b, gs, h1, h2, fun z => h3 (.inl z), h4⟩⟩
end
end Tw
set_option maxHeartbeats 4000000
namespace Tw
open PySem L2
section
variable {gm : D → Loc → Option Loc} {me : Loc → M D} {fi : Loc → M (List D)} {vs : List Nat}
end
end Tw
namespace Tw
open PySem L2 PySem.Spec PyProof.Rows
section
variable {K : PySem.W.Frag} {G : Gt} {W : WX} {X : Cx}
section
variable {p : Fm} {k : Nat} {a : Addr} {hk : p.own k = none} {ha : ¬ p.out a}
end
section
variable {n i j l : Nat} {st : Stmt} {sts rest : List Stmt} {te ta tb' tc : TE} {f g h : Loc → M (List D)} {t tb u : TS} {m mb mr : MS} {tr : TS}
end
section
variable {o e i value : Expr} {to te ti tv : TE} {fo fe fi fv : Loc → M D} {pos pos' apos cpos p2 : Pos}
variable {a b : Expr} {ta tb : TE} {fa fb : Loc → M D}
end
def Fm.frz (p : Fm) : Fm := ⟨p.pen, none, fun b => p.out b ∧ ∀ k, p.own k ≠ some b, fun b kd e => ⟨p.okp b kd e, fun k z => (p.nal k b z).1 kd e⟩, (fun _ _ _ e => nomatch e), (fun _ _ _ _ _ _ e => nomatch e), fun _ => none, (fun _ _ e => nomatch e), (fun _ _ e => nomatch e), (fun _ _ _ e => nomatch e)⟩
section
variable {p : Fm} {H H' : Hp} {s s' : Pen}
end
section
variable {e : Expr} {es : List Expr} {te : TE} {tt : TT} {tA : TA}
end
end
end Tw
namespace Tw
open PySem L2 PySem.Spec PyProof.Rows
section
variable {K : PySem.W.Frag} {G : Gt} {W : WX} {X : Cx} {E2 : L2.St → XK}
end
end Tw
namespace Tw
open PySem L2 PySem.Spec PyProof.Rows
section
variable {K : PySem.W.Frag} {G : Gt} {W : WX} {X : Cx}
variable {a b e : Expr} {es : List Expr} {ta tb te : TE} {fa fb fe : Loc → M D} {pos : Pos} {tA : TA} {fA : Loc → M (List D)}
structure DF (G : Gt) (X : Cx) (W : WX) (e : Expr) (te : TE) (f : Loc → M (List D)) : Prop where
  run : RunF G W te f
abbrev FF' (G : Gt) (W : WX) (p : Fm) (σ : L2.St) (H : Hp) (Q : VK) (o : Out (List D)) : Prop := match o with
  | .ok ds s' => ∀ H2 vs a, H a = none → Keep p H H2 → PenOk G (p.add a) H2 s' → RepL G (p.add a) H2 ds vs → H2 a = some (.lst vs) → Q (.ref a) H2
  | .exc c ns xs s' => ∀ dd H', Keep p H H' → PenOk G p H' s' → ExcOk G p H' ns xs dd → W (.ref (G.cls c)) dd σ H'
  | .bad => False
theorem FF'.keep {p : Fm} {σ : L2.St} {H H1 : Hp} {Q : VK} {o : Out (List D)} (k : Keep p H H1) (pk : ∀ b, p.out b → ∃ o, H1 b = some o) (h : FF' G W p σ H Q o) : FF' G W p σ H1 Q o := by
  cases o with
  | ok ds s' => exact fun H2 vs a ha k2 => h H2 vs a (keep_free ha k pk) (k.trans k2)
  | exc c ns xs s' => exact fun dd H' k2 => h dd H' (k.trans k2)
  | bad => exact h
section
variable {o i q j : Expr} {to ti tq tj : TE} {fo fi fq fj : Loc → M D}
end
section
variable {n i j l : Nat} {sts : List Stmt} {te ta tb' tc : TE} {f g h : Loc → M (List D)} {t tb : TS} {m md mb : MS} {x y z : Str} {px py pz p1 pt pt2 : Pos} {kt k2 : Nat} {a b c e : Expr}
end
end
end Tw
namespace Tw
open PySem L2 PySem.Spec PyProof.Rows
def permL {α : Type} (ix : List Nat) (l : List α) : List α := ix.filterMap (fun i => l[i]?)
section
variable {K : PySem.W.Frag} {G : Gt} {W : WX} {X : Cx}
theorem permL_vals {vs : List V} {us : List Value} (r : Vals vs us) : ∀ ix : List Nat, Vals (permL ix vs) (permL ix us)
  | [] => .nil
  | i :: ix => by
    have ih := permL_vals r ix
    unfold permL at ih ⊢
    rw [List.filterMap_cons, List.filterMap_cons]
    have go : ∀ {vs : List V} {us : List Value}, Vals vs us → ∀ i : Nat, (vs[i]? = none ∧ us[i]? = none) ∨ ∃ v u, vs[i]? = some v ∧ us[i]? = some u ∧ RelV v u := by
      intro vs us r
      induction r with
      | nil => intro i; exact .inl ⟨rfl, rfl⟩
      | cons a b ih =>
        intro i
        cases i with
        | zero => exact .inr ⟨_, _, rfl, rfl, a⟩
        | succ i => exact ih i
    rcases go r i with ⟨e1, e2⟩ | ⟨v, u, e1, e2, ru⟩
    · rw [e1, e2]; exact ih
    · rw [e1, e2]; exact .cons ru ih
theorem run_cons {te : TE} {t : TA} {fe : Loc → M D} {fA : Loc → M (List D)} (he : RunG G W (RelE G) te fe) (hA : RunG G W (RelA G) t fA) : RunG G W (RelA G) (tCons te t) (aCons fe fA) := fun p σ H ρ s Q e pk fin =>
  he p σ H ρ s _ e pk (FinG.step (f := fe ρ) fin fun x s1 vx H1 k1 pk1 rx fin1 => hA p σ H1 ρ s1 _ (e.keep pk.at k1) pk1 (FinG.step (f := fA ρ) fin1 fun xs s2 vs H2 k2 pk2 rs fin2 => fin2 _ H2 Keep.refl pk2 ⟨vx, vs, rfl, rep_keep pk1.at k2 x vx rx, rs⟩))
structure DK (G : Gt) (X : Cx) (W : WX) (kws : List Keyword) (t : TA) (m : Loc → M (List D)) : Prop where
  pk : PK X kws t
  run : RunG G W (RelA G) t m
theorem k_nil : DK G X W [] tNil aNil := ⟨pk_nil, (a_nil (X := X)).run⟩
theorem k_cons {e : Expr} {kws : List Keyword} {te : TE} {t : TA} {fe : Loc → M D} {fA : Loc → M (List D)} {nm : Option Str} {kpos : Pos} (ha : DE G X W e te fe) (hr : DK G X W kws t fA) : DK G X W (⟨nm, e, kpos⟩ :: kws) (tCons te t) (aCons fe fA) := ⟨pk_cons ha.pe hr.pk, run_cons ha.run hr.run⟩
section
variable {k n : Nat} {C g : Addr} {fd : FuncData} {ps ks : List Str} {ix : List Nat} {sp : Sp} {E : L2.St → XK} {x : Str} {p pos : Pos} {t tk : TA} {e : Expr} {es : List Expr} {kws : List Keyword}
abbrev KB (K : PySem.W.Frag) (fd : FuncData) (ps : List Str) (n : Nat) (ks : List Str) (ix : List Nat) : Prop := KBn K fd ps n ks (fun us ws => us ++ permL ix ws) (fun vs zs => vs ++ permL ix zs)
end
section
variable {k : Nat} {C g : Addr} {fd : FuncData} {ps ks : List Str} {ix : List Nat} {sp : Sp} {E : L2.St → XK} {mn : Str} {apos pos : Pos} {to : TE} {tk : TA} {o : Expr} {kws : List Keyword}
end
end
end Tw
namespace Tw
open PySem L2 PySem.Spec PyProof.Rows
mutual
def Lf (S : Addr → Prop) (H : Hp) : D → V → Prop
  | .lst ds, v => ∃ a us, v = .ref a ∧ S a ∧ H a = some (.lst us) ∧ LfL S H ds us
  | .tup _, _ => True
  | .ins _ _ _, _ => True
  | .dct _ _, _ => True
  | .exo _ _ _, _ => True
  | .err _ _ _, _ => True
  | .self, _ => True
  | .scr _, _ => True
  | .non, _ => True
  | .bl _, _ => True
  | .int _, _ => True
  | .str _, _ => True
  | .ty _, _ => True
  | .cls _, _ => True
  | .pen, _ => True
  | .bag, _ => True
  | .own _, _ => True
def LfL (S : Addr → Prop) (H : Hp) : List D → List V → Prop
  | [], vs => vs = []
  | d :: ds, vs => ∃ v r, vs = v :: r ∧ Lf S H d v ∧ LfL S H ds r
end
mutual
theorem lf_mono {S T : Addr → Prop} {H H' : Hp} (h : ∀ a us, S a → H a = some (.lst us) → T a ∧ H' a = some (.lst us)) : ∀ (d : D) (v : V), Lf S H d v → Lf T H' d v
  | .lst ds, v, q => by
    obtain ⟨a, us, e, h1, h2, h3⟩ := q
    exact ⟨a, us, e, (h a us h1 h2).1, (h a us h1 h2).2, lfL_mono h ds us h3⟩
  | .tup _, _, _ => trivial
  | .ins _ _ _, _, _ => trivial
  | .dct _ _, _, _ => trivial
  | .exo _ _ _, _, _ => trivial
  | .err _ _ _, _, _ => trivial
  | .self, _, _ => trivial
  | .scr _, _, _ => trivial
  | .non, _, _ => trivial
  | .bl _, _, _ => trivial
  | .int _, _, _ => trivial
  | .str _, _, _ => trivial
  | .ty _, _, _ => trivial
  | .cls _, _, _ => trivial
  | .pen, _, _ => trivial
  | .bag, _, _ => trivial
  | .own _, _, _ => trivial
theorem lfL_mono {S T : Addr → Prop} {H H' : Hp} (h : ∀ a us, S a → H a = some (.lst us) → T a ∧ H' a = some (.lst us)) : ∀ (ds : List D) (vs : List V), LfL S H ds vs → LfL T H' ds vs
  | [], _, q => q
  | d :: ds, vs, q => by
    obtain ⟨v, r, e, h1, h2⟩ := q
    exact ⟨v, r, e, lf_mono h d v h1, lfL_mono h ds r h2⟩
end
section
variable {K : PySem.W.Frag} {G : Gt} {W : WX} {X : Cx} {te : TE} {tA : TA} {f : Loc → M (List D)} {fe : Loc → M D} {fA : Loc → M (List D)}
def RunD (G : Gt) (te : TE) (f : Loc → M D) : Prop := ∀ (p : Fm) (σ : L2.St) (H : Hp) (ρ : Loc) (s : Pen) (Q : VK) (d : D) (s' : Pen), EnvOk G p H σ ρ → PenOk G p H s → f ρ s = .ok d s' →
  (∀ v H', Keep p H H' → PenOk G p H' s' → Rep G p H' d v → Lf (fun a => H a = none) H' d v → Q v H') → te σ H Q
def RunDA (G : Gt) (tA : TA) (f : Loc → M (List D)) : Prop := ∀ (p : Fm) (σ : L2.St) (H : Hp) (ρ : Loc) (s : Pen) (Q : List V → Hp → Prop) (ds : List D) (s' : Pen), EnvOk G p H σ ρ → PenOk G p H s → f ρ s = .ok ds s' →
  (∀ vs H', Keep p H H' → PenOk G p H' s' → RepL G p H' ds vs → LfL (fun a => H a = none) H' ds vs → Q vs H') → tA σ H Q
def RunFD (G : Gt) (te : TE) (f : Loc → M (List D)) : Prop := ∀ (p : Fm) (σ : L2.St) (H : Hp) (ρ : Loc) (s : Pen) (Q : VK) (ds : List D) (s' : Pen), EnvOk G p H σ ρ → PenOk G p H s → f ρ s = .ok ds s' →
  (∀ H2 vs a, H a = none → Keep p H H2 → PenOk G (p.add a) H2 s' → RepL G (p.add a) H2 ds vs → H2 a = some (.lst vs) → LfL (fun a => H a = none) H2 ds vs → Q (.ref a) H2) → te σ H Q
section
variable {p : Fm} {F : Addr → Prop} {H H' : Hp} {s s' : Pen}
end
structure DP (G : Gt) (X : Cx) (W : WX) (e : Expr) (te : TE) (f : Loc → M D) : Prop where
  run : RunD G te f
structure DPA (G : Gt) (X : Cx) (W : WX) (es : List Expr) (tA : TA) (f : Loc → M (List D)) : Prop where
  run : RunDA G tA f
structure DFD (G : Gt) (X : Cx) (W : WX) (e : Expr) (te : TE) (f : Loc → M (List D)) : Prop where
  run : RunFD G te f
end
end Tw
namespace Tw
open PySem L2 PySem.Spec PyProof.Rows
section
variable {K : PySem.W.Frag} {G : Gt} {W : WX} {X : Cx} {a b e : Expr} {ta tb te : TE} {fa fb fe : Loc → M D} {pos : Pos}
end
end Tw
namespace Tw
open PySem L2 PySem.Spec PyProof.Rows
section
variable {K : PySem.W.Frag} {G : Gt} {W : WX} {X : Cx} {te t3 : TE} {f : Loc → M (List D)} {fe f3 : Loc → M D}
def brk (o : OutS) : OutS := match o with
  | .nx _ _ => .bad
  | o => o
end
end Tw
namespace Tw
open PySem L2 PySem.Spec PyProof.Rows
section
variable {K : PySem.W.Frag} {G : Gt} {W : WX} {X : Cx} {te : TE} {fe : Loc → M D}
end
end Tw
namespace Tw
open PySem L2 PySem.Spec PyProof.Rows
section
variable {K : PySem.W.Frag} {G : Gt} {W : WX} {X : Cx}
end
end Tw
namespace Tw
open PySem L2 PySem.Spec PyProof.Rows PySem.W
section
variable {prog : Program} {w : World} {A : Around} {E : Value → Shared → Prop} {s : Shared} {z TI TO i1 i2 l1 l2 S : Addr} {xs ys : Array Value} {i : Nat}
def ZSt (z TI TO i1 i2 l1 l2 S : Addr) (xs ys : Array Value) (h : Heap) (i : Nat) : Prop :=
  IsPair h TI (.ref i1) (.ref i2) ∧ h.IsListIter i1 l1 i ∧ h.IsListIter i2 l2 i ∧ h.IsList l1 xs ∧ h.IsList l2 ys ∧
    ((IsZip h z TI TO .none ∧ ∃ a b, IsPair h TO a b) ∨ ∃ T f oT, IsZipHeld h z TI TO T f ∧ h.get? T = some oT ∧ T ≠ z ∧ T ≠ i1 ∧ T ≠ i2 ∧ T ≠ S)
structure ZLow (z TI TO i1 i2 l1 l2 S : Addr) : Prop where
  z : z < S
  TI : TI < S
  TO : TO < S
  i1 : i1 < S
  i2 : i2 < S
  l1 : l1 < S
  l2 : l2 < S
theorem ZSt.keep {h h' : Heap} (x : ZSt z TI TO i1 i2 l1 l2 S xs ys h i) (o : ZLow z TI TO i1 i2 l1 l2 S) (hk : ∀ b u, b ≠ S → h.get? b = some u → h'.get? b = some u) : ZSt z TI TO i1 i2 l1 l2 S xs ys h' i := by
  obtain ⟨hTI, h1, h2, hl1, hl2, hz⟩ := x
  refine ⟨hk _ _ (Nat.ne_of_lt o.TI) hTI, h1.at fun u e => hk _ u (Nat.ne_of_lt o.i1) e, h2.at fun u e => hk _ u (Nat.ne_of_lt o.i2) e, hl1.at fun u e => hk _ u (Nat.ne_of_lt o.l1) e, hl2.at fun u e => hk _ u (Nat.ne_of_lt o.l2) e, ?_⟩
  rcases hz with ⟨hz, a, b, hTO⟩ | ⟨T, f, oT, hz, hT, r1, r2, r3, r4⟩
  · exact .inl ⟨hk _ _ (Nat.ne_of_lt o.z) hz, a, b, hk _ _ (Nat.ne_of_lt o.TO) hTO⟩
  · exact .inr ⟨T, f, oT, hk _ _ (Nat.ne_of_lt o.z) hz, hk _ _ r4 hT, r1, r2, r3, r4⟩
structure ZG (xs ys : Array Value) (lo : Addr) (h : Heap) (as : List Addr) : Prop where
  rise : as.Pairwise (· < ·)
  above : ∀ a ∈ as, lo < a
  pairs : ∀ (j : Nat) (a : Addr), as[j]? = some a → ∃ x y, xs[j]? = some x ∧ ys[j]? = some y ∧ IsPair h a x y
theorem ZG.there {lo : Addr} {h : Heap} {as : List Addr} (g : ZG xs ys lo h as) {a : Addr} (ha : a ∈ as) : a < h.objs.size := by
  obtain ⟨j, hj⟩ := List.mem_iff_getElem?.mp ha
  obtain ⟨_, _, _, _, e⟩ := g.pairs j a hj
  exact Heap.lt_size e
end
section
variable {X : Cx} {K : PySem.W.Frag} {G : Gt} {W : WX}
end
end Tw
namespace Tw
open PySem L2 PySem.Spec PyProof.Rows
section
variable {K : PySem.W.Frag} {G : Gt} {W : WX} {X : Cx} {o e : Expr} {to te : TE} {fo fe : Loc → M D} {apos cpos pos : Pos}
end
section
variable {K : PySem.W.Frag} {G : Gt} {W : WX} {X : Cx}
end
end Tw
namespace Tw
open PySem L2 PySem.Spec PyProof.Rows
section
variable {K : PySem.W.Frag} {G : Gt} {W : WX} {X : Cx} {o e : Expr} {to te : TE} {fo fe : Loc → M D} {pos apos cpos : Pos}
end
end Tw
namespace Tw
open PySem L2 PySem.Spec PyProof.Rows
section
variable {K : PySem.W.Frag} {G : Gt} {W : WX} {X : Cx}
end
section
variable {K : PySem.W.Frag} {G : Gt} {W : WX} {X : Cx} {E2 : L2.St → XK} {m : List D → M D} {tA : TA} {fA : Loc → M (List D)} {tk : TE} {fk : Loc → M D}
end
section
variable {K : PySem.W.Frag} {G : Gt} {W : WX} {X : Cx} {E2 : L2.St → XK} {m : List D → M D} {tA : TA} {fA : Loc → M (List D)} {tk : TE} {fk : Loc → M D}
end
end Tw
namespace Tw
open PySem L2 PySem.Spec PyProof.Rows
section
variable {K : PySem.W.Frag} {G : Gt} {W : WX} {X : Cx}
end
section
variable {K : PySem.W.Frag} {G : Gt} {W : WX} {X : Cx} {te t2 t4 : TE} {f : Loc → M (List D)} {f2 f4 : Loc → M D}
end
end Tw
namespace Tw
open PySem L2 PySem.Spec PyProof.Rows
section
variable {K : PySem.W.Frag} {G : Gt} {W : WX} {X : Cx} {te : TE} {fe : Loc → M D} {pos : Pos} {e : Expr}
end
section
variable {K : PySem.W.Frag} {G : Gt} {W : WX} {X : Cx} {te t2 t4 : TE} {f : Loc → M (List D)} {f2 f4 : Loc → M D}
end
end Tw
namespace Tw
open PySem L2 PySem.Spec PyProof.Rows
section
variable {K : PySem.W.Frag} {G : Gt} {W : WX} {X : Cx}
end
end Tw
namespace Tw
open PySem L2 PySem.Spec PyProof.Rows
section
variable {K : PySem.W.Frag} {G : Gt} {md : List D → M D} {n : Nat}
end
end Tw
namespace Tw
open PySem L2 PySem.Spec PyProof.Rows
section
variable {K : PySem.W.Frag} {G : Gt} {W : WX} {X : Cx}
end
section
variable {K : PySem.W.Frag} {G : Gt} {W : WX} {X : Cx} {E2 : L2.St → XK}
end
section
variable {K : PySem.W.Frag} {G : Gt} {W : WX} {X : Cx}
end
end Tw
namespace Tw
open PySem L2 PySem.Spec PyProof.Rows
section
variable {K : PySem.W.Frag} {G : Gt} {W : WX} {X : Cx}
section
variable {fam : List (Nat × (List D → M D))}
end
end
end Tw
namespace Tw
open PySem L2 PySem.Spec PyProof.Rows
section
variable {K : PySem.W.Frag} {G : Gt} {W : WX} {X : Cx}
variable {o i : Expr} {to ti : TE} {fo fi : Loc → M D} {pos : Pos}
end
section
variable {K : PySem.W.Frag} {G : Gt} {W : WX} {X : Cx}
end
end Tw
namespace Tw
open PySem L2 PySem.Spec PyProof.Rows
section
variable {K : PySem.W.Frag} {G : Gt} {W : WX} {X : Cx}
variable {a b c e o : Expr} {es : List Expr} {ta te to tv : TE} {fa fe fo fv : Loc → M D} {pos pos' apos : Pos} {tA : TA} {fA : Loc → M (List D)} {f m : Str}
def tMkX (C : Addr) (sp : Sp) (t : TA) : TE := fun σ H Q => t σ H fun vs H1 => vs.length ≤ 1000 ∧ ∀ a, H1 a = none → sp (.ref a :: vs) (upd H1 a (L2.exo a C none)) (fun v H2 => v = .non ∧ Q (.ref a) H2) (fun _ _ _ => False)
theorem pe_mkX {x : Str} {C fI : Addr} {k : Nat} {fd : FuncData} {ps : List Str} {sp : Sp} {p : Pos} {t : TA} (T : OexC X.K C) (iC : PySem.W.findIn X.K (.ref C) "__init__" = some (some (.ref fI))) (tI : PySem.W.typeIn X.K (.ref fI) = some (.type "function"))
    (F1 : FnOk X.prog X.w X.K X.mg X.base (L2.CX X.prog X.w) k fI fd ps sp) (hr : Room (k + 1) X.A) (hb : L2.Binds X.K fd ps []) (hg : Gl X x) (hm : X.mg x = some (.ref C)) (ha : PA X (e :: es) t)
    (hdb : (x == ("__debug__" : Str)) = false) (he : starEach (e :: es) X.env = (false, eval e X.env) :: starEach es X.env) (hpl : (backTo pos (starEach es X.env)).any (·.1) = false) :
    PE X (.Call (.Name x p) (e :: es) [] pos) (tMkX C sp t) := by
  refine ⟨fun pins s σ H Q I h => ?_⟩
  obtain ⟨nm, q, N, bs, bm, sn, sub, ab, col, dd, k0, k1, k2, k3, k5, hC, hbm⟩ := T.cls
  refine wpAny_Call_Name_kw (ld_glob I hg hm ?_ hdb)
  refine PySem.W.callWith_K (h₀ := X.base) I.ok.mod.kin T.kC (thn (ha.run pos pins s σ H _ I h) fun us s1 ⟨vs, H1, I1, r1, hz, q1⟩ => ⟨I1.kIn, ?_⟩) he hpl
  show wpAny _ _ (call (.ref C) us) _ _ _
  obtain ⟨hp, g, dr, tk, os⟩ := s1
  have hsz : hp.objs.size ≤ hp.objs.size + 1 := Nat.le_succ _
  have hn : H1 (hp.objs.size + 1) = none := I1.hok.fresh hsz
  have hq := q1 (hp.objs.size + 1) hn
  have kk : ∀ b o, hp.get? b = some o → ((hp.push (PySem.W.kdv_tup us)).push (PySem.HandSPX.excO C hp.objs.size)).get? b = some o := fun b o e => Heap.get?_push_of_some _ (Heap.get?_push_of_some _ e)
  have hget : ((hp.push (PySem.W.kdv_tup us)).push (PySem.HandSPX.excO C hp.objs.size)).get? (hp.objs.size + 1) = some (PySem.HandSPX.excO C hp.objs.size) := by heap_get
  have I2 : Inv X pins σ (upd H1 (hp.objs.size + 1) (L2.exo (hp.objs.size + 1) C none)) ⟨(hp.push (PySem.W.kdv_tup us)).push (PySem.HandSPX.excO C hp.objs.size), g, dr, tk, os⟩ :=
    I1.laid (t' := tk) (a := hp.objs.size + 1) (o := L2.exo (hp.objs.size + 1) C none) (h' := (hp.push (PySem.W.kdv_tup us)).push (PySem.HandSPX.excO C hp.objs.size)) kk hsz (exo_ok hget)
  have r2 : Vals (V.ref (hp.objs.size + 1) :: vs) (Value.ref (hp.objs.size + 1) :: us) := .cons rfl r1
  have hl : (Value.ref (hp.objs.size + 1) :: us).length = ps.length := by
    have e := r2.length
    rw [F1.len _ _ _ _ hq] at e
    exact e.symm
  have hus : us.length ≤ sizeLine := by
    rw [← Paired.length r1, sizeLine_eq]
    omega
  have hbb := hb ⟨(hp.push (PySem.W.kdv_tup us)).push (PySem.HandSPX.excO C hp.objs.size), g, dr, tk, os⟩ (Value.ref (hp.objs.size + 1) :: us) I2.kIn (by rw [List.append_nil]; exact hl)
  rw [List.append_nil] at hbb
  refine wpAny_call (PySem.HandSPX.call_own F.excBase_ValueError (fun Y => PySem.HandSPX.refsVE_contains Y bm hbm) (I1.kIn _ _ hC) (PySem.W.looks_findIn I1.kIn iC) (fun self => PySem.W.bind_fn I1.kIn self tI) hus
    (codeAny_mono (F1.run _ X.stack _ _ ⟨Value.ref (hp.objs.size + 1) :: us, []⟩ (Value.ref (hp.objs.size + 1) :: us) _ _ (fun _ _ _ => False) (hr.make C us []) (I2.env0.make C us []) hbb r2 hq) fun r s' hq' => ?_))
  cases r with
  | error er => exact passL pins σ _ _ er s' I2 hq'
  | ok fl =>
    cases fl with
    | ret u =>
      obtain ⟨v, H', I3, rv, ev, q3⟩ := I2.after hq'
      subst ev
      exact ⟨rv, ⟨V.ref (hp.objs.size + 1), H', I3, rfl, q3⟩⟩
    | next => exact False.elim hq'
    | brk => exact False.elim hq'
    | cont => exact False.elim hq'
def tMkX0 (C : Addr) : TE := fun _ H Q => ∀ a, H a = none → Q (.ref a) (upd H a (L2.exo a C none))
theorem pe_mkX0 {x : Str} {C fI : Addr} {fd : FuncData} {p0 : Pos} (T : OexC X.K C) (iC : PySem.W.findIn X.K (.ref C) "__init__" = some (some (.ref fI))) (tI : PySem.W.typeIn X.K (.ref fI) = some (.type "function"))
    (F1 : FnOk X.prog X.w X.K X.mg X.base (L2.CX X.prog X.w) 1 fI fd ["self"] spNo) (hr : Room 2 X.A) (hb : Binds X.K fd ["self"] []) (hg : Gl X x) (hm : X.mg x = some (.ref C)) (hdb : (x == ("__debug__" : Str)) = false) :
    PE X (.Call (.Name x p0) [] [] pos) (tMkX0 C) := by
  refine ⟨fun pins s σ H Q I h => ?_⟩
  obtain ⟨nm, q, N, bs, bm, sn, sub, ab, col, dd, k0, k1, k2, k3, k5, hC, hbm⟩ := T.cls
  refine wpAny_Call_Name_kw (ld_glob I hg hm (PySem.W.callWith_K0 I.kIn T.kC ?_) hdb)
  show wpAny _ _ (call (.ref C) []) _ _ _
  obtain ⟨hp, g, dr, tk, os⟩ := s
  have hsz : hp.objs.size ≤ hp.objs.size + 1 := Nat.le_succ _
  have hn : H (hp.objs.size + 1) = none := I.hok.fresh hsz
  have kk : ∀ b o, hp.get? b = some o → ((hp.push (PySem.W.kdv_tup [])).push (PySem.HandSPX.excO C hp.objs.size)).get? b = some o := fun b o e => Heap.get?_push_of_some _ (Heap.get?_push_of_some _ e)
  have hget : ((hp.push (PySem.W.kdv_tup [])).push (PySem.HandSPX.excO C hp.objs.size)).get? (hp.objs.size + 1) = some (PySem.HandSPX.excO C hp.objs.size) := by heap_get
  have I2 : Inv X pins σ (upd H (hp.objs.size + 1) (L2.exo (hp.objs.size + 1) C none)) ⟨(hp.push (PySem.W.kdv_tup [])).push (PySem.HandSPX.excO C hp.objs.size), g, dr, tk, os⟩ :=
    I.laid (t' := tk) (a := hp.objs.size + 1) (o := L2.exo (hp.objs.size + 1) C none) (h' := (hp.push (PySem.W.kdv_tup [])).push (PySem.HandSPX.excO C hp.objs.size)) kk hsz (exo_ok hget)
  have hq : spNo [V.ref (hp.objs.size + 1)] (upd H (hp.objs.size + 1) (L2.exo (hp.objs.size + 1) C none)) (fun v H2 => v = .non ∧ Q (.ref (hp.objs.size + 1)) H2) (fun _ _ _ => False) := ⟨_, rfl, rfl, h _ hn⟩
  have hbb := hb ⟨(hp.push (PySem.W.kdv_tup [])).push (PySem.HandSPX.excO C hp.objs.size), g, dr, tk, os⟩ [Value.ref (hp.objs.size + 1)] I2.kIn rfl
  rw [List.append_nil] at hbb
  refine wpAny_call (PySem.HandSPX.call_own F.excBase_ValueError (fun Y => PySem.HandSPX.refsVE_contains Y bm hbm) (I.kIn _ _ hC) (PySem.W.looks_findIn I.kIn iC) (fun self => PySem.W.bind_fn I.kIn self tI) (by show 0 ≤ sizeLine; exact Nat.zero_le _)
    (codeAny_mono (F1.run _ X.stack _ _ ⟨[Value.ref (hp.objs.size + 1)], []⟩ [Value.ref (hp.objs.size + 1)] [V.ref (hp.objs.size + 1)] _ (fun _ _ _ => False) (hr.make C [] []) (I2.env0.make C [] []) hbb (.cons rfl .nil) hq) fun r s' hq' => ?_))
  cases r with
  | error er => exact passL pins σ _ _ er s' I2 hq'
  | ok fl =>
    cases fl with
    | ret u =>
      obtain ⟨v, H', I3, rv, ev, q3⟩ := I2.after hq'
      subst ev
      exact ⟨rv, ⟨V.ref (hp.objs.size + 1), H', I3, rfl, q3⟩⟩
    | next => exact False.elim hq'
    | brk => exact False.elim hq'
    | cont => exact False.elim hq'
def tMkXK (C : Addr) (sp : Sp) (m : Nat) (ix : List Nat) (tk : TA) : TE := fun σ H Q => tk σ H fun zs H1 => zs.length = m ∧ ∀ a, H1 a = none → sp (.ref a :: permL ix zs) (upd H1 a (L2.exo a C none)) (fun v H2 => v = .non ∧ Q (.ref a) H2) (fun _ _ _ => False)
theorem pe_mkXK {x : Str} {C fI : Addr} {k : Nat} {fd : FuncData} {ps ks : List Str} {ix : List Nat} {sp : Sp} {p : Pos} {tk : TA} {kws : List Keyword} (T : OexC X.K C) (iC : PySem.W.findIn X.K (.ref C) "__init__" = some (some (.ref fI))) (tI : PySem.W.typeIn X.K (.ref fI) = some (.type "function"))
    (F1 : FnOk X.prog X.w X.K X.mg X.base (L2.CX X.prog X.w) k fI fd ps sp) (hr : Room (k + 1) X.A) (hb : KB X.K fd ps 1 ks ix) (hg : Gl X x) (hm : X.mg x = some (.ref C)) (hkw : PK X kws tk)
    (hall : (backToKw pos (keywordEach kws X.env)).all (·.1.isSome) = true) (hks : (backToKw pos (keywordEach kws X.env)).filterMap (·.1) = ks) (hdb : (x == ("__debug__" : Str)) = false)
    (hpl : ((backTo pos (starEach [] X.env)).any (·.1) || (backToKw pos (keywordEach kws X.env)).any (·.1.isNone)) = false) :
    PE X (.Call (.Name x p) [] kws pos) (tMkXK C sp ks.length ix tk) := by
  refine ⟨fun pins s σ H Q I h => ?_⟩
  obtain ⟨nm, q, N, bs, bm, sn, sub, ab, col, dd, k0, k1, k2, k3, k5, hC, hbm⟩ := T.cls
  refine wpAny_Call_Name_kw (ld_glob I hg hm ?_ hdb)
  refine PySem.W.callWith_KW0 (h₀ := X.base) I.ok.mod.kin T.kC hall (thn (hkw.run pos pins s σ H _ I h) fun ws s1 ⟨zs, H1, I1, rz, l2, q1⟩ => ⟨I1.kIn, ?_⟩) hpl
  rw [hks]
  obtain ⟨hp, g, dr, tk, os⟩ := s1
  have hsz : hp.objs.size ≤ hp.objs.size + 1 := Nat.le_succ _
  have hn : H1 (hp.objs.size + 1) = none := I1.hok.fresh hsz
  have hq := q1 (hp.objs.size + 1) hn
  have kk : ∀ b o, hp.get? b = some o → ((hp.push (PySem.W.kdv_tup [])).push (PySem.HandSPX.excO C hp.objs.size)).get? b = some o := fun b o e => Heap.get?_push_of_some _ (Heap.get?_push_of_some _ e)
  have hget : ((hp.push (PySem.W.kdv_tup [])).push (PySem.HandSPX.excO C hp.objs.size)).get? (hp.objs.size + 1) = some (PySem.HandSPX.excO C hp.objs.size) := by heap_get
  have I2 : Inv X pins σ (upd H1 (hp.objs.size + 1) (L2.exo (hp.objs.size + 1) C none)) ⟨(hp.push (PySem.W.kdv_tup [])).push (PySem.HandSPX.excO C hp.objs.size), g, dr, tk, os⟩ :=
    I1.laid (t' := tk) (a := hp.objs.size + 1) (o := L2.exo (hp.objs.size + 1) C none) (h' := (hp.push (PySem.W.kdv_tup [])).push (PySem.HandSPX.excO C hp.objs.size)) kk hsz (exo_ok hget)
  have rself : Vals [V.ref (hp.objs.size + 1)] [Value.ref (hp.objs.size + 1)] := .cons rfl .nil
  have rall := hb.rel rself rz
  have bind := hb.to ⟨(hp.push (PySem.W.kdv_tup [])).push (PySem.HandSPX.excO C hp.objs.size), g, dr, tk, os⟩ [Value.ref (hp.objs.size + 1)] ws I2.kIn rfl (rz.length.symm.trans l2)
  refine wpAny_call (PySem.HandSPX.call_ownK F.excBase_ValueError (fun Y => PySem.HandSPX.refsVE_contains Y bm hbm) (I1.kIn _ _ hC) (PySem.W.looks_findIn I1.kIn iC) (fun self => PySem.W.bind_fn I1.kIn self tI) (by show 0 ≤ sizeLine; exact Nat.zero_le _)
    (codeAny_mono (F1.run _ X.stack _ _ ⟨[Value.ref (hp.objs.size + 1)], ks.zip ws⟩ _ _ _ (fun _ _ _ => False) (hr.make C [] (ks.zip ws)) (I2.env0.make C [] (ks.zip ws)) bind rall hq) fun r s' hq' => ?_))
  cases r with
  | error er => exact passL pins σ _ _ er s' I2 hq'
  | ok fl =>
    cases fl with
    | ret u =>
      obtain ⟨v, H', I3, rv, ev, q3⟩ := I2.after hq'
      subst ev
      exact ⟨rv, ⟨V.ref (hp.objs.size + 1), H', I3, rfl, q3⟩⟩
    | next => exact False.elim hq'
    | brk => exact False.elim hq'
    | cont => exact False.elim hq'
theorem Fun.kbindsX {x qual : Str} {st : Stmt} {f : Addr} {fd : FuncData} {ps : List Str} (F : Fun K x qual st f fd) (n : Nat) (ks : List Str) (ix : List Nat)
    (h : ∀ (kV doc pm : Value) (an : Option Addr) (cdv ct : Value) (us ws : List Value), us.length = n → ws.length = ks.length → bindArgs (PySem.W.fnOf x qual (defArgs st) (defBody st) (defScope st) .none kV doc pm an cdv ct) ⟨us, ks.zip ws⟩ = pure (ps.zip (us ++ permL ix ws))) : KB K fd ps n ks ix := by
  obtain ⟨oc, od, kV, doc, pm, an, cdv, ct, osl, rfl, lk, hcd⟩ := F.ex
  refine ⟨fun s us ws X l1 l2 => ?_, fun r1 r2 => r1.append (permL_vals r2 ix)⟩
  refine BindsTo.of_looks fun M => ?_
  rw [h kV doc pm an cdv ct us ws l1 l2]
  exact .of_pure rfl
def kExo (c : Nat) (ns : List Str) (fA : Loc → M (List D)) : Loc → M D := fun ρ => mbind (fA ρ) fun ds => if decide (ds.length = ns.length) = true then mret (.exo c ns ds) else mbad
def kExoK (c : Nat) (ns : List Str) (ix : List Nat) (fK : Loc → M (List D)) : Loc → M D := fun ρ => mbind (fK ρ) fun ds => if decide (ds.length = ns.length) = true then mret (.exo c ns (permL ix ds)) else mbad
theorem x_exo0 {cn : Nat} {x : Str} {fI : Addr} {stI : Stmt} {qual : Str} {fd : FuncData} {p0 pos' ppos : Pos} (E : Err0 X.K X.mg x (G.cls cn) fI stI qual fd) (S : FnScope ["self"] ["self"] (defScope stI)) (hb : defBody stI = [.Pass ppos]) (hr : Room 2 X.A) (hg : Gl X x := by rfl) (hdb : (x == ("__debug__" : Str)) = false := by decide) :
    DE G X W (.Call (.Name x p0) [] [] pos') (tMkX0 (G.cls cn)) (kExo cn [] aNil) := by
  refine ⟨pe_mkX0 E.ox E.fi E.ti (ok_noinit E.fn S hb) hr E.bd hg E.m hdb, fun p σ H ρ s Q e pk fin => ?_⟩
  have fin1 : FinG G W (RelE G) p σ H Q (.ok (.exo cn [] []) s) := fin
  exact fun a ha => fin1 (.ref a) _ (Keep.new ha) (pk.new ha) ⟨a, none, [], rfl, pk.free ha, upd_same, rfl, .inl ⟨rfl, rfl⟩⟩
theorem exo_one {p : Fm} {H1 : Hp} {s : Pen} {σ : L2.St} {Q : VK} {cn : Nat} {d : D} {v : V} (pk : PenOk G p H1 s) (rv : Rep G p H1 d v) (fin : FinG G W (RelE G) p σ H1 Q (.ok (.exo cn [f] [d]) s)) :
    [v].length ≤ 1000 ∧ ∀ a, H1 a = none → spX1 (G.cls cn) f [.ref a, v] (upd H1 a (L2.exo a (G.cls cn) none)) (fun v H2 => v = .non ∧ Q (.ref a) H2) (fun _ _ _ => False) := by
  refine ⟨by simp, fun a hna => ⟨a, v, rfl, upd_same, fun dx hdx hne => ⟨rfl, ?_⟩⟩⟩
  have hd1 : H1 dx = none := by rw [upd_ne hne] at hdx; exact hdx
  have hk : ∀ b o, H1 b = some o → upd (upd (upd H1 a (L2.exo a (G.cls cn) none)) dx (exd dx [(f, v)])) a (L2.exo a (G.cls cn) (some dx)) b = some o := fun b o e => by
    rw [upd_ne (ne_of_none e hna), upd_ne (ne_of_none e hd1), upd_ne (ne_of_none e hna)]; exact e
  have kp : Keep p H1 (upd (upd (upd H1 a (L2.exo a (G.cls cn) none)) dx (exd dx [(f, v)])) a (L2.exo a (G.cls cn) (some dx))) := fun b o _ h => hk b o h
  refine fin (.ref a) _ kp (pk.mono hk) ⟨a, some dx, [v], rfl, pk.free hna, upd_same, ⟨v, [], rfl, rep_keep pk.at kp _ _ rv, rfl⟩, .inr ⟨dx, [(f, v)], by simp, rfl, pk.free hd1, by rw [upd_ne hne, upd_same], fun i f' v' h1 h2 => ?_⟩⟩
  match i, h1, h2 with
  | 0, h1, h2 =>
    cases h1; cases h2
    simp [List.lookup]
theorem exo_two {f' : Str} {p : Fm} {H1 : Hp} {s : Pen} {σ : L2.St} {Q : VK} {cn : Nat} {d d' : D} {v u : V} (hff : f ≠ f') (pk : PenOk G p H1 s) (rv : Rep G p H1 d v) (ru : Rep G p H1 d' u) (fin : FinG G W (RelE G) p σ H1 Q (.ok (.exo cn [f, f'] [d, d']) s)) :
    [v, u].length ≤ 1000 ∧ ∀ a, H1 a = none → spX2 (G.cls cn) f f' [.ref a, v, u] (upd H1 a (L2.exo a (G.cls cn) none)) (fun v H2 => v = .non ∧ Q (.ref a) H2) (fun _ _ _ => False) := by
  refine ⟨by simp, fun a hna => ⟨a, v, u, rfl, upd_same, fun dx hdx hne => ⟨rfl, ?_⟩⟩⟩
  have hd1 : H1 dx = none := by rw [upd_ne hne] at hdx; exact hdx
  have hk : ∀ b o, H1 b = some o → upd (upd (upd (upd H1 a (L2.exo a (G.cls cn) none)) dx (exd dx [(f, v)])) a (L2.exo a (G.cls cn) (some dx))) dx (exd dx [(f', u), (f, v)]) b = some o := fun b o e => by
    rw [upd_ne (ne_of_none e hd1), upd_ne (ne_of_none e hna), upd_ne (ne_of_none e hd1), upd_ne (ne_of_none e hna)]; exact e
  have kp : Keep p H1 (upd (upd (upd (upd H1 a (L2.exo a (G.cls cn) none)) dx (exd dx [(f, v)])) a (L2.exo a (G.cls cn) (some dx))) dx (exd dx [(f', u), (f, v)])) := fun b o _ h => hk b o h
  refine fin (.ref a) _ kp (pk.mono hk) ⟨a, some dx, [v, u], rfl, pk.free hna, by rw [upd_ne (Ne.symm hne), upd_same], ⟨v, [u], rfl, rep_keep pk.at kp _ _ rv, u, [], rfl, rep_keep pk.at kp _ _ ru, rfl⟩, .inr ⟨dx, [(f', u), (f, v)], by simp, rfl, pk.free hd1, upd_same, fun i g' v' h1 h2 => ?_⟩⟩
  match i, h1, h2 with
  | 0, h1, h2 =>
    cases h1; cases h2
    have : (f == f') = false := by simpa using hff
    simp [List.lookup, this]
  | 1, h1, h2 =>
    cases h1; cases h2
    simp [List.lookup]
theorem x_exo1 {cn : Nat} {x : Str} {fI : Addr} {stI : Stmt} {qual : Str} {fd : FuncData} {pn : Str} {p0 : Pos} (E : ErrN X.K X.mg x (G.cls cn) fI stI qual fd ["self", pn])
    (F : FnOk X.prog X.w X.K X.mg X.base (L2.CX X.prog X.w) 1 fI fd ["self", pn] (spX1 (G.cls cn) f)) (hr : Room 2 X.A) (ha : DA G X W [e] tA fA) (hg : Gl X x := by rfl) (hdb : (x == ("__debug__" : Str)) = false := by decide) (he : starEach [e] X.env = [(false, eval e X.env)] := by rfl) (hpl : (backTo pos' (starEach [] X.env)).any (·.1) = false := by rfl) :
    DE G X W (.Call (.Name x p0) [e] [] pos') (tMkX (G.cls cn) (spX1 (G.cls cn) f) tA) (kExo cn [f] fA) := by
  refine ⟨pe_mkX E.ox E.fi E.ti F hr E.bd hg E.m ha.pa hdb he hpl, fun p σ H ρ s Q en pk fin => ?_⟩
  refine ha.run p σ H ρ s _ en pk (FinG.step (RA := RelA G) fin fun ds s1 vs H1 k1 pk1 rs fin1 => ?_)
  by_cases hdn : ¬ ds.length = [f].length
  · rw [if_neg (by simpa using hdn)] at fin1
    exact False.elim fin1
  have hds0 : ds.length = [f].length := Decidable.not_not.mp hdn
  rw [if_pos (decide_eq_true hds0)] at fin1
  match ds, hds0, rs, fin1 with
  | [d0], _, rs, fin1 =>
    obtain ⟨v, _, rfl, rv, hz⟩ := rs
    obtain rfl := hz
    exact exo_one pk1 rv fin1
theorem x_exo2 {cn : Nat} {x : Str} {fI : Addr} {stI : Stmt} {qual : Str} {fd : FuncData} {f' pn pn' : Str} {p0 : Pos} {e2 : Expr} (E : ErrN X.K X.mg x (G.cls cn) fI stI qual fd ["self", pn, pn'])
    (F : FnOk X.prog X.w X.K X.mg X.base (L2.CX X.prog X.w) 1 fI fd ["self", pn, pn'] (spX2 (G.cls cn) f f')) (hr : Room 2 X.A) (ha : DA G X W [e, e2] tA fA) (hff : f ≠ f') (hg : Gl X x := by rfl) (hdb : (x == ("__debug__" : Str)) = false := by decide) (he : starEach [e, e2] X.env = (false, eval e X.env) :: starEach [e2] X.env := by rfl) (hpl : (backTo pos' (starEach [e2] X.env)).any (·.1) = false := by rfl) :
    DE G X W (.Call (.Name x p0) [e, e2] [] pos') (tMkX (G.cls cn) (spX2 (G.cls cn) f f') tA) (kExo cn [f, f'] fA) := by
  refine ⟨pe_mkX E.ox E.fi E.ti F hr E.bd hg E.m ha.pa hdb he hpl, fun p σ H ρ s Q en pk fin => ?_⟩
  refine ha.run p σ H ρ s _ en pk (FinG.step (RA := RelA G) fin fun ds s1 vs H1 k1 pk1 rs fin1 => ?_)
  by_cases hdn : ¬ ds.length = [f, f'].length
  · rw [if_neg (by simpa using hdn)] at fin1
    exact False.elim fin1
  have hds0 : ds.length = [f, f'].length := Decidable.not_not.mp hdn
  rw [if_pos (decide_eq_true hds0)] at fin1
  match ds, hds0, rs, fin1 with
  | [d0, d1], _, rs, fin1 =>
    obtain ⟨v, _, rfl, rv, u, _, rfl, ru, hz⟩ := rs
    obtain rfl := hz
    exact exo_two hff pk1 rv ru fin1
theorem x_exoK2 {cn : Nat} {x : Str} {fI : Addr} {stI : Stmt} {qual : Str} {fd : FuncData} {f' pn pn' : Str} {p0 : Pos} {kws : List Keyword} {tk : TA} {fK : Loc → M (List D)} {ks : List Str} {ix : List Nat} (E : ErrN X.K X.mg x (G.cls cn) fI stI qual fd ["self", pn, pn'])
    (F : FnOk X.prog X.w X.K X.mg X.base (L2.CX X.prog X.w) 1 fI fd ["self", pn, pn'] (spX2 (G.cls cn) f f')) (hr : Room 2 X.A) (hb : KB X.K fd ["self", pn, pn'] 1 ks ix) (hkw : DK G X W kws tk fK) (hff : f ≠ f') (hks2 : ks.length = 2) (hix : ix = [0, 1] ∨ ix = [1, 0]) (hg : Gl X x := by rfl)
    (hall : (backToKw pos' (keywordEach kws X.env)).all (·.1.isSome) = true := by rfl) (hks : (backToKw pos' (keywordEach kws X.env)).filterMap (·.1) = ks := by rfl) (hdb : (x == ("__debug__" : Str)) = false := by decide)
    (hpl : ((backTo pos' (starEach [] X.env)).any (·.1) || (backToKw pos' (keywordEach kws X.env)).any (·.1.isNone)) = false := by rfl) :
    DE G X W (.Call (.Name x p0) [] kws pos') (tMkXK (G.cls cn) (spX2 (G.cls cn) f f') ks.length ix tk) (kExoK cn [f, f'] ix fK) := by
  refine ⟨pe_mkXK E.ox E.fi E.ti F hr hb hg E.m hkw.pk hall hks hdb hpl, fun p σ H ρ s Q en pk fin => ?_⟩
  refine hkw.run p σ H ρ s _ en pk (FinG.step (RA := RelA G) fin fun ds s1 vs H1 k1 pk1 rs fin1 => ?_)
  by_cases hdn : ¬ ds.length = [f, f'].length
  · rw [if_neg (by simpa using hdn)] at fin1
    exact False.elim fin1
  have hds0 : ds.length = [f, f'].length := Decidable.not_not.mp hdn
  rw [if_pos (decide_eq_true hds0)] at fin1
  match ds, hds0, rs, fin1 with
  | [d0, d1], _, rs, fin1 =>
    obtain ⟨v, _, rfl, rv, u, _, rfl, ru, hz⟩ := rs
    obtain rfl := hz
    refine ⟨hks2.symm, ?_⟩
    rcases hix with rfl | rfl
    · exact (exo_two hff pk1 rv ru fin1).2
    · exact (exo_two hff pk1 ru rv fin1).2
def tXfo (K : PySem.W.Frag) (n : Str) (te : TE) : TE := fun σ H Q => te σ H fun x H1 => ∃ (a C dd : Addr) (fs : List (Str × V)) (v : V), x = .ref a ∧ XfC K C ∧ PySem.W.findIn K (.ref C) n = some none ∧ H1 a = some (L2.exo a C (some dd)) ∧ H1 dd = some (exd dd fs) ∧ fs.lookup n = some v ∧ Q v H1
theorem pe_xfo {n : Str} (he : PE X e te) (hb : attributeBase e n X.env (eval e X.env) = eval e X.env) : PE X (.Attribute e n pos) (tXfo X.K n te) := by
  refine ⟨fun pins s σ H Q I h => ?_⟩
  refine attr_of hb (thn (he.run pins s σ H _ I h) fun u s1 hh => ?_)
  obtain ⟨x, H1, I1, rx, a, C, dd, fs, v, ex, T, hno, ea, ed, l, q⟩ := hh
  subst ex
  obtain rfl : u = Value.ref a := rx
  obtain ⟨t1, hoe⟩ := exo_at I1.hok ea
  obtain ⟨mA, hns, hr⟩ := exd_at I1.hok ed
  obtain ⟨od, ho, hl⟩ := lookIn_ns hns
  obtain ⟨u, hu, ru⟩ := RelO.some_of (v := v) (o := mA n) (by rw [← l]; exact hr n)
  have J : PySem.W.InstAt s1.heap a _ C (some od) := ⟨hoe, rfl, rfl, ho⟩
  exact HandSPX.exc_get I1.kIn J T.ga T.gg T.exC (PySem.W.findObj_own T.hdC hno rfl (by rw [hl, hu])) (handed_of ru) ⟨v, H1, I1.tok _, ru, q⟩
def fldX (cx : Nat → Bool) (n : Str) : D → M D := fun d s => match d with
  | .exo c ns xs => if cx c = true then (match fldOf ns xs n with
    | some x => .ok x s
    | none => .bad) else .bad
  | _ => .bad
def kXfo (cx : Nat → Bool) (n : Str) (fa : Loc → M D) : Loc → M D := fun ρ => mbind (fa ρ) (fldX cx n)
def XfOk (G : Gt) (K : PySem.W.Frag) (n : Str) (cx : Nat → Bool) : Prop := ∀ c, cx c = true → XfC K (G.cls c) ∧ PySem.W.findIn K (.ref (G.cls c)) n = some none
theorem x_xfo {cx : Nat → Bool} {n : Str} (hc : XfOk G X.K n cx) (ha : DE G X W a ta fa) (hb : attributeBase a n X.env (eval a X.env) = eval a X.env := by rfl) : DE G X W (.Attribute a n pos) (tXfo X.K n ta) (kXfo cx n fa) := by
  refine ⟨pe_xfo ha.pe hb, fun p σ H ρ s Q en pk fin => ?_⟩
  refine ha.run p σ H ρ s _ en pk (FinG.step (RA := RelE G) fin fun d s1 v H1 k1 pk1 rd fin1 => ?_)
  unfold fldX at fin1
  cases d <;> try (exact False.elim fin1)
  rename_i c ns xs
  dsimp only at fin1
  by_cases hn : cx c = true
  · rw [if_pos hn] at fin1
    cases q : fldOf ns xs n with
    | none => rw [q] at fin1; exact False.elim fin1
    | some x =>
      rw [q] at fin1
      obtain ⟨i, h1, h2⟩ := fldOf_ix q
      obtain ⟨a2, d2, us, rfl, q0, q1, rs, q2⟩ := id rd
      rcases q2 with ⟨e0, _⟩ | ⟨b', gs, _, rfl, _, hb', hg⟩
      · subst e0; cases i <;> cases h1
      · obtain ⟨w, hw, rw'⟩ := repL_get rs h2
        exact ⟨a2, _, b', gs, w, rfl, (hc c hn).1, (hc c hn).2, q1, hb', hg i n w h1 hw, fin1 _ H1 Keep.refl pk1 rw'⟩
  · rw [if_neg hn] at fin1; exact False.elim fin1
def rIsV (K : PySem.W.Frag) : List V → Hp → VK → Prop := fun xs H Q => ∃ (a C : Addr) (dd : Option Addr) (c : V) (cv : Value) (b : Bool), xs = [.ref a, c] ∧ ExcC K C ∧ H a = some (L2.exo a C dd) ∧ (∀ d, dd = some d → ∃ fs, H d = some (exd d fs)) ∧ (∀ u, RelV c u → u = cv) ∧ PySem.W.kitOne K (.ref C) cv = some b ∧ Q (.bl b) H
theorem call_isV : CallR X (.builtin "isinstance") (rIsV X.K) := by
  intro pins s σ H xs us Q I r h
  obtain ⟨a, D, dd, c, cv, b, rfl, C, ea, ed, hcv, e, q⟩ := h
  cases r with
  | cons rx rr =>
    cases rr with
    | cons rt rr =>
      cases rr
      cases rx
      have ec := hcv _ rt
      subst ec
      obtain ⟨t1, hoe⟩ := exo_at I.hok ea
      have J : ∃ od, PySem.W.InstAt s.heap a ({ cls := .ref D, dict := dd, data := .fields #[.ref t1, .none, .none, .none, .bool false, .none] } : Obj) D od := by
        cases dd with
        | none => exact ⟨none, hoe, rfl, rfl, trivial⟩
        | some d =>
          obtain ⟨fs, ef⟩ := ed d rfl
          obtain ⟨mA, hns, hr⟩ := exd_at I.hok ef
          obtain ⟨od, ho, hl⟩ := lookIn_ns hns
          exact ⟨some od, hoe, rfl, rfl, ho⟩
      obtain ⟨od, J⟩ := J
      exact PySem.W.kia_one (PySem.W.kitX_exo C.hg C.hk C.hs C.hd C.ha C.hn C.ht C.hm) I.kIn J e (fun z => nomatch z) fun tk => ⟨.bl b, H, I.kept (t' := tk) fun _ _ z => z, rfl, q⟩
structure XcA (G : Gt) (K : PySem.W.Frag) (N base : Nat) : Prop where
  nd : ((List.range N).map G.cls).Nodup
  mro : ∀ c, c < N → mroL K (G.cls c) = some ((if c = base then [Value.ref (G.cls base)] else [.ref (G.cls c), .ref (G.cls base)]) ++ [.type "ValueError", .type "Exception", .type "BaseException", .type "object"])
  ty : ∀ c, c < N → PySem.W.typeIn K (.ref (G.cls c)) = some (.type "type")
  ex : ∀ c, c < N → ExcC K (G.cls c)
theorem XcA.inj {N base : Nat} (A : XcA G K N base) {c n : Nat} (hc : c < N) (hn : n < N) (h : G.cls c = G.cls n) : c = n := by
  have z := List.pairwise_iff_getElem.mp A.nd
  have g : ∀ k (hk : k < ((List.range N).map G.cls).length), ((List.range N).map G.cls)[k] = G.cls k := fun k hk => by simp
  rcases Nat.lt_trichotomy c n with q | q | q
  · have := z c n (by simpa using hc) (by simpa using hn) q
    rw [g, g] at this
    exact absurd h this
  · exact q
  · have := z n c (by simpa using hn) (by simpa using hc) q
    rw [g, g] at this
    exact absurd h.symm this
theorem XcA.sub {N base : Nat} (A : XcA G K N base) (hb : base < N) {c n : Nat} (hc : c < N) (hn : n < N) : PySem.W.subIn K (.ref (G.cls c)) (.ref (G.cls n)) = some (decide (n = c) || decide (n = base)) := by
  obtain ⟨cd, e1, e2⟩ := Option.map_eq_some_iff.mp (A.mro c hc)
  show PySem.W.mroIn K (G.cls c) (.ref (G.cls n)) = _
  unfold PySem.W.mroIn
  rw [e1, Option.bind_some, e2]
  have i1 : (Value.ref (G.cls n) == Value.ref (G.cls c)) = decide (n = c) := by
    by_cases q : n = c
    · rw [q, decide_eq_true rfl]; exact beq_self_eq_true _
    · rw [decide_eq_false q]
      exact Bool.eq_false_iff.mpr fun z => q (A.inj hn hc (Value.ref.inj (beq_iff_eq.mp z)))
  have i2 : (Value.ref (G.cls n) == Value.ref (G.cls base)) = decide (n = base) := by
    by_cases q : n = base
    · rw [q, decide_eq_true rfl]; exact beq_self_eq_true _
    · rw [decide_eq_false q]
      exact Bool.eq_false_iff.mpr fun z => q (A.inj hn hb (Value.ref.inj (beq_iff_eq.mp z)))
  have t4 : ([.type "ValueError", .type "Exception", .type "BaseException", .type "object"] : List Value).contains (.ref (G.cls n)) = false := rfl
  by_cases q : c = base
  · rw [if_pos q]
    show some (List.contains (Value.ref (G.cls base) :: [.type "ValueError", .type "Exception", .type "BaseException", .type "object"]) _) = _
    rw [List.contains_cons, i2, t4, Bool.or_false]
    rw [q]
    cases decide (n = base) <;> rfl
  · rw [if_neg q]
    show some (List.contains (Value.ref (G.cls c) :: Value.ref (G.cls base) :: [.type "ValueError", .type "Exception", .type "BaseException", .type "object"]) _) = _
    rw [List.contains_cons, List.contains_cons, i1, i2, t4, Bool.or_false]
theorem XcA.subV {N base : Nat} (A : XcA G K N base) {c : Nat} (hc : c < N) : PySem.W.subIn K (.ref (G.cls c)) (.type "ValueError") = some true := by
  obtain ⟨cd, e1, e2⟩ := Option.map_eq_some_iff.mp (A.mro c hc)
  show PySem.W.mroIn K (G.cls c) (.type "ValueError") = _
  unfold PySem.W.mroIn
  rw [e1, Option.bind_some, e2]
  by_cases q : c = base
  · rw [if_pos q]; rfl
  · rw [if_neg q]; rfl
def isV (N base : Nat) (ds : List D) : M D := match ds with
  | [.exo c _ _, .cls n] => if (decide (c < N) && decide (n < N)) = true then mret (.bl (decide (n = c) || decide (n = base))) else mbad
  | [.exo c _ _, .ty T] => if (decide (c < N) && decide (T = "ValueError")) = true then mret (.bl true) else mbad
  | _ => mbad
theorem prim_isV {N base : Nat} (hb : base < N) (A : XcA G K N base) : PrimL G (rIsV K) (isV N base) := by
  intro W p σ H s xs vs Q pk rs fin
  unfold isV at fin
  split at fin
  · rename_i c ns xs n
    split at fin
    · rename_i hx
      rw [Bool.and_eq_true, decide_eq_true_eq, decide_eq_true_eq] at hx
      obtain ⟨v, _, rfl, ⟨a, dd, us, rfl, q0, q1, rs', q2⟩, v2, _, rfl, r2, hz⟩ := rs
      obtain rfl := hz
      obtain rfl : v2 = .ref (G.cls n) := r2
      refine ⟨a, G.cls c, dd, .ref (G.cls n), .ref (G.cls n), _, rfl, A.ex c hx.1, q1, fun d hd => ?_, fun u r => r, ?_, fin _ H Keep.refl pk rfl⟩
      · rcases q2 with ⟨_, z⟩ | ⟨b, gs, _, e1, _, e3, _⟩
        · rw [z] at hd; cases hd
        · rw [e1] at hd; cases hd; exact ⟨gs, e3⟩
      · by_cases q : n = c
        · subst q
          rw [decide_eq_true rfl]
          exact kit_self
        · exact kit_own (A.ex n hx.2).hd (A.ty n hx.2) (A.sub hb hx.1 hx.2) fun z => q (A.inj hx.2 hx.1 (Value.ref.inj z).symm)
    · exact False.elim fin
  · rename_i c ns xs T
    split at fin
    · rename_i hx
      rw [Bool.and_eq_true, decide_eq_true_eq, decide_eq_true_eq] at hx
      obtain ⟨v, _, rfl, ⟨a, dd, us, rfl, q0, q1, rs', q2⟩, v2, _, rfl, r2, hz⟩ := rs
      obtain rfl := hz
      obtain rfl : v2 = .ty T := r2
      obtain ⟨hx1, rfl⟩ := hx
      refine ⟨a, G.cls c, dd, .ty "ValueError", .type "ValueError", _, rfl, A.ex c hx1, q1, fun d hd => ?_, fun u r => r, kit_bt (by decide +kernel) (A.subV hx1), fin _ H Keep.refl pk rfl⟩
      rcases q2 with ⟨_, z⟩ | ⟨b, gs, _, e1, _, e3, _⟩
      · rw [z] at hd; cases hd
      · rw [e1] at hd; cases hd; exact ⟨gs, e3⟩
    · exact False.elim fin
  · exact False.elim fin
end
end Tw
namespace Tw
open PySem L2
theorem walk_ofEG {l : PySem.W.OpenLaw} {n k : Nat} {q : Program} {loose : List Str} {XP : (Str → Option Value) → Heap → Prop} {YP : World → Heap → Prop} {d : DefRec} {CX : World → CXT} {x : Str}
    (hn : l.most = some n) (hn2 : n ≤ sizeLine) (hdf : d.params.defaults = []) (hr : Room k callerA)
    (F : ∀ (w : World) (mg : Str → Option Value) (fa : Addr) (h : Heap), YP w h → h.Ns mainGlobals mg → mg d.name = some (.ref fa) →
      ∃ (K : PySem.W.Frag) (fd : FuncData) (sp : Sp), K.In h ∧ (∀ (s : Shared) (u : Value), BindsTo s fd ⟨[u], []⟩ [(x, u)]) ∧
        (∀ (H : Hp) (a : Addr) (ns : List Int), ns.length ≤ n → Only H → SqL K H a (ns.map V.int) → sp [.ref a] H (fun v _ => v = .bl true) fun _ _ _ => False) ∧
        ∀ base : Heap, K.In base → base.Ns mainGlobals mg → FnG l.prog w K mg base (CX w) k fa fd [x] sp)
    (hCX : ∀ (w : World) (H : Hp) (s : Shared) (e : Value) (s' : Shared), CX w [] H s (fun _ _ _ => False) e s' → False) :
    PySem.W.WalkO q loose XP YP l.row.toRowW d [] (fun f vs => PySem.call f vs) := by
  refine Att.attach_call hn hdf fun w s₀ s₁ mg mb fa o pm cd doc a vs ns gr Y ho hd hcd hmg hobj hints hlen hg => ?_
  obtain ⟨K, fd, sp, KX, hb, hsp, hF⟩ := F w mg fa _ Y gr.T.g hmg
  exact law_callG KX gr.T.g gr.T.b gr.T.builtins gr.T.nolimit hg hobj hints (Nat.le_trans hlen hn2) hr hF hb (fun H hO hS => hsp H a ns hlen hO hS) fun H e s' => hCX w H s₁ e s'
end Tw
namespace K00
open PySem L2 PySem.Spec PyProof.Rows Tw
theorem sc__law_take : FnScope ["_law_pen_here", "_law_many", "_law_cell", "_law_digit"] ["_law_pen_here", "_law_many"] (defScope s__law_take) := ⟨rfl, rfl, rfl, by decide +kernel, rfl, by decide +kernel, by decide +kernel⟩
theorem sc__law_of : FnScope ["_law_pen_here", "_law_some"] ["_law_pen_here", "_law_some"] (defScope s__law_of) := ⟨rfl, rfl, rfl, by decide +kernel, rfl, by decide +kernel, by decide +kernel⟩
theorem sc__law_value : FnScope ["_law_pen_here", "_law_number"] ["_law_pen_here"] (defScope s__law_value) := ⟨rfl, rfl, rfl, by decide +kernel, rfl, by decide +kernel, by decide +kernel⟩
theorem sc__law_pen : FnScope ["_law_script", "_law_seed", "_law_cell"] ["_law_script"] (defScope s__law_pen) := ⟨rfl, rfl, rfl, by decide +kernel, rfl, by decide +kernel, by decide +kernel⟩
theorem sc__law_first : FnScope ["_law_value_here", "_law_twin", "_law_found", "_law_a", "_law_b", "_law_c", "_law_d", "_law_e", "_law_f", "_law_g", "_law_h", "_law_i", "_law_j"] ["_law_value_here", "_law_twin"] (defScope s__law_first) := ⟨rfl, rfl, rfl, by decide +kernel, rfl, by decide +kernel, by decide +kernel⟩
theorem sc__law_second : FnScope ["_law_value_here", "_law_twin", "_law_found", "_law_a", "_law_b", "_law_c", "_law_d", "_law_e", "_law_f"] ["_law_value_here", "_law_twin"] (defScope s__law_second) := ⟨rfl, rfl, rfl, by decide +kernel, rfl, by decide +kernel, by decide +kernel⟩
theorem sc__law_third : FnScope ["_law_value_here", "_law_twin", "_law_found", "_law_a", "_law_b", "_law_c", "_law_d", "_law_e", "_law_f", "_law_g", "_law_h"] ["_law_value_here", "_law_twin"] (defScope s__law_third) := ⟨rfl, rfl, rfl, by decide +kernel, rfl, by decide +kernel, by decide +kernel⟩
theorem sc__law_classes : FnScope ["_law_error", "_law_found"] ["_law_error"] (defScope s__law_classes) := ⟨rfl, rfl, rfl, by decide +kernel, rfl, by decide +kernel, by decide +kernel⟩
theorem sc__law_by_names : FnScope ["_law_value_here", "_law_twin", "_law_told", "_law_a", "_law_b", "_law_c", "_law_d"] ["_law_value_here", "_law_twin"] (defScope s__law_by_names) := ⟨rfl, rfl, rfl, by decide +kernel, rfl, by decide +kernel, by decide +kernel⟩
theorem sc__law_caught : FnScope ["_law_value_here", "_law_twin", "_law_told", "_law_e", "_law_caught_here"] ["_law_value_here", "_law_twin"] (defScope s__law_caught) := ⟨rfl, rfl, rfl, by decide +kernel, rfl, by decide +kernel, by decide +kernel⟩
theorem sc_law : FnScope ["_law_script", "_law_pen_here", "_law_value_here", "_law_twin", "_law_made", "_law_k", "_law_base", "_law_error", "_law_told", "_law_due", "_law_at"] ["_law_script"] (defScope s_law) := ⟨rfl, rfl, rfl, by decide +kernel, rfl, by decide +kernel, by decide +kernel⟩
theorem sci_BridgeError : FnScope ["self"] ["self"] (defScope si_BridgeError) := ⟨rfl, rfl, rfl, by decide +kernel, rfl, by decide +kernel, by decide +kernel⟩
theorem sci_BadRatio : FnScope ["self"] ["self"] (defScope si_BadRatio) := ⟨rfl, rfl, rfl, by decide +kernel, rfl, by decide +kernel, by decide +kernel⟩
theorem sci_BadForce : FnScope ["self", "what"] ["self", "what"] (defScope si_BadForce) := ⟨rfl, rfl, rfl, by decide +kernel, rfl, by decide +kernel, by decide +kernel⟩
theorem sci_BadLoad : FnScope ["self", "what"] ["self", "what"] (defScope si_BadLoad) := ⟨rfl, rfl, rfl, by decide +kernel, rfl, by decide +kernel, by decide +kernel⟩
theorem sci_OtherSize : FnScope ["self"] ["self"] (defScope si_OtherSize) := ⟨rfl, rfl, rfl, by decide +kernel, rfl, by decide +kernel, by decide +kernel⟩
theorem sci_NoStone : FnScope ["self", "stone"] ["self", "stone"] (defScope si_NoStone) := ⟨rfl, rfl, rfl, by decide +kernel, rfl, by decide +kernel, by decide +kernel⟩
theorem sci_NoJoint : FnScope ["self", "joint"] ["self", "joint"] (defScope si_NoJoint) := ⟨rfl, rfl, rfl, by decide +kernel, rfl, by decide +kernel, by decide +kernel⟩
theorem sci_NoCorner : FnScope ["self", "corner"] ["self", "corner"] (defScope si_NoCorner) := ⟨rfl, rfl, rfl, by decide +kernel, rfl, by decide +kernel, by decide +kernel⟩
theorem sci_BadBridge : FnScope ["self", "what", "joint"] ["self", "what", "joint"] (defScope si_BadBridge) := ⟨rfl, rfl, rfl, by decide +kernel, rfl, by decide +kernel, by decide +kernel⟩
theorem sci_NoPart : FnScope ["self", "first", "last"] ["self", "first", "last"] (defScope si_NoPart) := ⟨rfl, rfl, rfl, by decide +kernel, rfl, by decide +kernel, by decide +kernel⟩
theorem sci_BadRing : FnScope ["self", "what", "stone"] ["self", "what", "stone"] (defScope si_BadRing) := ⟨rfl, rfl, rfl, by decide +kernel, rfl, by decide +kernel, by decide +kernel⟩
theorem sci_BadCut : FnScope ["self", "one", "other"] ["self", "one", "other"] (defScope si_BadCut) := ⟨rfl, rfl, rfl, by decide +kernel, rfl, by decide +kernel, by decide +kernel⟩
theorem sci_BadThrust : FnScope ["self"] ["self"] (defScope si_BadThrust) := ⟨rfl, rfl, rfl, by decide +kernel, rfl, by decide +kernel, by decide +kernel⟩
theorem sci_BadCorners : FnScope ["self"] ["self"] (defScope si_BadCorners) := ⟨rfl, rfl, rfl, by decide +kernel, rfl, by decide +kernel, by decide +kernel⟩
theorem sci_InLine : FnScope ["self", "corners"] ["self", "corners"] (defScope si_InLine) := ⟨rfl, rfl, rfl, by decide +kernel, rfl, by decide +kernel, by decide +kernel⟩
theorem sci_BadMotion : FnScope ["self"] ["self"] (defScope si_BadMotion) := ⟨rfl, rfl, rfl, by decide +kernel, rfl, by decide +kernel, by decide +kernel⟩
theorem sci_BadWeights : FnScope ["self", "what"] ["self", "what"] (defScope si_BadWeights) := ⟨rfl, rfl, rfl, by decide +kernel, rfl, by decide +kernel, by decide +kernel⟩
theorem sci_Unbalanced : FnScope ["self"] ["self"] (defScope si_Unbalanced) := ⟨rfl, rfl, rfl, by decide +kernel, rfl, by decide +kernel, by decide +kernel⟩
theorem sci_NotStanding : FnScope ["self", "mechanism"] ["self", "mechanism"] (defScope si_NotStanding) := ⟨rfl, rfl, rfl, by decide +kernel, rfl, by decide +kernel, by decide +kernel⟩
theorem sci_BadPalette : FnScope ["self", "what"] ["self", "what"] (defScope si_BadPalette) := ⟨rfl, rfl, rfl, by decide +kernel, rfl, by decide +kernel, by decide +kernel⟩
theorem sci_BadMix : FnScope ["self"] ["self"] (defScope si_BadMix) := ⟨rfl, rfl, rfl, by decide +kernel, rfl, by decide +kernel, by decide +kernel⟩
theorem sci_BadRows : FnScope ["self"] ["self"] (defScope si_BadRows) := ⟨rfl, rfl, rfl, by decide +kernel, rfl, by decide +kernel, by decide +kernel⟩
theorem sci_BadCart : FnScope ["self", "what"] ["self", "what"] (defScope si_BadCart) := ⟨rfl, rfl, rfl, by decide +kernel, rfl, by decide +kernel, by decide +kernel⟩
theorem sci_BadRule : FnScope ["self", "what", "index"] ["self", "what", "index"] (defScope si_BadRule) := ⟨rfl, rfl, rfl, by decide +kernel, rfl, by decide +kernel, by decide +kernel⟩
theorem sci_NoCart : FnScope ["self", "name"] ["self", "name"] (defScope si_NoCart) := ⟨rfl, rfl, rfl, by decide +kernel, rfl, by decide +kernel, by decide +kernel⟩
theorem sci_BadRoad : FnScope ["self", "what"] ["self", "what"] (defScope si_BadRoad) := ⟨rfl, rfl, rfl, by decide +kernel, rfl, by decide +kernel, by decide +kernel⟩
theorem sci_NoLane : FnScope ["self", "lane"] ["self", "lane"] (defScope si_NoLane) := ⟨rfl, rfl, rfl, by decide +kernel, rfl, by decide +kernel, by decide +kernel⟩
theorem sci_BadLimit : FnScope ["self", "what"] ["self", "what"] (defScope si_BadLimit) := ⟨rfl, rfl, rfl, by decide +kernel, rfl, by decide +kernel, by decide +kernel⟩
theorem sci_NotSafe : FnScope ["self", "mechanism"] ["self", "mechanism"] (defScope si_NotSafe) := ⟨rfl, rfl, rfl, by decide +kernel, rfl, by decide +kernel, by decide +kernel⟩
theorem sci_BadYard : FnScope ["self", "what"] ["self", "what"] (defScope si_BadYard) := ⟨rfl, rfl, rfl, by decide +kernel, rfl, by decide +kernel, by decide +kernel⟩
theorem sci_BadStage : FnScope ["self"] ["self"] (defScope si_BadStage) := ⟨rfl, rfl, rfl, by decide +kernel, rfl, by decide +kernel, by decide +kernel⟩
theorem sci_BadChange : FnScope ["self", "what"] ["self", "what"] (defScope si_BadChange) := ⟨rfl, rfl, rfl, by decide +kernel, rfl, by decide +kernel, by decide +kernel⟩
theorem sci_NoChange : FnScope ["self", "number"] ["self", "number"] (defScope si_NoChange) := ⟨rfl, rfl, rfl, by decide +kernel, rfl, by decide +kernel, by decide +kernel⟩
theorem sci_BadRow : FnScope ["self", "row", "what"] ["self", "row", "what"] (defScope si_BadRow) := ⟨rfl, rfl, rfl, by decide +kernel, rfl, by decide +kernel, by decide +kernel⟩
structure Ad where
  f__law_take : Addr
  d__law_take : FuncData
  f__law_of : Addr
  d__law_of : FuncData
  f__law_value : Addr
  d__law_value : FuncData
  f__law_pen : Addr
  d__law_pen : FuncData
  f__law_first : Addr
  d__law_first : FuncData
  f__law_second : Addr
  d__law_second : FuncData
  f__law_third : Addr
  d__law_third : FuncData
  f__law_classes : Addr
  d__law_classes : FuncData
  f__law_by_names : Addr
  d__law_by_names : FuncData
  f__law_caught : Addr
  d__law_caught : FuncData
  f_law : Addr
  d_law : FuncData
  c_BridgeError : Addr
  i_BridgeError : Addr
  di_BridgeError : FuncData
  c_BadRatio : Addr
  i_BadRatio : Addr
  di_BadRatio : FuncData
  c_BadForce : Addr
  i_BadForce : Addr
  di_BadForce : FuncData
  c_BadLoad : Addr
  i_BadLoad : Addr
  di_BadLoad : FuncData
  c_OtherSize : Addr
  i_OtherSize : Addr
  di_OtherSize : FuncData
  c_NoStone : Addr
  i_NoStone : Addr
  di_NoStone : FuncData
  c_NoJoint : Addr
  i_NoJoint : Addr
  di_NoJoint : FuncData
  c_NoCorner : Addr
  i_NoCorner : Addr
  di_NoCorner : FuncData
  c_BadBridge : Addr
  i_BadBridge : Addr
  di_BadBridge : FuncData
  c_NoPart : Addr
  i_NoPart : Addr
  di_NoPart : FuncData
  c_BadRing : Addr
  i_BadRing : Addr
  di_BadRing : FuncData
  c_BadCut : Addr
  i_BadCut : Addr
  di_BadCut : FuncData
  c_BadThrust : Addr
  i_BadThrust : Addr
  di_BadThrust : FuncData
  c_BadCorners : Addr
  i_BadCorners : Addr
  di_BadCorners : FuncData
  c_InLine : Addr
  i_InLine : Addr
  di_InLine : FuncData
  c_BadMotion : Addr
  i_BadMotion : Addr
  di_BadMotion : FuncData
  c_BadWeights : Addr
  i_BadWeights : Addr
  di_BadWeights : FuncData
  c_Unbalanced : Addr
  i_Unbalanced : Addr
  di_Unbalanced : FuncData
  c_NotStanding : Addr
  i_NotStanding : Addr
  di_NotStanding : FuncData
  c_BadPalette : Addr
  i_BadPalette : Addr
  di_BadPalette : FuncData
  c_BadMix : Addr
  i_BadMix : Addr
  di_BadMix : FuncData
  c_BadRows : Addr
  i_BadRows : Addr
  di_BadRows : FuncData
  c_BadCart : Addr
  i_BadCart : Addr
  di_BadCart : FuncData
  c_BadRule : Addr
  i_BadRule : Addr
  di_BadRule : FuncData
  c_NoCart : Addr
  i_NoCart : Addr
  di_NoCart : FuncData
  c_BadRoad : Addr
  i_BadRoad : Addr
  di_BadRoad : FuncData
  c_NoLane : Addr
  i_NoLane : Addr
  di_NoLane : FuncData
  c_BadLimit : Addr
  i_BadLimit : Addr
  di_BadLimit : FuncData
  c_NotSafe : Addr
  i_NotSafe : Addr
  di_NotSafe : FuncData
  c_BadYard : Addr
  i_BadYard : Addr
  di_BadYard : FuncData
  c_BadStage : Addr
  i_BadStage : Addr
  di_BadStage : FuncData
  c_BadChange : Addr
  i_BadChange : Addr
  di_BadChange : FuncData
  c_NoChange : Addr
  i_NoChange : Addr
  di_NoChange : FuncData
  c_BadRow : Addr
  i_BadRow : Addr
  di_BadRow : FuncData
def gt (K : PySem.W.Frag) (a : Ad) : Gt := ⟨fun n => match n with
  | 0 => a.c_BridgeError
  | 1 => a.c_BadRatio
  | 2 => a.c_BadForce
  | 3 => a.c_BadLoad
  | 4 => a.c_OtherSize
  | 5 => a.c_NoStone
  | 6 => a.c_NoJoint
  | 7 => a.c_NoCorner
  | 8 => a.c_BadBridge
  | 9 => a.c_NoPart
  | 10 => a.c_BadRing
  | 11 => a.c_BadCut
  | 12 => a.c_BadThrust
  | 13 => a.c_BadCorners
  | 14 => a.c_InLine
  | 15 => a.c_BadMotion
  | 16 => a.c_BadWeights
  | 17 => a.c_Unbalanced
  | 18 => a.c_NotStanding
  | 19 => a.c_BadPalette
  | 20 => a.c_BadMix
  | 21 => a.c_BadRows
  | 22 => a.c_BadCart
  | 23 => a.c_BadRule
  | 24 => a.c_NoCart
  | 25 => a.c_BadRoad
  | 26 => a.c_NoLane
  | 27 => a.c_BadLimit
  | 28 => a.c_NotSafe
  | 29 => a.c_BadYard
  | 30 => a.c_BadStage
  | 31 => a.c_BadChange
  | 32 => a.c_NoChange
  | 33 => a.c_BadRow
  | _ => 0, none, K⟩
def ans : String ⊕ Nat → String ⊕ Nat → Option Bool := fun t c => match t, c with
  | _, _ => none
def mt_NoPart : Nat → Option Bool := fun n => match n with
  | 0 => some false
  | 1 => some false
  | 2 => some false
  | 3 => some false
  | 4 => some false
  | 5 => some false
  | 6 => some false
  | 7 => some false
  | 8 => some false
  | 9 => some true
  | 10 => some false
  | 11 => some false
  | 12 => some false
  | 13 => some false
  | 14 => some false
  | 15 => some false
  | 16 => some false
  | 17 => some false
  | 18 => some false
  | 19 => some false
  | 20 => some false
  | 21 => some false
  | 22 => some false
  | 23 => some false
  | 24 => some false
  | 25 => some false
  | 26 => some false
  | 27 => some false
  | 28 => some false
  | 29 => some false
  | 30 => some false
  | 31 => some false
  | 32 => some false
  | 33 => some false
  | _ => none
def mt_BridgeError : Nat → Option Bool := fun n => match n with
  | 0 => some true
  | 1 => some true
  | 2 => some true
  | 3 => some true
  | 4 => some true
  | 5 => some true
  | 6 => some true
  | 7 => some true
  | 8 => some true
  | 9 => some true
  | 10 => some true
  | 11 => some true
  | 12 => some true
  | 13 => some true
  | 14 => some true
  | 15 => some true
  | 16 => some true
  | 17 => some true
  | 18 => some true
  | 19 => some true
  | 20 => some true
  | 21 => some true
  | 22 => some true
  | 23 => some true
  | 24 => some true
  | 25 => some true
  | 26 => some true
  | 27 => some true
  | 28 => some true
  | 29 => some true
  | 30 => some true
  | 31 => some true
  | 32 => some true
  | 33 => some true
  | _ => none
structure Txt (K : PySem.W.Frag) (mg : Str → Option Value) (a : Ad) : Prop where
  t__law_take : FunD K "_law_take" "_law_take" (defArgs s__law_take) (defBody s__law_take) (defScope s__law_take) [] [] a.f__law_take a.d__law_take
  m__law_take : mg "_law_take" = some (.ref a.f__law_take)
  b__law_take : L2.Binds K a.d__law_take ["_law_pen_here", "_law_many"] []
  t__law_of : FunD K "_law_of" "_law_of" (defArgs s__law_of) (defBody s__law_of) (defScope s__law_of) [] [] a.f__law_of a.d__law_of
  m__law_of : mg "_law_of" = some (.ref a.f__law_of)
  b__law_of : L2.Binds K a.d__law_of ["_law_pen_here", "_law_some"] []
  t__law_value : FunD K "_law_value" "_law_value" (defArgs s__law_value) (defBody s__law_value) (defScope s__law_value) [] [] a.f__law_value a.d__law_value
  m__law_value : mg "_law_value" = some (.ref a.f__law_value)
  b__law_value : L2.Binds K a.d__law_value ["_law_pen_here"] []
  t__law_pen : FunD K "_law_pen" "_law_pen" (defArgs s__law_pen) (defBody s__law_pen) (defScope s__law_pen) [] [] a.f__law_pen a.d__law_pen
  m__law_pen : mg "_law_pen" = some (.ref a.f__law_pen)
  b__law_pen : L2.Binds K a.d__law_pen ["_law_script"] []
  t__law_first : FunD K "_law_first" "_law_first" (defArgs s__law_first) (defBody s__law_first) (defScope s__law_first) [] [] a.f__law_first a.d__law_first
  m__law_first : mg "_law_first" = some (.ref a.f__law_first)
  b__law_first : L2.Binds K a.d__law_first ["_law_value_here", "_law_twin"] []
  t__law_second : FunD K "_law_second" "_law_second" (defArgs s__law_second) (defBody s__law_second) (defScope s__law_second) [] [] a.f__law_second a.d__law_second
  m__law_second : mg "_law_second" = some (.ref a.f__law_second)
  b__law_second : L2.Binds K a.d__law_second ["_law_value_here", "_law_twin"] []
  t__law_third : FunD K "_law_third" "_law_third" (defArgs s__law_third) (defBody s__law_third) (defScope s__law_third) [] [] a.f__law_third a.d__law_third
  m__law_third : mg "_law_third" = some (.ref a.f__law_third)
  b__law_third : L2.Binds K a.d__law_third ["_law_value_here", "_law_twin"] []
  t__law_classes : FunD K "_law_classes" "_law_classes" (defArgs s__law_classes) (defBody s__law_classes) (defScope s__law_classes) [] [] a.f__law_classes a.d__law_classes
  m__law_classes : mg "_law_classes" = some (.ref a.f__law_classes)
  b__law_classes : L2.Binds K a.d__law_classes ["_law_error"] []
  t__law_by_names : FunD K "_law_by_names" "_law_by_names" (defArgs s__law_by_names) (defBody s__law_by_names) (defScope s__law_by_names) [] [] a.f__law_by_names a.d__law_by_names
  m__law_by_names : mg "_law_by_names" = some (.ref a.f__law_by_names)
  b__law_by_names : L2.Binds K a.d__law_by_names ["_law_value_here", "_law_twin"] []
  t__law_caught : FunD K "_law_caught" "_law_caught" (defArgs s__law_caught) (defBody s__law_caught) (defScope s__law_caught) [] [] a.f__law_caught a.d__law_caught
  m__law_caught : mg "_law_caught" = some (.ref a.f__law_caught)
  b__law_caught : L2.Binds K a.d__law_caught ["_law_value_here", "_law_twin"] []
  t_law : FunD K "law" "law" (defArgs s_law) (defBody s_law) (defScope s_law) [] [] a.f_law a.d_law
  m_law : mg "law" = some (.ref a.f_law)
  b_law : L2.Binds K a.d_law ["_law_script"] []
  m_BridgeError : mg "BridgeError" = some (.ref a.c_BridgeError)
  m_BadRatio : mg "BadRatio" = some (.ref a.c_BadRatio)
  m_BadForce : mg "BadForce" = some (.ref a.c_BadForce)
  m_BadLoad : mg "BadLoad" = some (.ref a.c_BadLoad)
  m_OtherSize : mg "OtherSize" = some (.ref a.c_OtherSize)
  m_NoStone : mg "NoStone" = some (.ref a.c_NoStone)
  m_NoJoint : mg "NoJoint" = some (.ref a.c_NoJoint)
  m_NoCorner : mg "NoCorner" = some (.ref a.c_NoCorner)
  m_BadBridge : mg "BadBridge" = some (.ref a.c_BadBridge)
  m_NoPart : mg "NoPart" = some (.ref a.c_NoPart)
  m_BadRing : mg "BadRing" = some (.ref a.c_BadRing)
  m_BadCut : mg "BadCut" = some (.ref a.c_BadCut)
  m_BadThrust : mg "BadThrust" = some (.ref a.c_BadThrust)
  m_BadCorners : mg "BadCorners" = some (.ref a.c_BadCorners)
  m_InLine : mg "InLine" = some (.ref a.c_InLine)
  m_BadMotion : mg "BadMotion" = some (.ref a.c_BadMotion)
  m_BadWeights : mg "BadWeights" = some (.ref a.c_BadWeights)
  m_Unbalanced : mg "Unbalanced" = some (.ref a.c_Unbalanced)
  m_NotStanding : mg "NotStanding" = some (.ref a.c_NotStanding)
  m_BadPalette : mg "BadPalette" = some (.ref a.c_BadPalette)
  m_BadMix : mg "BadMix" = some (.ref a.c_BadMix)
  m_BadRows : mg "BadRows" = some (.ref a.c_BadRows)
  m_BadCart : mg "BadCart" = some (.ref a.c_BadCart)
  m_BadRule : mg "BadRule" = some (.ref a.c_BadRule)
  m_NoCart : mg "NoCart" = some (.ref a.c_NoCart)
  m_BadRoad : mg "BadRoad" = some (.ref a.c_BadRoad)
  m_NoLane : mg "NoLane" = some (.ref a.c_NoLane)
  m_BadLimit : mg "BadLimit" = some (.ref a.c_BadLimit)
  m_NotSafe : mg "NotSafe" = some (.ref a.c_NotSafe)
  m_BadYard : mg "BadYard" = some (.ref a.c_BadYard)
  m_BadStage : mg "BadStage" = some (.ref a.c_BadStage)
  m_BadChange : mg "BadChange" = some (.ref a.c_BadChange)
  m_NoChange : mg "NoChange" = some (.ref a.c_NoChange)
  m_BadRow : mg "BadRow" = some (.ref a.c_BadRow)
  e_BridgeError : Err0 K mg "BridgeError" a.c_BridgeError a.i_BridgeError si_BridgeError "BridgeError.__init__" a.di_BridgeError
  e_BadRatio : Err0 K mg "BadRatio" a.c_BadRatio a.i_BadRatio si_BadRatio "BadRatio.__init__" a.di_BadRatio
  e_BadForce : ErrN K mg "BadForce" a.c_BadForce a.i_BadForce si_BadForce "BadForce.__init__" a.di_BadForce ["self", "what"]
  xn_BadForce_what : PySem.W.findIn K (.ref a.c_BadForce) "what" = some none
  e_BadLoad : ErrN K mg "BadLoad" a.c_BadLoad a.i_BadLoad si_BadLoad "BadLoad.__init__" a.di_BadLoad ["self", "what"]
  xn_BadLoad_what : PySem.W.findIn K (.ref a.c_BadLoad) "what" = some none
  e_OtherSize : Err0 K mg "OtherSize" a.c_OtherSize a.i_OtherSize si_OtherSize "OtherSize.__init__" a.di_OtherSize
  e_NoStone : ErrN K mg "NoStone" a.c_NoStone a.i_NoStone si_NoStone "NoStone.__init__" a.di_NoStone ["self", "stone"]
  xn_NoStone_stone : PySem.W.findIn K (.ref a.c_NoStone) "stone" = some none
  e_NoJoint : ErrN K mg "NoJoint" a.c_NoJoint a.i_NoJoint si_NoJoint "NoJoint.__init__" a.di_NoJoint ["self", "joint"]
  xn_NoJoint_joint : PySem.W.findIn K (.ref a.c_NoJoint) "joint" = some none
  e_NoCorner : ErrN K mg "NoCorner" a.c_NoCorner a.i_NoCorner si_NoCorner "NoCorner.__init__" a.di_NoCorner ["self", "corner"]
  xn_NoCorner_corner : PySem.W.findIn K (.ref a.c_NoCorner) "corner" = some none
  e_BadBridge : ErrN K mg "BadBridge" a.c_BadBridge a.i_BadBridge si_BadBridge "BadBridge.__init__" a.di_BadBridge ["self", "what", "joint"]
  xn_BadBridge_what : PySem.W.findIn K (.ref a.c_BadBridge) "what" = some none
  xn_BadBridge_joint : PySem.W.findIn K (.ref a.c_BadBridge) "joint" = some none
  e_NoPart : ErrN K mg "NoPart" a.c_NoPart a.i_NoPart si_NoPart "NoPart.__init__" a.di_NoPart ["self", "first", "last"]
  xn_NoPart_first : PySem.W.findIn K (.ref a.c_NoPart) "first" = some none
  xn_NoPart_last : PySem.W.findIn K (.ref a.c_NoPart) "last" = some none
  e_BadRing : ErrN K mg "BadRing" a.c_BadRing a.i_BadRing si_BadRing "BadRing.__init__" a.di_BadRing ["self", "what", "stone"]
  xn_BadRing_what : PySem.W.findIn K (.ref a.c_BadRing) "what" = some none
  xn_BadRing_stone : PySem.W.findIn K (.ref a.c_BadRing) "stone" = some none
  e_BadCut : ErrN K mg "BadCut" a.c_BadCut a.i_BadCut si_BadCut "BadCut.__init__" a.di_BadCut ["self", "one", "other"]
  xn_BadCut_one : PySem.W.findIn K (.ref a.c_BadCut) "one" = some none
  xn_BadCut_other : PySem.W.findIn K (.ref a.c_BadCut) "other" = some none
  e_BadThrust : Err0 K mg "BadThrust" a.c_BadThrust a.i_BadThrust si_BadThrust "BadThrust.__init__" a.di_BadThrust
  e_BadCorners : Err0 K mg "BadCorners" a.c_BadCorners a.i_BadCorners si_BadCorners "BadCorners.__init__" a.di_BadCorners
  e_InLine : ErrN K mg "InLine" a.c_InLine a.i_InLine si_InLine "InLine.__init__" a.di_InLine ["self", "corners"]
  xn_InLine_corners : PySem.W.findIn K (.ref a.c_InLine) "corners" = some none
  e_BadMotion : Err0 K mg "BadMotion" a.c_BadMotion a.i_BadMotion si_BadMotion "BadMotion.__init__" a.di_BadMotion
  e_BadWeights : ErrN K mg "BadWeights" a.c_BadWeights a.i_BadWeights si_BadWeights "BadWeights.__init__" a.di_BadWeights ["self", "what"]
  xn_BadWeights_what : PySem.W.findIn K (.ref a.c_BadWeights) "what" = some none
  e_Unbalanced : Err0 K mg "Unbalanced" a.c_Unbalanced a.i_Unbalanced si_Unbalanced "Unbalanced.__init__" a.di_Unbalanced
  e_NotStanding : ErrN K mg "NotStanding" a.c_NotStanding a.i_NotStanding si_NotStanding "NotStanding.__init__" a.di_NotStanding ["self", "mechanism"]
  xn_NotStanding_mechanism : PySem.W.findIn K (.ref a.c_NotStanding) "mechanism" = some none
  e_BadPalette : ErrN K mg "BadPalette" a.c_BadPalette a.i_BadPalette si_BadPalette "BadPalette.__init__" a.di_BadPalette ["self", "what"]
  xn_BadPalette_what : PySem.W.findIn K (.ref a.c_BadPalette) "what" = some none
  e_BadMix : Err0 K mg "BadMix" a.c_BadMix a.i_BadMix si_BadMix "BadMix.__init__" a.di_BadMix
  e_BadRows : Err0 K mg "BadRows" a.c_BadRows a.i_BadRows si_BadRows "BadRows.__init__" a.di_BadRows
  e_BadCart : ErrN K mg "BadCart" a.c_BadCart a.i_BadCart si_BadCart "BadCart.__init__" a.di_BadCart ["self", "what"]
  xn_BadCart_what : PySem.W.findIn K (.ref a.c_BadCart) "what" = some none
  e_BadRule : ErrN K mg "BadRule" a.c_BadRule a.i_BadRule si_BadRule "BadRule.__init__" a.di_BadRule ["self", "what", "index"]
  xn_BadRule_what : PySem.W.findIn K (.ref a.c_BadRule) "what" = some none
  xn_BadRule_index : PySem.W.findIn K (.ref a.c_BadRule) "index" = some none
  e_NoCart : ErrN K mg "NoCart" a.c_NoCart a.i_NoCart si_NoCart "NoCart.__init__" a.di_NoCart ["self", "name"]
  xn_NoCart_name : PySem.W.findIn K (.ref a.c_NoCart) "name" = some none
  e_BadRoad : ErrN K mg "BadRoad" a.c_BadRoad a.i_BadRoad si_BadRoad "BadRoad.__init__" a.di_BadRoad ["self", "what"]
  xn_BadRoad_what : PySem.W.findIn K (.ref a.c_BadRoad) "what" = some none
  e_NoLane : ErrN K mg "NoLane" a.c_NoLane a.i_NoLane si_NoLane "NoLane.__init__" a.di_NoLane ["self", "lane"]
  xn_NoLane_lane : PySem.W.findIn K (.ref a.c_NoLane) "lane" = some none
  e_BadLimit : ErrN K mg "BadLimit" a.c_BadLimit a.i_BadLimit si_BadLimit "BadLimit.__init__" a.di_BadLimit ["self", "what"]
  xn_BadLimit_what : PySem.W.findIn K (.ref a.c_BadLimit) "what" = some none
  e_NotSafe : ErrN K mg "NotSafe" a.c_NotSafe a.i_NotSafe si_NotSafe "NotSafe.__init__" a.di_NotSafe ["self", "mechanism"]
  xn_NotSafe_mechanism : PySem.W.findIn K (.ref a.c_NotSafe) "mechanism" = some none
  e_BadYard : ErrN K mg "BadYard" a.c_BadYard a.i_BadYard si_BadYard "BadYard.__init__" a.di_BadYard ["self", "what"]
  xn_BadYard_what : PySem.W.findIn K (.ref a.c_BadYard) "what" = some none
  e_BadStage : Err0 K mg "BadStage" a.c_BadStage a.i_BadStage si_BadStage "BadStage.__init__" a.di_BadStage
  e_BadChange : ErrN K mg "BadChange" a.c_BadChange a.i_BadChange si_BadChange "BadChange.__init__" a.di_BadChange ["self", "what"]
  xn_BadChange_what : PySem.W.findIn K (.ref a.c_BadChange) "what" = some none
  e_NoChange : ErrN K mg "NoChange" a.c_NoChange a.i_NoChange si_NoChange "NoChange.__init__" a.di_NoChange ["self", "number"]
  xn_NoChange_number : PySem.W.findIn K (.ref a.c_NoChange) "number" = some none
  e_BadRow : ErrN K mg "BadRow" a.c_BadRow a.i_BadRow si_BadRow "BadRow.__init__" a.di_BadRow ["self", "row", "what"]
  xn_BadRow_row : PySem.W.findIn K (.ref a.c_BadRow) "row" = some none
  xn_BadRow_what : PySem.W.findIn K (.ref a.c_BadRow) "what" = some none
  xm_BridgeError_NoPart : PySem.W.exmOne K (.ref a.c_BridgeError) (.ref a.c_NoPart) = some false
  xm_BadRatio_NoPart : PySem.W.exmOne K (.ref a.c_BadRatio) (.ref a.c_NoPart) = some false
  xm_BadForce_NoPart : PySem.W.exmOne K (.ref a.c_BadForce) (.ref a.c_NoPart) = some false
  xm_BadLoad_NoPart : PySem.W.exmOne K (.ref a.c_BadLoad) (.ref a.c_NoPart) = some false
  xm_OtherSize_NoPart : PySem.W.exmOne K (.ref a.c_OtherSize) (.ref a.c_NoPart) = some false
  xm_NoStone_NoPart : PySem.W.exmOne K (.ref a.c_NoStone) (.ref a.c_NoPart) = some false
  xm_NoJoint_NoPart : PySem.W.exmOne K (.ref a.c_NoJoint) (.ref a.c_NoPart) = some false
  xm_NoCorner_NoPart : PySem.W.exmOne K (.ref a.c_NoCorner) (.ref a.c_NoPart) = some false
  xm_BadBridge_NoPart : PySem.W.exmOne K (.ref a.c_BadBridge) (.ref a.c_NoPart) = some false
  xm_NoPart_NoPart : PySem.W.exmOne K (.ref a.c_NoPart) (.ref a.c_NoPart) = some true
  xm_BadRing_NoPart : PySem.W.exmOne K (.ref a.c_BadRing) (.ref a.c_NoPart) = some false
  xm_BadCut_NoPart : PySem.W.exmOne K (.ref a.c_BadCut) (.ref a.c_NoPart) = some false
  xm_BadThrust_NoPart : PySem.W.exmOne K (.ref a.c_BadThrust) (.ref a.c_NoPart) = some false
  xm_BadCorners_NoPart : PySem.W.exmOne K (.ref a.c_BadCorners) (.ref a.c_NoPart) = some false
  xm_InLine_NoPart : PySem.W.exmOne K (.ref a.c_InLine) (.ref a.c_NoPart) = some false
  xm_BadMotion_NoPart : PySem.W.exmOne K (.ref a.c_BadMotion) (.ref a.c_NoPart) = some false
  xm_BadWeights_NoPart : PySem.W.exmOne K (.ref a.c_BadWeights) (.ref a.c_NoPart) = some false
  xm_Unbalanced_NoPart : PySem.W.exmOne K (.ref a.c_Unbalanced) (.ref a.c_NoPart) = some false
  xm_NotStanding_NoPart : PySem.W.exmOne K (.ref a.c_NotStanding) (.ref a.c_NoPart) = some false
  xm_BadPalette_NoPart : PySem.W.exmOne K (.ref a.c_BadPalette) (.ref a.c_NoPart) = some false
  xm_BadMix_NoPart : PySem.W.exmOne K (.ref a.c_BadMix) (.ref a.c_NoPart) = some false
  xm_BadRows_NoPart : PySem.W.exmOne K (.ref a.c_BadRows) (.ref a.c_NoPart) = some false
  xm_BadCart_NoPart : PySem.W.exmOne K (.ref a.c_BadCart) (.ref a.c_NoPart) = some false
  xm_BadRule_NoPart : PySem.W.exmOne K (.ref a.c_BadRule) (.ref a.c_NoPart) = some false
  xm_NoCart_NoPart : PySem.W.exmOne K (.ref a.c_NoCart) (.ref a.c_NoPart) = some false
  xm_BadRoad_NoPart : PySem.W.exmOne K (.ref a.c_BadRoad) (.ref a.c_NoPart) = some false
  xm_NoLane_NoPart : PySem.W.exmOne K (.ref a.c_NoLane) (.ref a.c_NoPart) = some false
  xm_BadLimit_NoPart : PySem.W.exmOne K (.ref a.c_BadLimit) (.ref a.c_NoPart) = some false
  xm_NotSafe_NoPart : PySem.W.exmOne K (.ref a.c_NotSafe) (.ref a.c_NoPart) = some false
  xm_BadYard_NoPart : PySem.W.exmOne K (.ref a.c_BadYard) (.ref a.c_NoPart) = some false
  xm_BadStage_NoPart : PySem.W.exmOne K (.ref a.c_BadStage) (.ref a.c_NoPart) = some false
  xm_BadChange_NoPart : PySem.W.exmOne K (.ref a.c_BadChange) (.ref a.c_NoPart) = some false
  xm_NoChange_NoPart : PySem.W.exmOne K (.ref a.c_NoChange) (.ref a.c_NoPart) = some false
  xm_BadRow_NoPart : PySem.W.exmOne K (.ref a.c_BadRow) (.ref a.c_NoPart) = some false
  xm_BridgeError_BridgeError : PySem.W.exmOne K (.ref a.c_BridgeError) (.ref a.c_BridgeError) = some true
  xm_BadRatio_BridgeError : PySem.W.exmOne K (.ref a.c_BadRatio) (.ref a.c_BridgeError) = some true
  xm_BadForce_BridgeError : PySem.W.exmOne K (.ref a.c_BadForce) (.ref a.c_BridgeError) = some true
  xm_BadLoad_BridgeError : PySem.W.exmOne K (.ref a.c_BadLoad) (.ref a.c_BridgeError) = some true
  xm_OtherSize_BridgeError : PySem.W.exmOne K (.ref a.c_OtherSize) (.ref a.c_BridgeError) = some true
  xm_NoStone_BridgeError : PySem.W.exmOne K (.ref a.c_NoStone) (.ref a.c_BridgeError) = some true
  xm_NoJoint_BridgeError : PySem.W.exmOne K (.ref a.c_NoJoint) (.ref a.c_BridgeError) = some true
  xm_NoCorner_BridgeError : PySem.W.exmOne K (.ref a.c_NoCorner) (.ref a.c_BridgeError) = some true
  xm_BadBridge_BridgeError : PySem.W.exmOne K (.ref a.c_BadBridge) (.ref a.c_BridgeError) = some true
  xm_NoPart_BridgeError : PySem.W.exmOne K (.ref a.c_NoPart) (.ref a.c_BridgeError) = some true
  xm_BadRing_BridgeError : PySem.W.exmOne K (.ref a.c_BadRing) (.ref a.c_BridgeError) = some true
  xm_BadCut_BridgeError : PySem.W.exmOne K (.ref a.c_BadCut) (.ref a.c_BridgeError) = some true
  xm_BadThrust_BridgeError : PySem.W.exmOne K (.ref a.c_BadThrust) (.ref a.c_BridgeError) = some true
  xm_BadCorners_BridgeError : PySem.W.exmOne K (.ref a.c_BadCorners) (.ref a.c_BridgeError) = some true
  xm_InLine_BridgeError : PySem.W.exmOne K (.ref a.c_InLine) (.ref a.c_BridgeError) = some true
  xm_BadMotion_BridgeError : PySem.W.exmOne K (.ref a.c_BadMotion) (.ref a.c_BridgeError) = some true
  xm_BadWeights_BridgeError : PySem.W.exmOne K (.ref a.c_BadWeights) (.ref a.c_BridgeError) = some true
  xm_Unbalanced_BridgeError : PySem.W.exmOne K (.ref a.c_Unbalanced) (.ref a.c_BridgeError) = some true
  xm_NotStanding_BridgeError : PySem.W.exmOne K (.ref a.c_NotStanding) (.ref a.c_BridgeError) = some true
  xm_BadPalette_BridgeError : PySem.W.exmOne K (.ref a.c_BadPalette) (.ref a.c_BridgeError) = some true
  xm_BadMix_BridgeError : PySem.W.exmOne K (.ref a.c_BadMix) (.ref a.c_BridgeError) = some true
  xm_BadRows_BridgeError : PySem.W.exmOne K (.ref a.c_BadRows) (.ref a.c_BridgeError) = some true
  xm_BadCart_BridgeError : PySem.W.exmOne K (.ref a.c_BadCart) (.ref a.c_BridgeError) = some true
  xm_BadRule_BridgeError : PySem.W.exmOne K (.ref a.c_BadRule) (.ref a.c_BridgeError) = some true
  xm_NoCart_BridgeError : PySem.W.exmOne K (.ref a.c_NoCart) (.ref a.c_BridgeError) = some true
  xm_BadRoad_BridgeError : PySem.W.exmOne K (.ref a.c_BadRoad) (.ref a.c_BridgeError) = some true
  xm_NoLane_BridgeError : PySem.W.exmOne K (.ref a.c_NoLane) (.ref a.c_BridgeError) = some true
  xm_BadLimit_BridgeError : PySem.W.exmOne K (.ref a.c_BadLimit) (.ref a.c_BridgeError) = some true
  xm_NotSafe_BridgeError : PySem.W.exmOne K (.ref a.c_NotSafe) (.ref a.c_BridgeError) = some true
  xm_BadYard_BridgeError : PySem.W.exmOne K (.ref a.c_BadYard) (.ref a.c_BridgeError) = some true
  xm_BadStage_BridgeError : PySem.W.exmOne K (.ref a.c_BadStage) (.ref a.c_BridgeError) = some true
  xm_BadChange_BridgeError : PySem.W.exmOne K (.ref a.c_BadChange) (.ref a.c_BridgeError) = some true
  xm_NoChange_BridgeError : PySem.W.exmOne K (.ref a.c_NoChange) (.ref a.c_BridgeError) = some true
  xm_BadRow_BridgeError : PySem.W.exmOne K (.ref a.c_BadRow) (.ref a.c_BridgeError) = some true
  mo_BridgeError : mroL K a.c_BridgeError = some [.ref a.c_BridgeError, .type "ValueError", .type "Exception", .type "BaseException", .type "object"]
  mo_BadRatio : mroL K a.c_BadRatio = some [.ref a.c_BadRatio, .ref a.c_BridgeError, .type "ValueError", .type "Exception", .type "BaseException", .type "object"]
  mo_BadForce : mroL K a.c_BadForce = some [.ref a.c_BadForce, .ref a.c_BridgeError, .type "ValueError", .type "Exception", .type "BaseException", .type "object"]
  mo_BadLoad : mroL K a.c_BadLoad = some [.ref a.c_BadLoad, .ref a.c_BridgeError, .type "ValueError", .type "Exception", .type "BaseException", .type "object"]
  mo_OtherSize : mroL K a.c_OtherSize = some [.ref a.c_OtherSize, .ref a.c_BridgeError, .type "ValueError", .type "Exception", .type "BaseException", .type "object"]
  mo_NoStone : mroL K a.c_NoStone = some [.ref a.c_NoStone, .ref a.c_BridgeError, .type "ValueError", .type "Exception", .type "BaseException", .type "object"]
  mo_NoJoint : mroL K a.c_NoJoint = some [.ref a.c_NoJoint, .ref a.c_BridgeError, .type "ValueError", .type "Exception", .type "BaseException", .type "object"]
  mo_NoCorner : mroL K a.c_NoCorner = some [.ref a.c_NoCorner, .ref a.c_BridgeError, .type "ValueError", .type "Exception", .type "BaseException", .type "object"]
  mo_BadBridge : mroL K a.c_BadBridge = some [.ref a.c_BadBridge, .ref a.c_BridgeError, .type "ValueError", .type "Exception", .type "BaseException", .type "object"]
  mo_NoPart : mroL K a.c_NoPart = some [.ref a.c_NoPart, .ref a.c_BridgeError, .type "ValueError", .type "Exception", .type "BaseException", .type "object"]
  mo_BadRing : mroL K a.c_BadRing = some [.ref a.c_BadRing, .ref a.c_BridgeError, .type "ValueError", .type "Exception", .type "BaseException", .type "object"]
  mo_BadCut : mroL K a.c_BadCut = some [.ref a.c_BadCut, .ref a.c_BridgeError, .type "ValueError", .type "Exception", .type "BaseException", .type "object"]
  mo_BadThrust : mroL K a.c_BadThrust = some [.ref a.c_BadThrust, .ref a.c_BridgeError, .type "ValueError", .type "Exception", .type "BaseException", .type "object"]
  mo_BadCorners : mroL K a.c_BadCorners = some [.ref a.c_BadCorners, .ref a.c_BridgeError, .type "ValueError", .type "Exception", .type "BaseException", .type "object"]
  mo_InLine : mroL K a.c_InLine = some [.ref a.c_InLine, .ref a.c_BridgeError, .type "ValueError", .type "Exception", .type "BaseException", .type "object"]
  mo_BadMotion : mroL K a.c_BadMotion = some [.ref a.c_BadMotion, .ref a.c_BridgeError, .type "ValueError", .type "Exception", .type "BaseException", .type "object"]
  mo_BadWeights : mroL K a.c_BadWeights = some [.ref a.c_BadWeights, .ref a.c_BridgeError, .type "ValueError", .type "Exception", .type "BaseException", .type "object"]
  mo_Unbalanced : mroL K a.c_Unbalanced = some [.ref a.c_Unbalanced, .ref a.c_BridgeError, .type "ValueError", .type "Exception", .type "BaseException", .type "object"]
  mo_NotStanding : mroL K a.c_NotStanding = some [.ref a.c_NotStanding, .ref a.c_BridgeError, .type "ValueError", .type "Exception", .type "BaseException", .type "object"]
  mo_BadPalette : mroL K a.c_BadPalette = some [.ref a.c_BadPalette, .ref a.c_BridgeError, .type "ValueError", .type "Exception", .type "BaseException", .type "object"]
  mo_BadMix : mroL K a.c_BadMix = some [.ref a.c_BadMix, .ref a.c_BridgeError, .type "ValueError", .type "Exception", .type "BaseException", .type "object"]
  mo_BadRows : mroL K a.c_BadRows = some [.ref a.c_BadRows, .ref a.c_BridgeError, .type "ValueError", .type "Exception", .type "BaseException", .type "object"]
  mo_BadCart : mroL K a.c_BadCart = some [.ref a.c_BadCart, .ref a.c_BridgeError, .type "ValueError", .type "Exception", .type "BaseException", .type "object"]
  mo_BadRule : mroL K a.c_BadRule = some [.ref a.c_BadRule, .ref a.c_BridgeError, .type "ValueError", .type "Exception", .type "BaseException", .type "object"]
  mo_NoCart : mroL K a.c_NoCart = some [.ref a.c_NoCart, .ref a.c_BridgeError, .type "ValueError", .type "Exception", .type "BaseException", .type "object"]
  mo_BadRoad : mroL K a.c_BadRoad = some [.ref a.c_BadRoad, .ref a.c_BridgeError, .type "ValueError", .type "Exception", .type "BaseException", .type "object"]
  mo_NoLane : mroL K a.c_NoLane = some [.ref a.c_NoLane, .ref a.c_BridgeError, .type "ValueError", .type "Exception", .type "BaseException", .type "object"]
  mo_BadLimit : mroL K a.c_BadLimit = some [.ref a.c_BadLimit, .ref a.c_BridgeError, .type "ValueError", .type "Exception", .type "BaseException", .type "object"]
  mo_NotSafe : mroL K a.c_NotSafe = some [.ref a.c_NotSafe, .ref a.c_BridgeError, .type "ValueError", .type "Exception", .type "BaseException", .type "object"]
  mo_BadYard : mroL K a.c_BadYard = some [.ref a.c_BadYard, .ref a.c_BridgeError, .type "ValueError", .type "Exception", .type "BaseException", .type "object"]
  mo_BadStage : mroL K a.c_BadStage = some [.ref a.c_BadStage, .ref a.c_BridgeError, .type "ValueError", .type "Exception", .type "BaseException", .type "object"]
  mo_BadChange : mroL K a.c_BadChange = some [.ref a.c_BadChange, .ref a.c_BridgeError, .type "ValueError", .type "Exception", .type "BaseException", .type "object"]
  mo_NoChange : mroL K a.c_NoChange = some [.ref a.c_NoChange, .ref a.c_BridgeError, .type "ValueError", .type "Exception", .type "BaseException", .type "object"]
  mo_BadRow : mroL K a.c_BadRow = some [.ref a.c_BadRow, .ref a.c_BridgeError, .type "ValueError", .type "Exception", .type "BaseException", .type "object"]
  xnd : [a.c_BridgeError, a.c_BadRatio, a.c_BadForce, a.c_BadLoad, a.c_OtherSize, a.c_NoStone, a.c_NoJoint, a.c_NoCorner, a.c_BadBridge, a.c_NoPart, a.c_BadRing, a.c_BadCut, a.c_BadThrust, a.c_BadCorners, a.c_InLine, a.c_BadMotion, a.c_BadWeights, a.c_Unbalanced, a.c_NotStanding, a.c_BadPalette, a.c_BadMix, a.c_BadRows, a.c_BadCart, a.c_BadRule, a.c_NoCart, a.c_BadRoad, a.c_NoLane, a.c_BadLimit, a.c_NotSafe, a.c_BadYard, a.c_BadStage, a.c_BadChange, a.c_NoChange, a.c_BadRow].Nodup
  y_BridgeError : ExcC K a.c_BridgeError
  y_BadRatio : ExcC K a.c_BadRatio
  y_BadForce : ExcC K a.c_BadForce
  y_BadLoad : ExcC K a.c_BadLoad
  y_OtherSize : ExcC K a.c_OtherSize
  y_NoStone : ExcC K a.c_NoStone
  y_NoJoint : ExcC K a.c_NoJoint
  y_NoCorner : ExcC K a.c_NoCorner
  y_BadBridge : ExcC K a.c_BadBridge
  y_NoPart : ExcC K a.c_NoPart
  y_BadRing : ExcC K a.c_BadRing
  y_BadCut : ExcC K a.c_BadCut
  y_BadThrust : ExcC K a.c_BadThrust
  y_BadCorners : ExcC K a.c_BadCorners
  y_InLine : ExcC K a.c_InLine
  y_BadMotion : ExcC K a.c_BadMotion
  y_BadWeights : ExcC K a.c_BadWeights
  y_Unbalanced : ExcC K a.c_Unbalanced
  y_NotStanding : ExcC K a.c_NotStanding
  y_BadPalette : ExcC K a.c_BadPalette
  y_BadMix : ExcC K a.c_BadMix
  y_BadRows : ExcC K a.c_BadRows
  y_BadCart : ExcC K a.c_BadCart
  y_BadRule : ExcC K a.c_BadRule
  y_NoCart : ExcC K a.c_NoCart
  y_BadRoad : ExcC K a.c_BadRoad
  y_NoLane : ExcC K a.c_NoLane
  y_BadLimit : ExcC K a.c_BadLimit
  y_NotSafe : ExcC K a.c_NotSafe
  y_BadYard : ExcC K a.c_BadYard
  y_BadStage : ExcC K a.c_BadStage
  y_BadChange : ExcC K a.c_BadChange
  y_NoChange : ExcC K a.c_NoChange
  y_BadRow : ExcC K a.c_BadRow
  n_ValueError : mg "ValueError" = none
  n_int : mg "int" = none
  n_isinstance : mg "isinstance" = none
  n_len : mg "len" = none
  n_list : mg "list" = none
  n_range : mg "range" = none
  n_repr : mg "repr" = none
  n_str : mg "str" = none
def cx_what : Nat → Bool := fun n => match n with
  | 2 => true
  | 3 => true
  | 8 => true
  | 10 => true
  | 16 => true
  | 19 => true
  | 22 => true
  | 23 => true
  | 25 => true
  | 27 => true
  | 29 => true
  | 31 => true
  | 33 => true
  | _ => false
def cx_corner : Nat → Bool := fun n => match n with
  | 7 => true
  | _ => false
def cx_joint : Nat → Bool := fun n => match n with
  | 6 => true
  | 8 => true
  | _ => false
def cx_stone : Nat → Bool := fun n => match n with
  | 5 => true
  | 10 => true
  | _ => false
def cx_last : Nat → Bool := fun n => match n with
  | 9 => true
  | _ => false
def cx_first : Nat → Bool := fun n => match n with
  | 9 => true
  | _ => false
def cx_other : Nat → Bool := fun n => match n with
  | 11 => true
  | _ => false
def cx_one : Nat → Bool := fun n => match n with
  | 11 => true
  | _ => false
def cx_corners : Nat → Bool := fun n => match n with
  | 14 => true
  | _ => false
def cx_mechanism : Nat → Bool := fun n => match n with
  | 18 => true
  | 28 => true
  | _ => false
def cx_index : Nat → Bool := fun n => match n with
  | 23 => true
  | _ => false
def cx_name : Nat → Bool := fun n => match n with
  | 24 => true
  | _ => false
def cx_lane : Nat → Bool := fun n => match n with
  | 26 => true
  | _ => false
def cx_number : Nat → Bool := fun n => match n with
  | 32 => true
  | _ => false
def cx_row : Nat → Bool := fun n => match n with
  | 33 => true
  | _ => false
noncomputable section
variable {P : Program} {w : World} {K : PySem.W.Frag} {mg : Str → Option Value} {base : Heap} {a : Ad}
theorem hmt_NoPart (T : Txt K mg a) : ∀ c b, mt_NoPart c = some b → PySem.W.exmOne K (.ref ((gt K a).cls c)) (.ref ((gt K a).cls 9)) = some b := by
  intro c b h
  unfold mt_NoPart at h
  split at h
  · cases h; exact T.xm_BridgeError_NoPart
  · cases h; exact T.xm_BadRatio_NoPart
  · cases h; exact T.xm_BadForce_NoPart
  · cases h; exact T.xm_BadLoad_NoPart
  · cases h; exact T.xm_OtherSize_NoPart
  · cases h; exact T.xm_NoStone_NoPart
  · cases h; exact T.xm_NoJoint_NoPart
  · cases h; exact T.xm_NoCorner_NoPart
  · cases h; exact T.xm_BadBridge_NoPart
  · cases h; exact T.xm_NoPart_NoPart
  · cases h; exact T.xm_BadRing_NoPart
  · cases h; exact T.xm_BadCut_NoPart
  · cases h; exact T.xm_BadThrust_NoPart
  · cases h; exact T.xm_BadCorners_NoPart
  · cases h; exact T.xm_InLine_NoPart
  · cases h; exact T.xm_BadMotion_NoPart
  · cases h; exact T.xm_BadWeights_NoPart
  · cases h; exact T.xm_Unbalanced_NoPart
  · cases h; exact T.xm_NotStanding_NoPart
  · cases h; exact T.xm_BadPalette_NoPart
  · cases h; exact T.xm_BadMix_NoPart
  · cases h; exact T.xm_BadRows_NoPart
  · cases h; exact T.xm_BadCart_NoPart
  · cases h; exact T.xm_BadRule_NoPart
  · cases h; exact T.xm_NoCart_NoPart
  · cases h; exact T.xm_BadRoad_NoPart
  · cases h; exact T.xm_NoLane_NoPart
  · cases h; exact T.xm_BadLimit_NoPart
  · cases h; exact T.xm_NotSafe_NoPart
  · cases h; exact T.xm_BadYard_NoPart
  · cases h; exact T.xm_BadStage_NoPart
  · cases h; exact T.xm_BadChange_NoPart
  · cases h; exact T.xm_NoChange_NoPart
  · cases h; exact T.xm_BadRow_NoPart
  · cases h
theorem hmt_BridgeError (T : Txt K mg a) : ∀ c b, mt_BridgeError c = some b → PySem.W.exmOne K (.ref ((gt K a).cls c)) (.ref ((gt K a).cls 0)) = some b := by
  intro c b h
  unfold mt_BridgeError at h
  split at h
  · cases h; exact T.xm_BridgeError_BridgeError
  · cases h; exact T.xm_BadRatio_BridgeError
  · cases h; exact T.xm_BadForce_BridgeError
  · cases h; exact T.xm_BadLoad_BridgeError
  · cases h; exact T.xm_OtherSize_BridgeError
  · cases h; exact T.xm_NoStone_BridgeError
  · cases h; exact T.xm_NoJoint_BridgeError
  · cases h; exact T.xm_NoCorner_BridgeError
  · cases h; exact T.xm_BadBridge_BridgeError
  · cases h; exact T.xm_NoPart_BridgeError
  · cases h; exact T.xm_BadRing_BridgeError
  · cases h; exact T.xm_BadCut_BridgeError
  · cases h; exact T.xm_BadThrust_BridgeError
  · cases h; exact T.xm_BadCorners_BridgeError
  · cases h; exact T.xm_InLine_BridgeError
  · cases h; exact T.xm_BadMotion_BridgeError
  · cases h; exact T.xm_BadWeights_BridgeError
  · cases h; exact T.xm_Unbalanced_BridgeError
  · cases h; exact T.xm_NotStanding_BridgeError
  · cases h; exact T.xm_BadPalette_BridgeError
  · cases h; exact T.xm_BadMix_BridgeError
  · cases h; exact T.xm_BadRows_BridgeError
  · cases h; exact T.xm_BadCart_BridgeError
  · cases h; exact T.xm_BadRule_BridgeError
  · cases h; exact T.xm_NoCart_BridgeError
  · cases h; exact T.xm_BadRoad_BridgeError
  · cases h; exact T.xm_NoLane_BridgeError
  · cases h; exact T.xm_BadLimit_BridgeError
  · cases h; exact T.xm_NotSafe_BridgeError
  · cases h; exact T.xm_BadYard_BridgeError
  · cases h; exact T.xm_BadStage_BridgeError
  · cases h; exact T.xm_BadChange_BridgeError
  · cases h; exact T.xm_NoChange_BridgeError
  · cases h; exact T.xm_BadRow_BridgeError
  · cases h
theorem ec_NoPart (T : Txt K mg a) {c : Nat} (h : mt_NoPart c = some true) : ExcC K ((gt K a).cls c) := by
  unfold mt_NoPart at h
  split at h
  · cases h
  · cases h
  · cases h
  · cases h
  · cases h
  · cases h
  · cases h
  · cases h
  · cases h
  · exact T.y_NoPart
  · cases h
  · cases h
  · cases h
  · cases h
  · cases h
  · cases h
  · cases h
  · cases h
  · cases h
  · cases h
  · cases h
  · cases h
  · cases h
  · cases h
  · cases h
  · cases h
  · cases h
  · cases h
  · cases h
  · cases h
  · cases h
  · cases h
  · cases h
  · cases h
  · cases h
theorem xf_NoPart (T : Txt K mg a) {c : Nat} (h : mt_NoPart c = some true) : XfC K ((gt K a).cls c) := ⟨(ec_NoPart T h).hg, (ec_NoPart T h).hk, (ec_NoPart T h).hs, (ec_NoPart T h).hd⟩
theorem xn_NoPart_last (T : Txt K mg a) (c : Nat) (h : mt_NoPart c = some true) : PySem.W.findIn K (.ref ((gt K a).cls c)) "last" = some none := by
  unfold mt_NoPart at h
  split at h
  · cases h
  · cases h
  · cases h
  · cases h
  · cases h
  · cases h
  · cases h
  · cases h
  · cases h
  · exact T.xn_NoPart_last
  · cases h
  · cases h
  · cases h
  · cases h
  · cases h
  · cases h
  · cases h
  · cases h
  · cases h
  · cases h
  · cases h
  · cases h
  · cases h
  · cases h
  · cases h
  · cases h
  · cases h
  · cases h
  · cases h
  · cases h
  · cases h
  · cases h
  · cases h
  · cases h
  · cases h
theorem xn_NoPart_first (T : Txt K mg a) (c : Nat) (h : mt_NoPart c = some true) : PySem.W.findIn K (.ref ((gt K a).cls c)) "first" = some none := by
  unfold mt_NoPart at h
  split at h
  · cases h
  · cases h
  · cases h
  · cases h
  · cases h
  · cases h
  · cases h
  · cases h
  · cases h
  · exact T.xn_NoPart_first
  · cases h
  · cases h
  · cases h
  · cases h
  · cases h
  · cases h
  · cases h
  · cases h
  · cases h
  · cases h
  · cases h
  · cases h
  · cases h
  · cases h
  · cases h
  · cases h
  · cases h
  · cases h
  · cases h
  · cases h
  · cases h
  · cases h
  · cases h
  · cases h
  · cases h
theorem xca (T : Txt K mg a) : XcA (gt K a) K 34 0 := by
  refine ⟨T.xnd, ?_, ?_, ?_⟩
  · intro c hc
    match c, hc with
    | 0, _ => exact T.mo_BridgeError
    | 1, _ => exact T.mo_BadRatio
    | 2, _ => exact T.mo_BadForce
    | 3, _ => exact T.mo_BadLoad
    | 4, _ => exact T.mo_OtherSize
    | 5, _ => exact T.mo_NoStone
    | 6, _ => exact T.mo_NoJoint
    | 7, _ => exact T.mo_NoCorner
    | 8, _ => exact T.mo_BadBridge
    | 9, _ => exact T.mo_NoPart
    | 10, _ => exact T.mo_BadRing
    | 11, _ => exact T.mo_BadCut
    | 12, _ => exact T.mo_BadThrust
    | 13, _ => exact T.mo_BadCorners
    | 14, _ => exact T.mo_InLine
    | 15, _ => exact T.mo_BadMotion
    | 16, _ => exact T.mo_BadWeights
    | 17, _ => exact T.mo_Unbalanced
    | 18, _ => exact T.mo_NotStanding
    | 19, _ => exact T.mo_BadPalette
    | 20, _ => exact T.mo_BadMix
    | 21, _ => exact T.mo_BadRows
    | 22, _ => exact T.mo_BadCart
    | 23, _ => exact T.mo_BadRule
    | 24, _ => exact T.mo_NoCart
    | 25, _ => exact T.mo_BadRoad
    | 26, _ => exact T.mo_NoLane
    | 27, _ => exact T.mo_BadLimit
    | 28, _ => exact T.mo_NotSafe
    | 29, _ => exact T.mo_BadYard
    | 30, _ => exact T.mo_BadStage
    | 31, _ => exact T.mo_BadChange
    | 32, _ => exact T.mo_NoChange
    | 33, _ => exact T.mo_BadRow
    | n + 34, h => exact absurd h (by omega)
  · intro c hc
    match c, hc with
    | 0, _ => exact T.e_BridgeError.ox.tyC
    | 1, _ => exact T.e_BadRatio.ox.tyC
    | 2, _ => exact T.e_BadForce.ox.tyC
    | 3, _ => exact T.e_BadLoad.ox.tyC
    | 4, _ => exact T.e_OtherSize.ox.tyC
    | 5, _ => exact T.e_NoStone.ox.tyC
    | 6, _ => exact T.e_NoJoint.ox.tyC
    | 7, _ => exact T.e_NoCorner.ox.tyC
    | 8, _ => exact T.e_BadBridge.ox.tyC
    | 9, _ => exact T.e_NoPart.ox.tyC
    | 10, _ => exact T.e_BadRing.ox.tyC
    | 11, _ => exact T.e_BadCut.ox.tyC
    | 12, _ => exact T.e_BadThrust.ox.tyC
    | 13, _ => exact T.e_BadCorners.ox.tyC
    | 14, _ => exact T.e_InLine.ox.tyC
    | 15, _ => exact T.e_BadMotion.ox.tyC
    | 16, _ => exact T.e_BadWeights.ox.tyC
    | 17, _ => exact T.e_Unbalanced.ox.tyC
    | 18, _ => exact T.e_NotStanding.ox.tyC
    | 19, _ => exact T.e_BadPalette.ox.tyC
    | 20, _ => exact T.e_BadMix.ox.tyC
    | 21, _ => exact T.e_BadRows.ox.tyC
    | 22, _ => exact T.e_BadCart.ox.tyC
    | 23, _ => exact T.e_BadRule.ox.tyC
    | 24, _ => exact T.e_NoCart.ox.tyC
    | 25, _ => exact T.e_BadRoad.ox.tyC
    | 26, _ => exact T.e_NoLane.ox.tyC
    | 27, _ => exact T.e_BadLimit.ox.tyC
    | 28, _ => exact T.e_NotSafe.ox.tyC
    | 29, _ => exact T.e_BadYard.ox.tyC
    | 30, _ => exact T.e_BadStage.ox.tyC
    | 31, _ => exact T.e_BadChange.ox.tyC
    | 32, _ => exact T.e_NoChange.ox.tyC
    | 33, _ => exact T.e_BadRow.ox.tyC
    | n + 34, h => exact absurd h (by omega)
  · intro c hc
    match c, hc with
    | 0, _ => exact T.y_BridgeError
    | 1, _ => exact T.y_BadRatio
    | 2, _ => exact T.y_BadForce
    | 3, _ => exact T.y_BadLoad
    | 4, _ => exact T.y_OtherSize
    | 5, _ => exact T.y_NoStone
    | 6, _ => exact T.y_NoJoint
    | 7, _ => exact T.y_NoCorner
    | 8, _ => exact T.y_BadBridge
    | 9, _ => exact T.y_NoPart
    | 10, _ => exact T.y_BadRing
    | 11, _ => exact T.y_BadCut
    | 12, _ => exact T.y_BadThrust
    | 13, _ => exact T.y_BadCorners
    | 14, _ => exact T.y_InLine
    | 15, _ => exact T.y_BadMotion
    | 16, _ => exact T.y_BadWeights
    | 17, _ => exact T.y_Unbalanced
    | 18, _ => exact T.y_NotStanding
    | 19, _ => exact T.y_BadPalette
    | 20, _ => exact T.y_BadMix
    | 21, _ => exact T.y_BadRows
    | 22, _ => exact T.y_BadCart
    | 23, _ => exact T.y_BadRule
    | 24, _ => exact T.y_NoCart
    | 25, _ => exact T.y_BadRoad
    | 26, _ => exact T.y_NoLane
    | 27, _ => exact T.y_BadLimit
    | 28, _ => exact T.y_NotSafe
    | 29, _ => exact T.y_BadYard
    | 30, _ => exact T.y_BadStage
    | 31, _ => exact T.y_BadChange
    | 32, _ => exact T.y_NoChange
    | 33, _ => exact T.y_BadRow
    | n + 34, h => exact absurd h (by omega)
theorem xk_what (T : Txt K mg a) : XfOk (gt K a) K "what" cx_what := by
  intro c h
  unfold cx_what at h
  split at h
  · exact ⟨⟨T.y_BadForce.hg, T.y_BadForce.hk, T.y_BadForce.hs, T.y_BadForce.hd⟩, T.xn_BadForce_what⟩
  · exact ⟨⟨T.y_BadLoad.hg, T.y_BadLoad.hk, T.y_BadLoad.hs, T.y_BadLoad.hd⟩, T.xn_BadLoad_what⟩
  · exact ⟨⟨T.y_BadBridge.hg, T.y_BadBridge.hk, T.y_BadBridge.hs, T.y_BadBridge.hd⟩, T.xn_BadBridge_what⟩
  · exact ⟨⟨T.y_BadRing.hg, T.y_BadRing.hk, T.y_BadRing.hs, T.y_BadRing.hd⟩, T.xn_BadRing_what⟩
  · exact ⟨⟨T.y_BadWeights.hg, T.y_BadWeights.hk, T.y_BadWeights.hs, T.y_BadWeights.hd⟩, T.xn_BadWeights_what⟩
  · exact ⟨⟨T.y_BadPalette.hg, T.y_BadPalette.hk, T.y_BadPalette.hs, T.y_BadPalette.hd⟩, T.xn_BadPalette_what⟩
  · exact ⟨⟨T.y_BadCart.hg, T.y_BadCart.hk, T.y_BadCart.hs, T.y_BadCart.hd⟩, T.xn_BadCart_what⟩
  · exact ⟨⟨T.y_BadRule.hg, T.y_BadRule.hk, T.y_BadRule.hs, T.y_BadRule.hd⟩, T.xn_BadRule_what⟩
  · exact ⟨⟨T.y_BadRoad.hg, T.y_BadRoad.hk, T.y_BadRoad.hs, T.y_BadRoad.hd⟩, T.xn_BadRoad_what⟩
  · exact ⟨⟨T.y_BadLimit.hg, T.y_BadLimit.hk, T.y_BadLimit.hs, T.y_BadLimit.hd⟩, T.xn_BadLimit_what⟩
  · exact ⟨⟨T.y_BadYard.hg, T.y_BadYard.hk, T.y_BadYard.hs, T.y_BadYard.hd⟩, T.xn_BadYard_what⟩
  · exact ⟨⟨T.y_BadChange.hg, T.y_BadChange.hk, T.y_BadChange.hs, T.y_BadChange.hd⟩, T.xn_BadChange_what⟩
  · exact ⟨⟨T.y_BadRow.hg, T.y_BadRow.hk, T.y_BadRow.hs, T.y_BadRow.hd⟩, T.xn_BadRow_what⟩
  · cases h
theorem xk_corner (T : Txt K mg a) : XfOk (gt K a) K "corner" cx_corner := by
  intro c h
  unfold cx_corner at h
  split at h
  · exact ⟨⟨T.y_NoCorner.hg, T.y_NoCorner.hk, T.y_NoCorner.hs, T.y_NoCorner.hd⟩, T.xn_NoCorner_corner⟩
  · cases h
theorem xk_joint (T : Txt K mg a) : XfOk (gt K a) K "joint" cx_joint := by
  intro c h
  unfold cx_joint at h
  split at h
  · exact ⟨⟨T.y_NoJoint.hg, T.y_NoJoint.hk, T.y_NoJoint.hs, T.y_NoJoint.hd⟩, T.xn_NoJoint_joint⟩
  · exact ⟨⟨T.y_BadBridge.hg, T.y_BadBridge.hk, T.y_BadBridge.hs, T.y_BadBridge.hd⟩, T.xn_BadBridge_joint⟩
  · cases h
theorem xk_stone (T : Txt K mg a) : XfOk (gt K a) K "stone" cx_stone := by
  intro c h
  unfold cx_stone at h
  split at h
  · exact ⟨⟨T.y_NoStone.hg, T.y_NoStone.hk, T.y_NoStone.hs, T.y_NoStone.hd⟩, T.xn_NoStone_stone⟩
  · exact ⟨⟨T.y_BadRing.hg, T.y_BadRing.hk, T.y_BadRing.hs, T.y_BadRing.hd⟩, T.xn_BadRing_stone⟩
  · cases h
theorem xk_last (T : Txt K mg a) : XfOk (gt K a) K "last" cx_last := by
  intro c h
  unfold cx_last at h
  split at h
  · exact ⟨⟨T.y_NoPart.hg, T.y_NoPart.hk, T.y_NoPart.hs, T.y_NoPart.hd⟩, T.xn_NoPart_last⟩
  · cases h
theorem xk_first (T : Txt K mg a) : XfOk (gt K a) K "first" cx_first := by
  intro c h
  unfold cx_first at h
  split at h
  · exact ⟨⟨T.y_NoPart.hg, T.y_NoPart.hk, T.y_NoPart.hs, T.y_NoPart.hd⟩, T.xn_NoPart_first⟩
  · cases h
theorem xk_other (T : Txt K mg a) : XfOk (gt K a) K "other" cx_other := by
  intro c h
  unfold cx_other at h
  split at h
  · exact ⟨⟨T.y_BadCut.hg, T.y_BadCut.hk, T.y_BadCut.hs, T.y_BadCut.hd⟩, T.xn_BadCut_other⟩
  · cases h
theorem xk_one (T : Txt K mg a) : XfOk (gt K a) K "one" cx_one := by
  intro c h
  unfold cx_one at h
  split at h
  · exact ⟨⟨T.y_BadCut.hg, T.y_BadCut.hk, T.y_BadCut.hs, T.y_BadCut.hd⟩, T.xn_BadCut_one⟩
  · cases h
theorem xk_corners (T : Txt K mg a) : XfOk (gt K a) K "corners" cx_corners := by
  intro c h
  unfold cx_corners at h
  split at h
  · exact ⟨⟨T.y_InLine.hg, T.y_InLine.hk, T.y_InLine.hs, T.y_InLine.hd⟩, T.xn_InLine_corners⟩
  · cases h
theorem xk_mechanism (T : Txt K mg a) : XfOk (gt K a) K "mechanism" cx_mechanism := by
  intro c h
  unfold cx_mechanism at h
  split at h
  · exact ⟨⟨T.y_NotStanding.hg, T.y_NotStanding.hk, T.y_NotStanding.hs, T.y_NotStanding.hd⟩, T.xn_NotStanding_mechanism⟩
  · exact ⟨⟨T.y_NotSafe.hg, T.y_NotSafe.hk, T.y_NotSafe.hs, T.y_NotSafe.hd⟩, T.xn_NotSafe_mechanism⟩
  · cases h
theorem xk_index (T : Txt K mg a) : XfOk (gt K a) K "index" cx_index := by
  intro c h
  unfold cx_index at h
  split at h
  · exact ⟨⟨T.y_BadRule.hg, T.y_BadRule.hk, T.y_BadRule.hs, T.y_BadRule.hd⟩, T.xn_BadRule_index⟩
  · cases h
theorem xk_name (T : Txt K mg a) : XfOk (gt K a) K "name" cx_name := by
  intro c h
  unfold cx_name at h
  split at h
  · exact ⟨⟨T.y_NoCart.hg, T.y_NoCart.hk, T.y_NoCart.hs, T.y_NoCart.hd⟩, T.xn_NoCart_name⟩
  · cases h
theorem xk_lane (T : Txt K mg a) : XfOk (gt K a) K "lane" cx_lane := by
  intro c h
  unfold cx_lane at h
  split at h
  · exact ⟨⟨T.y_NoLane.hg, T.y_NoLane.hk, T.y_NoLane.hs, T.y_NoLane.hd⟩, T.xn_NoLane_lane⟩
  · cases h
theorem xk_number (T : Txt K mg a) : XfOk (gt K a) K "number" cx_number := by
  intro c h
  unfold cx_number at h
  split at h
  · exact ⟨⟨T.y_NoChange.hg, T.y_NoChange.hk, T.y_NoChange.hs, T.y_NoChange.hd⟩, T.xn_NoChange_number⟩
  · cases h
theorem xk_row (T : Txt K mg a) : XfOk (gt K a) K "row" cx_row := by
  intro c h
  unfold cx_row at h
  split at h
  · exact ⟨⟨T.y_BadRow.hg, T.y_BadRow.hk, T.y_BadRow.hs, T.y_BadRow.hd⟩, T.xn_BadRow_row⟩
  · cases h
theorem oke_BadForce (T : Txt K mg a) : FnOk P w K mg base (L2.CX P w) 1 a.i_BadForce a.di_BadForce ["self", "what"] (spX1 a.c_BadForce "what") := ok_x1 T.e_BadForce.fn sci_BadForce rfl T.e_BadForce.ox T.xn_BadForce_what
theorem oke_BadLoad (T : Txt K mg a) : FnOk P w K mg base (L2.CX P w) 1 a.i_BadLoad a.di_BadLoad ["self", "what"] (spX1 a.c_BadLoad "what") := ok_x1 T.e_BadLoad.fn sci_BadLoad rfl T.e_BadLoad.ox T.xn_BadLoad_what
theorem oke_NoStone (T : Txt K mg a) : FnOk P w K mg base (L2.CX P w) 1 a.i_NoStone a.di_NoStone ["self", "stone"] (spX1 a.c_NoStone "stone") := ok_x1 T.e_NoStone.fn sci_NoStone rfl T.e_NoStone.ox T.xn_NoStone_stone
theorem oke_NoJoint (T : Txt K mg a) : FnOk P w K mg base (L2.CX P w) 1 a.i_NoJoint a.di_NoJoint ["self", "joint"] (spX1 a.c_NoJoint "joint") := ok_x1 T.e_NoJoint.fn sci_NoJoint rfl T.e_NoJoint.ox T.xn_NoJoint_joint
theorem oke_NoCorner (T : Txt K mg a) : FnOk P w K mg base (L2.CX P w) 1 a.i_NoCorner a.di_NoCorner ["self", "corner"] (spX1 a.c_NoCorner "corner") := ok_x1 T.e_NoCorner.fn sci_NoCorner rfl T.e_NoCorner.ox T.xn_NoCorner_corner
theorem oke_BadBridge (T : Txt K mg a) : FnOk P w K mg base (L2.CX P w) 1 a.i_BadBridge a.di_BadBridge ["self", "what", "joint"] (spX2 a.c_BadBridge "what" "joint") := ok_x2 T.e_BadBridge.fn sci_BadBridge rfl T.e_BadBridge.ox T.xn_BadBridge_what T.xn_BadBridge_joint
theorem oke_NoPart (T : Txt K mg a) : FnOk P w K mg base (L2.CX P w) 1 a.i_NoPart a.di_NoPart ["self", "first", "last"] (spX2 a.c_NoPart "first" "last") := ok_x2 T.e_NoPart.fn sci_NoPart rfl T.e_NoPart.ox T.xn_NoPart_first T.xn_NoPart_last
theorem oke_BadRing (T : Txt K mg a) : FnOk P w K mg base (L2.CX P w) 1 a.i_BadRing a.di_BadRing ["self", "what", "stone"] (spX2 a.c_BadRing "what" "stone") := ok_x2 T.e_BadRing.fn sci_BadRing rfl T.e_BadRing.ox T.xn_BadRing_what T.xn_BadRing_stone
theorem oke_BadCut (T : Txt K mg a) : FnOk P w K mg base (L2.CX P w) 1 a.i_BadCut a.di_BadCut ["self", "one", "other"] (spX2 a.c_BadCut "one" "other") := ok_x2 T.e_BadCut.fn sci_BadCut rfl T.e_BadCut.ox T.xn_BadCut_one T.xn_BadCut_other
theorem oke_InLine (T : Txt K mg a) : FnOk P w K mg base (L2.CX P w) 1 a.i_InLine a.di_InLine ["self", "corners"] (spX1 a.c_InLine "corners") := ok_x1 T.e_InLine.fn sci_InLine rfl T.e_InLine.ox T.xn_InLine_corners
theorem oke_BadWeights (T : Txt K mg a) : FnOk P w K mg base (L2.CX P w) 1 a.i_BadWeights a.di_BadWeights ["self", "what"] (spX1 a.c_BadWeights "what") := ok_x1 T.e_BadWeights.fn sci_BadWeights rfl T.e_BadWeights.ox T.xn_BadWeights_what
theorem oke_NotStanding (T : Txt K mg a) : FnOk P w K mg base (L2.CX P w) 1 a.i_NotStanding a.di_NotStanding ["self", "mechanism"] (spX1 a.c_NotStanding "mechanism") := ok_x1 T.e_NotStanding.fn sci_NotStanding rfl T.e_NotStanding.ox T.xn_NotStanding_mechanism
theorem oke_BadPalette (T : Txt K mg a) : FnOk P w K mg base (L2.CX P w) 1 a.i_BadPalette a.di_BadPalette ["self", "what"] (spX1 a.c_BadPalette "what") := ok_x1 T.e_BadPalette.fn sci_BadPalette rfl T.e_BadPalette.ox T.xn_BadPalette_what
theorem oke_BadCart (T : Txt K mg a) : FnOk P w K mg base (L2.CX P w) 1 a.i_BadCart a.di_BadCart ["self", "what"] (spX1 a.c_BadCart "what") := ok_x1 T.e_BadCart.fn sci_BadCart rfl T.e_BadCart.ox T.xn_BadCart_what
theorem oke_BadRule (T : Txt K mg a) : FnOk P w K mg base (L2.CX P w) 1 a.i_BadRule a.di_BadRule ["self", "what", "index"] (spX2 a.c_BadRule "what" "index") := ok_x2 T.e_BadRule.fn sci_BadRule rfl T.e_BadRule.ox T.xn_BadRule_what T.xn_BadRule_index
theorem oke_NoCart (T : Txt K mg a) : FnOk P w K mg base (L2.CX P w) 1 a.i_NoCart a.di_NoCart ["self", "name"] (spX1 a.c_NoCart "name") := ok_x1 T.e_NoCart.fn sci_NoCart rfl T.e_NoCart.ox T.xn_NoCart_name
theorem oke_BadRoad (T : Txt K mg a) : FnOk P w K mg base (L2.CX P w) 1 a.i_BadRoad a.di_BadRoad ["self", "what"] (spX1 a.c_BadRoad "what") := ok_x1 T.e_BadRoad.fn sci_BadRoad rfl T.e_BadRoad.ox T.xn_BadRoad_what
theorem oke_NoLane (T : Txt K mg a) : FnOk P w K mg base (L2.CX P w) 1 a.i_NoLane a.di_NoLane ["self", "lane"] (spX1 a.c_NoLane "lane") := ok_x1 T.e_NoLane.fn sci_NoLane rfl T.e_NoLane.ox T.xn_NoLane_lane
theorem oke_BadLimit (T : Txt K mg a) : FnOk P w K mg base (L2.CX P w) 1 a.i_BadLimit a.di_BadLimit ["self", "what"] (spX1 a.c_BadLimit "what") := ok_x1 T.e_BadLimit.fn sci_BadLimit rfl T.e_BadLimit.ox T.xn_BadLimit_what
theorem oke_NotSafe (T : Txt K mg a) : FnOk P w K mg base (L2.CX P w) 1 a.i_NotSafe a.di_NotSafe ["self", "mechanism"] (spX1 a.c_NotSafe "mechanism") := ok_x1 T.e_NotSafe.fn sci_NotSafe rfl T.e_NotSafe.ox T.xn_NotSafe_mechanism
theorem oke_BadYard (T : Txt K mg a) : FnOk P w K mg base (L2.CX P w) 1 a.i_BadYard a.di_BadYard ["self", "what"] (spX1 a.c_BadYard "what") := ok_x1 T.e_BadYard.fn sci_BadYard rfl T.e_BadYard.ox T.xn_BadYard_what
theorem oke_BadChange (T : Txt K mg a) : FnOk P w K mg base (L2.CX P w) 1 a.i_BadChange a.di_BadChange ["self", "what"] (spX1 a.c_BadChange "what") := ok_x1 T.e_BadChange.fn sci_BadChange rfl T.e_BadChange.ox T.xn_BadChange_what
theorem oke_NoChange (T : Txt K mg a) : FnOk P w K mg base (L2.CX P w) 1 a.i_NoChange a.di_NoChange ["self", "number"] (spX1 a.c_NoChange "number") := ok_x1 T.e_NoChange.fn sci_NoChange rfl T.e_NoChange.ox T.xn_NoChange_number
theorem oke_BadRow (T : Txt K mg a) : FnOk P w K mg base (L2.CX P w) 1 a.i_BadRow a.di_BadRow ["self", "row", "what"] (spX2 a.c_BadRow "row" "what") := ok_x2 T.e_BadRow.fn sci_BadRow rfl T.e_BadRow.ox T.xn_BadRow_row T.xn_BadRow_what
def b__law_take_0 : MS := (penPut (mvar 0) (kOp addIL (penGet (mvar 0) .turn) (kC (.int 1))) .turn)
def b__law_take_1 : MS := (zIf (kAnd (kB (kOp eqA (penGet (mvar 0) .digits) (kC (.int 0)))) (kB (kOp ltI (penGet (mvar 0) .next) (kCall lenD (aCons (penGet (mvar 0) .cells) aNil))))) (sseq (sasg (kCall intD (aCons (kOp itemD (penGet (mvar 0) .cells) (penGet (mvar 0) .next)) aNil)) (gnm 2)) (sseq (penPut (mvar 0) (kOp addIL (penGet (mvar 0) .next) (kC (.int 1))) .next) (zIf (kB (kOp geI (mvar 2) (kOp powI (kC (.int 10)) (kC (.int 18))))) (sseq (penPut (mvar 0) (kOp subI (mvar 2) (kOp powI (kC (.int 10)) (kC (.int 18)))) .rest) (penPut (mvar 0) (kC (.int 40)) .digits)) (penPut (mvar 0) (kOp fmdI (kCall intD (aCons (kOp addIL (kOp addIL (kOp mulI (penGet (mvar 0) .seed) (kC (.int 39373))) (kOp fmdI (mvar 2) (kC (.int 2147483423)))) (kC (.int 7))) aNil)) (kC (.int 2147483489))) .seed)))) zNx)
def b__law_take_2 : MS := (zIf (kB (kOp gtI (penGet (mvar 0) .digits) (kC (.int 0)))) (sseq (penPut (mvar 0) (kOp subI (penGet (mvar 0) .digits) (kC (.int 1))) .digits) (sseq (sasg (kOp fmdI (kCall intD (aCons (penGet (mvar 0) .rest) aNil)) (mvar 1)) (gnm 3)) (sseq (penPut (mvar 0) (kOp fdvI (penGet (mvar 0) .rest) (mvar 1)) .rest) (zRet (mvar 3))))) zNx)
def b__law_take_3 : MS := (penPut (mvar 0) (kOp fmdI (kCall intD (aCons (kOp addIL (kOp addIL (kOp mulI (penGet (mvar 0) .seed) (kC (.int 48271))) (kOp mulI (kC (.int 13)) (penGet (mvar 0) .turn))) (kC (.int 5))) aNil)) (kC (.int 2147483647))) .seed)
def b__law_take_4 : MS := (zRet (kOp fmdI (kOp fdvI (kOp fmdI (kCall intD (aCons (kOp mulI (penGet (mvar 0) .seed) (kC (.int 16807))) aNil)) (kC (.int 2147483629))) (kC (.int 64))) (mvar 1)))
def b__law_take : MS := (sseq b__law_take_0 (sseq b__law_take_1 (sseq b__law_take_2 (sseq b__law_take_3 b__law_take_4))))
def m__law_take : List D → M D := mdef 4 b__law_take
theorem ok__law_take (T : Txt K mg a) : FnOk P w K mg base (L2.CX P w) 1 a.f__law_take a.d__law_take ["_law_pen_here", "_law_many"] (spM (gt K a) 2 m__law_take) :=
  ok_fd T.t__law_take sc__law_take rfl fun cdv A outer s H E hr => by
    have tk0 := takes_of (X := (cxOf (L2.CX P w) P w K mg base ["_law_pen_here", "_law_many", "_law_cell", "_law_digit"] "_law_take" (defScope s__law_take) a.f__law_take cdv A outer s H E)) (E := E) rfl rfl rfl rfl
    have po0 : PassesOwn (model P w) (cxOf (L2.CX P w) P w K mg base ["_law_pen_here", "_law_many", "_law_cell", "_law_digit"] "_law_take" (defScope s__law_take) a.f__law_take cdv A outer s H E).A (cxOf (L2.CX P w) P w K mg base ["_law_pen_here", "_law_many", "_law_cell", "_law_digit"] "_law_take" (defScope s__law_take) a.f__law_take cdv A outer s H E).env (cxOf (L2.CX P w) P w K mg base ["_law_pen_here", "_law_many", "_law_cell", "_law_digit"] "_law_take" (defScope s__law_take) a.f__law_take cdv A outer s H E).xe := passes_of rfl
    exact ⟨_, (dss_cons (ds_penPut .turn (hu_of hr) (de_var 0) (x_op (op_add.or op_cat) prim_addIL (de_penGet .turn (hu_of hr) (de_var 0) rfl) x_int) rfl) (dss_cons (z_if (dt_w (w_and (q_cmp (op_eqA rfl hr.units) prim_eq (de_penGet .digits (hu_of hr) (de_var 0) rfl) x_int) (w_and1 (q_cmp op_lt prim_lt (de_penGet .next (hu_of hr) (de_var 0) rfl) (x_callB (cr_len rfl) (prim_len) T.n_len (by decide +kernel) (a_cons (de_penGet .cells (hu_of hr) (de_var 0) rfl) a_nil)))))) (dss_cons (ds_set (i := 2) sc__law_take.nd (x_callTy call_int1 prim_int T.n_int (by decide +kernel) (a_cons (x_ix rfl (de_penGet .cells (hu_of hr) (de_var 0) rfl) (de_penGet .next (hu_of hr) (de_var 0) rfl)) a_nil))) (dss_cons (ds_penPut .next (hu_of hr) (de_var 0) (x_op (op_add.or op_cat) prim_addIL (de_penGet .next (hu_of hr) (de_var 0) rfl) x_int) rfl) (dss_one (z_if (q_cmp op_ge prim_ge (de_var 2) (x_op op_pow prim_pow x_int x_int)) (dss_cons (ds_penPut .rest (hu_of hr) (de_var 0) (x_op op_sub prim_sub (de_var 2) (x_op op_pow prim_pow x_int x_int)) rfl) (dss_one (ds_penPut .digits (hu_of hr) (de_var 0) x_int rfl))) (dss_one (ds_penPut .seed (hu_of hr) (de_var 0) (x_op op_modN prim_fmd (x_callTy call_int1 prim_int T.n_int (by decide +kernel) (a_cons (x_op (op_add.or op_cat) prim_addIL (x_op (op_add.or op_cat) prim_addIL (x_op op_mulX prim_mul (de_penGet .seed (hu_of hr) (de_var 0) rfl) x_int) (x_op op_modN prim_fmd (de_var 2) x_int)) x_int) a_nil)) x_int) rfl)))))) z_nil) (dss_cons (z_if (q_cmp op_gt prim_gt (de_penGet .digits (hu_of hr) (de_var 0) rfl) x_int) (dss_cons (ds_penPut .digits (hu_of hr) (de_var 0) (x_op op_sub prim_sub (de_penGet .digits (hu_of hr) (de_var 0) rfl) x_int) rfl) (dss_cons (ds_set (i := 3) sc__law_take.nd (x_op op_modN prim_fmd (x_callTy call_int1 prim_int T.n_int (by decide +kernel) (a_cons (de_penGet .rest (hu_of hr) (de_var 0) rfl) a_nil)) (de_var 1))) (dss_cons (ds_penPut .rest (hu_of hr) (de_var 0) (x_op op_fdivX prim_fdv (de_penGet .rest (hu_of hr) (de_var 0) rfl) (de_var 1)) rfl) (dss_one (z_ret (de_var 3)))))) z_nil) (dss_cons (ds_penPut .seed (hu_of hr) (de_var 0) (x_op op_modN prim_fmd (x_callTy call_int1 prim_int T.n_int (by decide +kernel) (a_cons (x_op (op_add.or op_cat) prim_addIL (x_op (op_add.or op_cat) prim_addIL (x_op op_mulX prim_mul (de_penGet .seed (hu_of hr) (de_var 0) rfl) x_int) (x_op op_mulX prim_mul x_int (de_penGet .turn (hu_of hr) (de_var 0) rfl))) x_int) a_nil)) x_int) rfl) (dss_one (z_ret (x_op op_modN prim_fmd (x_op op_fdivX prim_fdv (x_op op_modN prim_fmd (x_callTy call_int1 prim_int T.n_int (by decide +kernel) (a_cons (x_op op_mulX prim_mul (de_penGet .seed (hu_of hr) (de_var 0) rfl) x_int) a_nil)) x_int) x_int) (de_var 1))))))))⟩
def b__law_of : MS := (zRet (kOp itemD (mvar 1) (kCall m__law_take (aCons (mvar 0) (aCons (kCall lenD (aCons (mvar 1) aNil)) aNil)))))
def m__law_of : List D → M D := mdef 2 b__law_of
theorem ok__law_of (T : Txt K mg a) : FnOk P w K mg base (L2.CX P w) 2 a.f__law_of a.d__law_of ["_law_pen_here", "_law_some"] (spM (gt K a) 2 m__law_of) :=
  ok_fd T.t__law_of sc__law_of rfl fun cdv A outer s H E hr => by
    have tk0 := takes_of (X := (cxOf (L2.CX P w) P w K mg base ["_law_pen_here", "_law_some"] "_law_of" (defScope s__law_of) a.f__law_of cdv A outer s H E)) (E := E) rfl rfl rfl rfl
    have po0 : PassesOwn (model P w) (cxOf (L2.CX P w) P w K mg base ["_law_pen_here", "_law_some"] "_law_of" (defScope s__law_of) a.f__law_of cdv A outer s H E).A (cxOf (L2.CX P w) P w K mg base ["_law_pen_here", "_law_some"] "_law_of" (defScope s__law_of) a.f__law_of cdv A outer s H E).env (cxOf (L2.CX P w) P w K mg base ["_law_pen_here", "_law_some"] "_law_of" (defScope s__law_of) a.f__law_of cdv A outer s H E).xe := passes_of rfl
    exact ⟨_, (dss_one (z_ret (x_ix rfl (de_var 1) (x_call (ok__law_take T) (hr.mono (by decide)) tk0 T.m__law_take T.t__law_take.kp T.b__law_take (a_cons (de_var 0) (a_cons (x_callB (cr_len rfl) (prim_len) T.n_len (by decide +kernel) (a_cons (de_var 1) a_nil)) a_nil)) (l_cons (l_cons l_nil))))))⟩
def b__law_value_0 : MS := (sasg (kOp addIL (kOp mulI (kCall m__law_take (aCons (mvar 0) (aCons (kOp powI (kC (.int 10)) (kC (.int 15))) aNil))) (kOp powI (kC (.int 10)) (kC (.int 15)))) (kCall m__law_take (aCons (mvar 0) (aCons (kOp powI (kC (.int 10)) (kC (.int 15))) aNil)))) (gnm 1))
def b__law_value_1 : MS := (zRet (kCall m__law_of (aCons (mvar 0) (aCons (kCall lstD (aCons (mvar 1) (aCons (kUn negI (mvar 1)) (aCons (kC (.str "corner")) (aCons (kCall strD (aCons (mvar 1) aNil)) (aCons (kCall tupD (aCons (kC (.int 0)) (aCons (kC (.int 3)) (aCons (kC (.int 4)) aNil)))) (aCons (kCall tupD (aCons (mvar 1) (aCons (kC (.str "x")) aNil))) (aCons (kCall lstD (aCons (mvar 1) aNil)) (aCons (kC .non) (aCons (kC (.bl true)) (aCons (kC (.int 0)) aNil))))))))))) aNil))))
def b__law_value : MS := (sseq b__law_value_0 b__law_value_1)
def m__law_value : List D → M D := mdef 2 b__law_value
theorem ok__law_value (T : Txt K mg a) : FnOk P w K mg base (L2.CX P w) 3 a.f__law_value a.d__law_value ["_law_pen_here"] (spM (gt K a) 1 m__law_value) :=
  ok_fd T.t__law_value sc__law_value rfl fun cdv A outer s H E hr => by
    have tk0 := takes_of (X := (cxOf (L2.CX P w) P w K mg base ["_law_pen_here", "_law_number"] "_law_value" (defScope s__law_value) a.f__law_value cdv A outer s H E)) (E := E) rfl rfl rfl rfl
    have po0 : PassesOwn (model P w) (cxOf (L2.CX P w) P w K mg base ["_law_pen_here", "_law_number"] "_law_value" (defScope s__law_value) a.f__law_value cdv A outer s H E).A (cxOf (L2.CX P w) P w K mg base ["_law_pen_here", "_law_number"] "_law_value" (defScope s__law_value) a.f__law_value cdv A outer s H E).env (cxOf (L2.CX P w) P w K mg base ["_law_pen_here", "_law_number"] "_law_value" (defScope s__law_value) a.f__law_value cdv A outer s H E).xe := passes_of rfl
    exact ⟨_, (dss_cons (ds_set (i := 1) sc__law_value.nd (x_op (op_add.or op_cat) prim_addIL (x_op op_mulX prim_mul (x_call (ok__law_take T) (hr.mono (by decide)) tk0 T.m__law_take T.t__law_take.kp T.b__law_take (a_cons (de_var 0) (a_cons (x_op op_pow prim_pow x_int x_int) a_nil)) (l_cons (l_cons l_nil))) (x_op op_pow prim_pow x_int x_int)) (x_call (ok__law_take T) (hr.mono (by decide)) tk0 T.m__law_take T.t__law_take.kp T.b__law_take (a_cons (de_var 0) (a_cons (x_op op_pow prim_pow x_int x_int) a_nil)) (l_cons (l_cons l_nil))))) (dss_one (z_ret (x_call (ok__law_of T) (hr.mono (by decide)) tk0 T.m__law_of T.t__law_of.kp T.b__law_of (a_cons (de_var 0) (a_cons (x_lst (a_cons (de_var 1) (a_cons (x_un un_neg prim_neg (de_var 1)) (a_cons x_str (a_cons (x_callTy call_str_int prim_str T.n_str (by decide +kernel) (a_cons (de_var 1) a_nil)) (a_cons (x_tup (a_cons x_int (a_cons x_int (a_cons x_int a_nil)))) (a_cons (x_tup (a_cons (de_var 1) (a_cons x_str a_nil))) (a_cons (x_lst (a_cons (de_var 1) a_nil)) (a_cons x_non (a_cons x_bl (a_cons x_int a_nil))))))))))) a_nil)) (l_cons (l_cons l_nil))))))⟩
def b__law_first_0 : MS := (sasg (kCall tupD (aCons (kExo 2 ["what"] (aCons (mvar 0) aNil)) (aCons (kExo 3 ["what"] (aCons (mvar 1) aNil)) (aCons (kExo 5 ["stone"] (aCons (mvar 0) aNil)) (aCons (kExo 6 ["joint"] (aCons (mvar 1) aNil)) aNil))))) (gtm 4 (gcn (gnm 3) (gcn (gnm 4) (gcn (gnm 5) (gcn (gnm 6) gnl))))))
def b__law_first_1 : MS := (sasg (kCall tupD (aCons (kExo 7 ["corner"] (aCons (mvar 0) aNil)) (aCons (kExo 8 ["what", "joint"] (aCons (mvar 0) (aCons (mvar 1) aNil))) (aCons (kExo 9 ["first", "last"] (aCons (mvar 1) (aCons (mvar 0) aNil))) (aCons (kExo 10 ["what", "stone"] (aCons (mvar 0) (aCons (mvar 1) aNil))) aNil))))) (gtm 4 (gcn (gnm 7) (gcn (gnm 8) (gcn (gnm 9) (gcn (gnm 10) gnl))))))
def b__law_first_2 : MS := (spar 11 12 (aCons (kExo 11 ["one", "other"] (aCons (mvar 1) (aCons (mvar 0) aNil))) (aCons (kExo 14 ["corners"] (aCons (kCall tupD (aCons (mvar 1) (aCons (kC (.int 3)) (aCons (kC (.int 4)) aNil)))) aNil)) aNil)))
def b__law_first_3 : MS := (sasg (kCall lstD (aCons (kCall tupD (aCons (kExo 1 [] aNil) (aCons (kCall lstD aNil) (aCons (kCall lstD aNil) aNil)))) (aCons (kCall tupD (aCons (mvar 3) (aCons (kCall lstD (aCons (kXfo cx_what "what" (mvar 3)) aNil)) (aCons (kCall lstD (aCons (mvar 0) aNil)) aNil)))) (aCons (kCall tupD (aCons (mvar 4) (aCons (kCall lstD (aCons (kXfo cx_what "what" (mvar 4)) aNil)) (aCons (kCall lstD (aCons (mvar 1) aNil)) aNil)))) (aCons (kCall tupD (aCons (kExo 4 [] aNil) (aCons (kCall lstD aNil) (aCons (kCall lstD aNil) aNil)))) aNil))))) (gnm 2))
def b__law_first_4 : MS := (sasg (kOp addIL (mvar 2) (kCall lstD (aCons (kCall tupD (aCons (mvar 5) (aCons (kCall lstD (aCons (kXfo cx_stone "stone" (mvar 5)) aNil)) (aCons (kCall lstD (aCons (mvar 0) aNil)) aNil)))) (aCons (kCall tupD (aCons (mvar 6) (aCons (kCall lstD (aCons (kXfo cx_joint "joint" (mvar 6)) aNil)) (aCons (kCall lstD (aCons (mvar 1) aNil)) aNil)))) (aCons (kCall tupD (aCons (mvar 7) (aCons (kCall lstD (aCons (kXfo cx_corner "corner" (mvar 7)) aNil)) (aCons (kCall lstD (aCons (mvar 0) aNil)) aNil)))) aNil))))) (gnm 2))
def b__law_first_5 : MS := (sasg (kOp addIL (mvar 2) (kCall lstD (aCons (kCall tupD (aCons (mvar 8) (aCons (kCall lstD (aCons (kXfo cx_what "what" (mvar 8)) (aCons (kXfo cx_joint "joint" (mvar 8)) aNil))) (aCons (kCall lstD (aCons (mvar 0) (aCons (mvar 1) aNil))) aNil)))) (aCons (kCall tupD (aCons (mvar 9) (aCons (kCall lstD (aCons (kXfo cx_first "first" (mvar 9)) (aCons (kXfo cx_last "last" (mvar 9)) aNil))) (aCons (kCall lstD (aCons (mvar 1) (aCons (mvar 0) aNil))) aNil)))) aNil)))) (gnm 2))
def b__law_first_6 : MS := (sasg (kOp addIL (mvar 2) (kCall lstD (aCons (kCall tupD (aCons (mvar 10) (aCons (kCall lstD (aCons (kXfo cx_what "what" (mvar 10)) (aCons (kXfo cx_stone "stone" (mvar 10)) aNil))) (aCons (kCall lstD (aCons (mvar 0) (aCons (mvar 1) aNil))) aNil)))) (aCons (kCall tupD (aCons (mvar 11) (aCons (kCall lstD (aCons (kXfo cx_one "one" (mvar 11)) (aCons (kXfo cx_other "other" (mvar 11)) aNil))) (aCons (kCall lstD (aCons (mvar 1) (aCons (mvar 0) aNil))) aNil)))) aNil)))) (gnm 2))
def b__law_first_7 : MS := (zRet (kOp addIL (mvar 2) (kCall lstD (aCons (kCall tupD (aCons (kExo 12 [] aNil) (aCons (kCall lstD aNil) (aCons (kCall lstD aNil) aNil)))) (aCons (kCall tupD (aCons (kExo 13 [] aNil) (aCons (kCall lstD aNil) (aCons (kCall lstD aNil) aNil)))) (aCons (kCall tupD (aCons (mvar 12) (aCons (kCall lstD (aCons (kXfo cx_corners "corners" (mvar 12)) aNil)) (aCons (kCall lstD (aCons (kCall tupD (aCons (mvar 1) (aCons (kC (.int 3)) (aCons (kC (.int 4)) aNil)))) aNil)) aNil)))) aNil))))))
def b__law_first : MS := (sseq b__law_first_0 (sseq b__law_first_1 (sseq b__law_first_2 (sseq b__law_first_3 (sseq b__law_first_4 (sseq b__law_first_5 (sseq b__law_first_6 b__law_first_7)))))))
def m__law_first : List D → M D := mdef 13 b__law_first
theorem ok__law_first (T : Txt K mg a) : FnOk P w K mg base (L2.CX P w) 3 a.f__law_first a.d__law_first ["_law_value_here", "_law_twin"] (spM (gt K a) 2 m__law_first) :=
  ok_fd T.t__law_first sc__law_first rfl fun cdv A outer s H E hr => by
    have tk0 := takes_of (X := (cxOf (L2.CX P w) P w K mg base ["_law_value_here", "_law_twin", "_law_found", "_law_a", "_law_b", "_law_c", "_law_d", "_law_e", "_law_f", "_law_g", "_law_h", "_law_i", "_law_j"] "_law_first" (defScope s__law_first) a.f__law_first cdv A outer s H E)) (E := E) rfl rfl rfl rfl
    have po0 : PassesOwn (model P w) (cxOf (L2.CX P w) P w K mg base ["_law_value_here", "_law_twin", "_law_found", "_law_a", "_law_b", "_law_c", "_law_d", "_law_e", "_law_f", "_law_g", "_law_h", "_law_i", "_law_j"] "_law_first" (defScope s__law_first) a.f__law_first cdv A outer s H E).A (cxOf (L2.CX P w) P w K mg base ["_law_value_here", "_law_twin", "_law_found", "_law_a", "_law_b", "_law_c", "_law_d", "_law_e", "_law_f", "_law_g", "_law_h", "_law_i", "_law_j"] "_law_first" (defScope s__law_first) a.f__law_first cdv A outer s H E).env (cxOf (L2.CX P w) P w K mg base ["_law_value_here", "_law_twin", "_law_found", "_law_a", "_law_b", "_law_c", "_law_d", "_law_e", "_law_f", "_law_g", "_law_h", "_law_i", "_law_j"] "_law_first" (defScope s__law_first) a.f__law_first cdv A outer s H E).xe := passes_of rfl
    exact ⟨_, (dss_cons (ds_asg (vs := [3, 4, 5, 6]) (x_tup (a_cons (x_exo1 (cn := 2) T.e_BadForce (oke_BadForce T) (hr.mono (by decide)) (a_cons (de_var 0) a_nil)) (a_cons (x_exo1 (cn := 3) T.e_BadLoad (oke_BadLoad T) (hr.mono (by decide)) (a_cons (de_var 1) a_nil)) (a_cons (x_exo1 (cn := 5) T.e_NoStone (oke_NoStone T) (hr.mono (by decide)) (a_cons (de_var 0) a_nil)) (a_cons (x_exo1 (cn := 6) T.e_NoJoint (oke_NoJoint T) (hr.mono (by decide)) (a_cons (de_var 1) a_nil)) a_nil))))) (g_tup rfl rfl (g_cons (dg_name (i := 3) (by decide) sc__law_first.nd) (g_cons (dg_name (i := 4) (by decide) sc__law_first.nd) (g_cons (dg_name (i := 5) (by decide) sc__law_first.nd) (g_cons (dg_name (i := 6) (by decide) sc__law_first.nd) g_nil)))))) (dss_cons (ds_asg (vs := [7, 8, 9, 10]) (x_tup (a_cons (x_exo1 (cn := 7) T.e_NoCorner (oke_NoCorner T) (hr.mono (by decide)) (a_cons (de_var 0) a_nil)) (a_cons (x_exo2 (cn := 8) T.e_BadBridge (oke_BadBridge T) (hr.mono (by decide)) (a_cons (de_var 0) (a_cons (de_var 1) a_nil)) (by decide)) (a_cons (x_exo2 (cn := 9) T.e_NoPart (oke_NoPart T) (hr.mono (by decide)) (a_cons (de_var 1) (a_cons (de_var 0) a_nil)) (by decide)) (a_cons (x_exo2 (cn := 10) T.e_BadRing (oke_BadRing T) (hr.mono (by decide)) (a_cons (de_var 0) (a_cons (de_var 1) a_nil)) (by decide)) a_nil))))) (g_tup rfl rfl (g_cons (dg_name (i := 7) (by decide) sc__law_first.nd) (g_cons (dg_name (i := 8) (by decide) sc__law_first.nd) (g_cons (dg_name (i := 9) (by decide) sc__law_first.nd) (g_cons (dg_name (i := 10) (by decide) sc__law_first.nd) g_nil)))))) (dss_cons (ds_par (i := 11) (j := 12) rfl sc__law_first.nd rfl rfl (by decide) rfl rfl (a_cons (x_exo2 (cn := 11) T.e_BadCut (oke_BadCut T) (hr.mono (by decide)) (a_cons (de_var 1) (a_cons (de_var 0) a_nil)) (by decide)) (a_cons (x_exo1 (cn := 14) T.e_InLine (oke_InLine T) (hr.mono (by decide)) (a_cons (x_tup (a_cons (de_var 1) (a_cons x_int (a_cons x_int a_nil)))) a_nil)) a_nil))) (dss_cons (ds_set (i := 2) sc__law_first.nd (x_lst (a_cons (x_tup (a_cons (x_exo0 (cn := 1) T.e_BadRatio sci_BadRatio rfl (hr.mono (by decide))) (a_cons (x_lst a_nil) (a_cons (x_lst a_nil) a_nil)))) (a_cons (x_tup (a_cons (de_var 3) (a_cons (x_lst (a_cons (x_xfo (xk_what T) (de_var 3)) a_nil)) (a_cons (x_lst (a_cons (de_var 0) a_nil)) a_nil)))) (a_cons (x_tup (a_cons (de_var 4) (a_cons (x_lst (a_cons (x_xfo (xk_what T) (de_var 4)) a_nil)) (a_cons (x_lst (a_cons (de_var 1) a_nil)) a_nil)))) (a_cons (x_tup (a_cons (x_exo0 (cn := 4) T.e_OtherSize sci_OtherSize rfl (hr.mono (by decide))) (a_cons (x_lst a_nil) (a_cons (x_lst a_nil) a_nil)))) a_nil)))))) (dss_cons (ds_set (i := 2) sc__law_first.nd (x_op (op_add.or op_cat) prim_addIL (de_var 2) (x_lst (a_cons (x_tup (a_cons (de_var 5) (a_cons (x_lst (a_cons (x_xfo (xk_stone T) (de_var 5)) a_nil)) (a_cons (x_lst (a_cons (de_var 0) a_nil)) a_nil)))) (a_cons (x_tup (a_cons (de_var 6) (a_cons (x_lst (a_cons (x_xfo (xk_joint T) (de_var 6)) a_nil)) (a_cons (x_lst (a_cons (de_var 1) a_nil)) a_nil)))) (a_cons (x_tup (a_cons (de_var 7) (a_cons (x_lst (a_cons (x_xfo (xk_corner T) (de_var 7)) a_nil)) (a_cons (x_lst (a_cons (de_var 0) a_nil)) a_nil)))) a_nil)))))) (dss_cons (ds_set (i := 2) sc__law_first.nd (x_op (op_add.or op_cat) prim_addIL (de_var 2) (x_lst (a_cons (x_tup (a_cons (de_var 8) (a_cons (x_lst (a_cons (x_xfo (xk_what T) (de_var 8)) (a_cons (x_xfo (xk_joint T) (de_var 8)) a_nil))) (a_cons (x_lst (a_cons (de_var 0) (a_cons (de_var 1) a_nil))) a_nil)))) (a_cons (x_tup (a_cons (de_var 9) (a_cons (x_lst (a_cons (x_xfo (xk_first T) (de_var 9)) (a_cons (x_xfo (xk_last T) (de_var 9)) a_nil))) (a_cons (x_lst (a_cons (de_var 1) (a_cons (de_var 0) a_nil))) a_nil)))) a_nil))))) (dss_cons (ds_set (i := 2) sc__law_first.nd (x_op (op_add.or op_cat) prim_addIL (de_var 2) (x_lst (a_cons (x_tup (a_cons (de_var 10) (a_cons (x_lst (a_cons (x_xfo (xk_what T) (de_var 10)) (a_cons (x_xfo (xk_stone T) (de_var 10)) a_nil))) (a_cons (x_lst (a_cons (de_var 0) (a_cons (de_var 1) a_nil))) a_nil)))) (a_cons (x_tup (a_cons (de_var 11) (a_cons (x_lst (a_cons (x_xfo (xk_one T) (de_var 11)) (a_cons (x_xfo (xk_other T) (de_var 11)) a_nil))) (a_cons (x_lst (a_cons (de_var 1) (a_cons (de_var 0) a_nil))) a_nil)))) a_nil))))) (dss_one (z_ret (x_op (op_add.or op_cat) prim_addIL (de_var 2) (x_lst (a_cons (x_tup (a_cons (x_exo0 (cn := 12) T.e_BadThrust sci_BadThrust rfl (hr.mono (by decide))) (a_cons (x_lst a_nil) (a_cons (x_lst a_nil) a_nil)))) (a_cons (x_tup (a_cons (x_exo0 (cn := 13) T.e_BadCorners sci_BadCorners rfl (hr.mono (by decide))) (a_cons (x_lst a_nil) (a_cons (x_lst a_nil) a_nil)))) (a_cons (x_tup (a_cons (de_var 12) (a_cons (x_lst (a_cons (x_xfo (xk_corners T) (de_var 12)) a_nil)) (a_cons (x_lst (a_cons (x_tup (a_cons (de_var 1) (a_cons x_int (a_cons x_int a_nil)))) a_nil)) a_nil)))) a_nil))))))))))))))⟩
def b__law_second_0 : MS := (sasg (kCall tupD (aCons (kExo 16 ["what"] (aCons (mvar 1) aNil)) (aCons (kExo 18 ["mechanism"] (aCons (mvar 0) aNil)) (aCons (kExo 19 ["what"] (aCons (mvar 1) aNil)) (aCons (kExo 22 ["what"] (aCons (mvar 0) aNil)) aNil))))) (gtm 4 (gcn (gnm 3) (gcn (gnm 4) (gcn (gnm 5) (gcn (gnm 6) gnl))))))
def b__law_second_1 : MS := (spar 7 8 (aCons (kExo 23 ["what", "index"] (aCons (mvar 1) (aCons (mvar 0) aNil))) (aCons (kExo 24 ["name"] (aCons (mvar 0) aNil)) aNil)))
def b__law_second_2 : MS := (sasg (kCall lstD (aCons (kCall tupD (aCons (kExo 15 [] aNil) (aCons (kCall lstD aNil) (aCons (kCall lstD aNil) aNil)))) (aCons (kCall tupD (aCons (mvar 3) (aCons (kCall lstD (aCons (kXfo cx_what "what" (mvar 3)) aNil)) (aCons (kCall lstD (aCons (mvar 1) aNil)) aNil)))) (aCons (kCall tupD (aCons (kExo 17 [] aNil) (aCons (kCall lstD aNil) (aCons (kCall lstD aNil) aNil)))) aNil)))) (gnm 2))
def b__law_second_3 : MS := (sasg (kOp addIL (mvar 2) (kCall lstD (aCons (kCall tupD (aCons (mvar 4) (aCons (kCall lstD (aCons (kXfo cx_mechanism "mechanism" (mvar 4)) aNil)) (aCons (kCall lstD (aCons (mvar 0) aNil)) aNil)))) (aCons (kCall tupD (aCons (mvar 5) (aCons (kCall lstD (aCons (kXfo cx_what "what" (mvar 5)) aNil)) (aCons (kCall lstD (aCons (mvar 1) aNil)) aNil)))) (aCons (kCall tupD (aCons (kExo 20 [] aNil) (aCons (kCall lstD aNil) (aCons (kCall lstD aNil) aNil)))) aNil))))) (gnm 2))
def b__law_second_4 : MS := (sasg (kOp addIL (mvar 2) (kCall lstD (aCons (kCall tupD (aCons (kExo 21 [] aNil) (aCons (kCall lstD aNil) (aCons (kCall lstD aNil) aNil)))) (aCons (kCall tupD (aCons (mvar 6) (aCons (kCall lstD (aCons (kXfo cx_what "what" (mvar 6)) aNil)) (aCons (kCall lstD (aCons (mvar 0) aNil)) aNil)))) (aCons (kCall tupD (aCons (mvar 7) (aCons (kCall lstD (aCons (kXfo cx_what "what" (mvar 7)) (aCons (kXfo cx_index "index" (mvar 7)) aNil))) (aCons (kCall lstD (aCons (mvar 1) (aCons (mvar 0) aNil))) aNil)))) aNil))))) (gnm 2))
def b__law_second_5 : MS := (zRet (kOp addIL (mvar 2) (kCall lstD (aCons (kCall tupD (aCons (mvar 8) (aCons (kCall lstD (aCons (kXfo cx_name "name" (mvar 8)) aNil)) (aCons (kCall lstD (aCons (mvar 0) aNil)) aNil)))) aNil))))
def b__law_second : MS := (sseq b__law_second_0 (sseq b__law_second_1 (sseq b__law_second_2 (sseq b__law_second_3 (sseq b__law_second_4 b__law_second_5)))))
def m__law_second : List D → M D := mdef 9 b__law_second
theorem ok__law_second (T : Txt K mg a) : FnOk P w K mg base (L2.CX P w) 3 a.f__law_second a.d__law_second ["_law_value_here", "_law_twin"] (spM (gt K a) 2 m__law_second) :=
  ok_fd T.t__law_second sc__law_second rfl fun cdv A outer s H E hr => by
    have tk0 := takes_of (X := (cxOf (L2.CX P w) P w K mg base ["_law_value_here", "_law_twin", "_law_found", "_law_a", "_law_b", "_law_c", "_law_d", "_law_e", "_law_f"] "_law_second" (defScope s__law_second) a.f__law_second cdv A outer s H E)) (E := E) rfl rfl rfl rfl
    have po0 : PassesOwn (model P w) (cxOf (L2.CX P w) P w K mg base ["_law_value_here", "_law_twin", "_law_found", "_law_a", "_law_b", "_law_c", "_law_d", "_law_e", "_law_f"] "_law_second" (defScope s__law_second) a.f__law_second cdv A outer s H E).A (cxOf (L2.CX P w) P w K mg base ["_law_value_here", "_law_twin", "_law_found", "_law_a", "_law_b", "_law_c", "_law_d", "_law_e", "_law_f"] "_law_second" (defScope s__law_second) a.f__law_second cdv A outer s H E).env (cxOf (L2.CX P w) P w K mg base ["_law_value_here", "_law_twin", "_law_found", "_law_a", "_law_b", "_law_c", "_law_d", "_law_e", "_law_f"] "_law_second" (defScope s__law_second) a.f__law_second cdv A outer s H E).xe := passes_of rfl
    exact ⟨_, (dss_cons (ds_asg (vs := [3, 4, 5, 6]) (x_tup (a_cons (x_exo1 (cn := 16) T.e_BadWeights (oke_BadWeights T) (hr.mono (by decide)) (a_cons (de_var 1) a_nil)) (a_cons (x_exo1 (cn := 18) T.e_NotStanding (oke_NotStanding T) (hr.mono (by decide)) (a_cons (de_var 0) a_nil)) (a_cons (x_exo1 (cn := 19) T.e_BadPalette (oke_BadPalette T) (hr.mono (by decide)) (a_cons (de_var 1) a_nil)) (a_cons (x_exo1 (cn := 22) T.e_BadCart (oke_BadCart T) (hr.mono (by decide)) (a_cons (de_var 0) a_nil)) a_nil))))) (g_tup rfl rfl (g_cons (dg_name (i := 3) (by decide) sc__law_second.nd) (g_cons (dg_name (i := 4) (by decide) sc__law_second.nd) (g_cons (dg_name (i := 5) (by decide) sc__law_second.nd) (g_cons (dg_name (i := 6) (by decide) sc__law_second.nd) g_nil)))))) (dss_cons (ds_par (i := 7) (j := 8) rfl sc__law_second.nd rfl rfl (by decide) rfl rfl (a_cons (x_exo2 (cn := 23) T.e_BadRule (oke_BadRule T) (hr.mono (by decide)) (a_cons (de_var 1) (a_cons (de_var 0) a_nil)) (by decide)) (a_cons (x_exo1 (cn := 24) T.e_NoCart (oke_NoCart T) (hr.mono (by decide)) (a_cons (de_var 0) a_nil)) a_nil))) (dss_cons (ds_set (i := 2) sc__law_second.nd (x_lst (a_cons (x_tup (a_cons (x_exo0 (cn := 15) T.e_BadMotion sci_BadMotion rfl (hr.mono (by decide))) (a_cons (x_lst a_nil) (a_cons (x_lst a_nil) a_nil)))) (a_cons (x_tup (a_cons (de_var 3) (a_cons (x_lst (a_cons (x_xfo (xk_what T) (de_var 3)) a_nil)) (a_cons (x_lst (a_cons (de_var 1) a_nil)) a_nil)))) (a_cons (x_tup (a_cons (x_exo0 (cn := 17) T.e_Unbalanced sci_Unbalanced rfl (hr.mono (by decide))) (a_cons (x_lst a_nil) (a_cons (x_lst a_nil) a_nil)))) a_nil))))) (dss_cons (ds_set (i := 2) sc__law_second.nd (x_op (op_add.or op_cat) prim_addIL (de_var 2) (x_lst (a_cons (x_tup (a_cons (de_var 4) (a_cons (x_lst (a_cons (x_xfo (xk_mechanism T) (de_var 4)) a_nil)) (a_cons (x_lst (a_cons (de_var 0) a_nil)) a_nil)))) (a_cons (x_tup (a_cons (de_var 5) (a_cons (x_lst (a_cons (x_xfo (xk_what T) (de_var 5)) a_nil)) (a_cons (x_lst (a_cons (de_var 1) a_nil)) a_nil)))) (a_cons (x_tup (a_cons (x_exo0 (cn := 20) T.e_BadMix sci_BadMix rfl (hr.mono (by decide))) (a_cons (x_lst a_nil) (a_cons (x_lst a_nil) a_nil)))) a_nil)))))) (dss_cons (ds_set (i := 2) sc__law_second.nd (x_op (op_add.or op_cat) prim_addIL (de_var 2) (x_lst (a_cons (x_tup (a_cons (x_exo0 (cn := 21) T.e_BadRows sci_BadRows rfl (hr.mono (by decide))) (a_cons (x_lst a_nil) (a_cons (x_lst a_nil) a_nil)))) (a_cons (x_tup (a_cons (de_var 6) (a_cons (x_lst (a_cons (x_xfo (xk_what T) (de_var 6)) a_nil)) (a_cons (x_lst (a_cons (de_var 0) a_nil)) a_nil)))) (a_cons (x_tup (a_cons (de_var 7) (a_cons (x_lst (a_cons (x_xfo (xk_what T) (de_var 7)) (a_cons (x_xfo (xk_index T) (de_var 7)) a_nil))) (a_cons (x_lst (a_cons (de_var 1) (a_cons (de_var 0) a_nil))) a_nil)))) a_nil)))))) (dss_one (z_ret (x_op (op_add.or op_cat) prim_addIL (de_var 2) (x_lst (a_cons (x_tup (a_cons (de_var 8) (a_cons (x_lst (a_cons (x_xfo (xk_name T) (de_var 8)) a_nil)) (a_cons (x_lst (a_cons (de_var 0) a_nil)) a_nil)))) a_nil))))))))))⟩
def b__law_third_0 : MS := (sasg (kCall tupD (aCons (kExo 25 ["what"] (aCons (mvar 1) aNil)) (aCons (kExo 26 ["lane"] (aCons (mvar 0) aNil)) (aCons (kExo 27 ["what"] (aCons (mvar 1) aNil)) (aCons (kExo 28 ["mechanism"] (aCons (mvar 0) aNil)) aNil))))) (gtm 4 (gcn (gnm 3) (gcn (gnm 4) (gcn (gnm 5) (gcn (gnm 6) gnl))))))
def b__law_third_1 : MS := (sasg (kCall tupD (aCons (kExo 29 ["what"] (aCons (mvar 1) aNil)) (aCons (kExo 31 ["what"] (aCons (mvar 0) aNil)) (aCons (kExo 32 ["number"] (aCons (mvar 1) aNil)) (aCons (kExo 33 ["row", "what"] (aCons (mvar 0) (aCons (mvar 1) aNil))) aNil))))) (gtm 4 (gcn (gnm 7) (gcn (gnm 8) (gcn (gnm 9) (gcn (gnm 10) gnl))))))
def b__law_third_2 : MS := (sasg (kCall lstD (aCons (kCall tupD (aCons (mvar 3) (aCons (kCall lstD (aCons (kXfo cx_what "what" (mvar 3)) aNil)) (aCons (kCall lstD (aCons (mvar 1) aNil)) aNil)))) (aCons (kCall tupD (aCons (mvar 4) (aCons (kCall lstD (aCons (kXfo cx_lane "lane" (mvar 4)) aNil)) (aCons (kCall lstD (aCons (mvar 0) aNil)) aNil)))) (aCons (kCall tupD (aCons (mvar 5) (aCons (kCall lstD (aCons (kXfo cx_what "what" (mvar 5)) aNil)) (aCons (kCall lstD (aCons (mvar 1) aNil)) aNil)))) aNil)))) (gnm 2))
def b__law_third_3 : MS := (sasg (kOp addIL (mvar 2) (kCall lstD (aCons (kCall tupD (aCons (mvar 6) (aCons (kCall lstD (aCons (kXfo cx_mechanism "mechanism" (mvar 6)) aNil)) (aCons (kCall lstD (aCons (mvar 0) aNil)) aNil)))) (aCons (kCall tupD (aCons (mvar 7) (aCons (kCall lstD (aCons (kXfo cx_what "what" (mvar 7)) aNil)) (aCons (kCall lstD (aCons (mvar 1) aNil)) aNil)))) (aCons (kCall tupD (aCons (kExo 30 [] aNil) (aCons (kCall lstD aNil) (aCons (kCall lstD aNil) aNil)))) aNil))))) (gnm 2))
def b__law_third_4 : MS := (sasg (kOp addIL (mvar 2) (kCall lstD (aCons (kCall tupD (aCons (mvar 8) (aCons (kCall lstD (aCons (kXfo cx_what "what" (mvar 8)) aNil)) (aCons (kCall lstD (aCons (mvar 0) aNil)) aNil)))) (aCons (kCall tupD (aCons (mvar 9) (aCons (kCall lstD (aCons (kXfo cx_number "number" (mvar 9)) aNil)) (aCons (kCall lstD (aCons (mvar 1) aNil)) aNil)))) aNil)))) (gnm 2))
def b__law_third_5 : MS := (zRet (kOp addIL (mvar 2) (kCall lstD (aCons (kCall tupD (aCons (mvar 10) (aCons (kCall lstD (aCons (kXfo cx_row "row" (mvar 10)) (aCons (kXfo cx_what "what" (mvar 10)) aNil))) (aCons (kCall lstD (aCons (mvar 0) (aCons (mvar 1) aNil))) aNil)))) aNil))))
def b__law_third : MS := (sseq b__law_third_0 (sseq b__law_third_1 (sseq b__law_third_2 (sseq b__law_third_3 (sseq b__law_third_4 b__law_third_5)))))
def m__law_third : List D → M D := mdef 11 b__law_third
theorem ok__law_third (T : Txt K mg a) : FnOk P w K mg base (L2.CX P w) 3 a.f__law_third a.d__law_third ["_law_value_here", "_law_twin"] (spM (gt K a) 2 m__law_third) :=
  ok_fd T.t__law_third sc__law_third rfl fun cdv A outer s H E hr => by
    have tk0 := takes_of (X := (cxOf (L2.CX P w) P w K mg base ["_law_value_here", "_law_twin", "_law_found", "_law_a", "_law_b", "_law_c", "_law_d", "_law_e", "_law_f", "_law_g", "_law_h"] "_law_third" (defScope s__law_third) a.f__law_third cdv A outer s H E)) (E := E) rfl rfl rfl rfl
    have po0 : PassesOwn (model P w) (cxOf (L2.CX P w) P w K mg base ["_law_value_here", "_law_twin", "_law_found", "_law_a", "_law_b", "_law_c", "_law_d", "_law_e", "_law_f", "_law_g", "_law_h"] "_law_third" (defScope s__law_third) a.f__law_third cdv A outer s H E).A (cxOf (L2.CX P w) P w K mg base ["_law_value_here", "_law_twin", "_law_found", "_law_a", "_law_b", "_law_c", "_law_d", "_law_e", "_law_f", "_law_g", "_law_h"] "_law_third" (defScope s__law_third) a.f__law_third cdv A outer s H E).env (cxOf (L2.CX P w) P w K mg base ["_law_value_here", "_law_twin", "_law_found", "_law_a", "_law_b", "_law_c", "_law_d", "_law_e", "_law_f", "_law_g", "_law_h"] "_law_third" (defScope s__law_third) a.f__law_third cdv A outer s H E).xe := passes_of rfl
    exact ⟨_, (dss_cons (ds_asg (vs := [3, 4, 5, 6]) (x_tup (a_cons (x_exo1 (cn := 25) T.e_BadRoad (oke_BadRoad T) (hr.mono (by decide)) (a_cons (de_var 1) a_nil)) (a_cons (x_exo1 (cn := 26) T.e_NoLane (oke_NoLane T) (hr.mono (by decide)) (a_cons (de_var 0) a_nil)) (a_cons (x_exo1 (cn := 27) T.e_BadLimit (oke_BadLimit T) (hr.mono (by decide)) (a_cons (de_var 1) a_nil)) (a_cons (x_exo1 (cn := 28) T.e_NotSafe (oke_NotSafe T) (hr.mono (by decide)) (a_cons (de_var 0) a_nil)) a_nil))))) (g_tup rfl rfl (g_cons (dg_name (i := 3) (by decide) sc__law_third.nd) (g_cons (dg_name (i := 4) (by decide) sc__law_third.nd) (g_cons (dg_name (i := 5) (by decide) sc__law_third.nd) (g_cons (dg_name (i := 6) (by decide) sc__law_third.nd) g_nil)))))) (dss_cons (ds_asg (vs := [7, 8, 9, 10]) (x_tup (a_cons (x_exo1 (cn := 29) T.e_BadYard (oke_BadYard T) (hr.mono (by decide)) (a_cons (de_var 1) a_nil)) (a_cons (x_exo1 (cn := 31) T.e_BadChange (oke_BadChange T) (hr.mono (by decide)) (a_cons (de_var 0) a_nil)) (a_cons (x_exo1 (cn := 32) T.e_NoChange (oke_NoChange T) (hr.mono (by decide)) (a_cons (de_var 1) a_nil)) (a_cons (x_exo2 (cn := 33) T.e_BadRow (oke_BadRow T) (hr.mono (by decide)) (a_cons (de_var 0) (a_cons (de_var 1) a_nil)) (by decide)) a_nil))))) (g_tup rfl rfl (g_cons (dg_name (i := 7) (by decide) sc__law_third.nd) (g_cons (dg_name (i := 8) (by decide) sc__law_third.nd) (g_cons (dg_name (i := 9) (by decide) sc__law_third.nd) (g_cons (dg_name (i := 10) (by decide) sc__law_third.nd) g_nil)))))) (dss_cons (ds_set (i := 2) sc__law_third.nd (x_lst (a_cons (x_tup (a_cons (de_var 3) (a_cons (x_lst (a_cons (x_xfo (xk_what T) (de_var 3)) a_nil)) (a_cons (x_lst (a_cons (de_var 1) a_nil)) a_nil)))) (a_cons (x_tup (a_cons (de_var 4) (a_cons (x_lst (a_cons (x_xfo (xk_lane T) (de_var 4)) a_nil)) (a_cons (x_lst (a_cons (de_var 0) a_nil)) a_nil)))) (a_cons (x_tup (a_cons (de_var 5) (a_cons (x_lst (a_cons (x_xfo (xk_what T) (de_var 5)) a_nil)) (a_cons (x_lst (a_cons (de_var 1) a_nil)) a_nil)))) a_nil))))) (dss_cons (ds_set (i := 2) sc__law_third.nd (x_op (op_add.or op_cat) prim_addIL (de_var 2) (x_lst (a_cons (x_tup (a_cons (de_var 6) (a_cons (x_lst (a_cons (x_xfo (xk_mechanism T) (de_var 6)) a_nil)) (a_cons (x_lst (a_cons (de_var 0) a_nil)) a_nil)))) (a_cons (x_tup (a_cons (de_var 7) (a_cons (x_lst (a_cons (x_xfo (xk_what T) (de_var 7)) a_nil)) (a_cons (x_lst (a_cons (de_var 1) a_nil)) a_nil)))) (a_cons (x_tup (a_cons (x_exo0 (cn := 30) T.e_BadStage sci_BadStage rfl (hr.mono (by decide))) (a_cons (x_lst a_nil) (a_cons (x_lst a_nil) a_nil)))) a_nil)))))) (dss_cons (ds_set (i := 2) sc__law_third.nd (x_op (op_add.or op_cat) prim_addIL (de_var 2) (x_lst (a_cons (x_tup (a_cons (de_var 8) (a_cons (x_lst (a_cons (x_xfo (xk_what T) (de_var 8)) a_nil)) (a_cons (x_lst (a_cons (de_var 0) a_nil)) a_nil)))) (a_cons (x_tup (a_cons (de_var 9) (a_cons (x_lst (a_cons (x_xfo (xk_number T) (de_var 9)) a_nil)) (a_cons (x_lst (a_cons (de_var 1) a_nil)) a_nil)))) a_nil))))) (dss_one (z_ret (x_op (op_add.or op_cat) prim_addIL (de_var 2) (x_lst (a_cons (x_tup (a_cons (de_var 10) (a_cons (x_lst (a_cons (x_xfo (xk_row T) (de_var 10)) (a_cons (x_xfo (xk_what T) (de_var 10)) a_nil))) (a_cons (x_lst (a_cons (de_var 0) (a_cons (de_var 1) a_nil))) a_nil)))) a_nil))))))))))⟩
def b__law_classes_0 : MS := (sasg (kCall lstD (aCons (kCall (isV 34 0) (aCons (mvar 0) (aCons (kC (.cls 1)) aNil))) (aCons (kCall (isV 34 0) (aCons (mvar 0) (aCons (kC (.cls 2)) aNil))) (aCons (kCall (isV 34 0) (aCons (mvar 0) (aCons (kC (.cls 3)) aNil))) aNil)))) (gnm 1))
def b__law_classes_1 : MS := (sasg (kOp addIL (mvar 1) (kCall lstD (aCons (kCall (isV 34 0) (aCons (mvar 0) (aCons (kC (.cls 4)) aNil))) (aCons (kCall (isV 34 0) (aCons (mvar 0) (aCons (kC (.cls 5)) aNil))) (aCons (kCall (isV 34 0) (aCons (mvar 0) (aCons (kC (.cls 6)) aNil))) aNil))))) (gnm 1))
def b__law_classes_2 : MS := (sasg (kOp addIL (mvar 1) (kCall lstD (aCons (kCall (isV 34 0) (aCons (mvar 0) (aCons (kC (.cls 7)) aNil))) (aCons (kCall (isV 34 0) (aCons (mvar 0) (aCons (kC (.cls 8)) aNil))) (aCons (kCall (isV 34 0) (aCons (mvar 0) (aCons (kC (.cls 9)) aNil))) aNil))))) (gnm 1))
def b__law_classes_3 : MS := (sasg (kOp addIL (mvar 1) (kCall lstD (aCons (kCall (isV 34 0) (aCons (mvar 0) (aCons (kC (.cls 10)) aNil))) (aCons (kCall (isV 34 0) (aCons (mvar 0) (aCons (kC (.cls 11)) aNil))) (aCons (kCall (isV 34 0) (aCons (mvar 0) (aCons (kC (.cls 12)) aNil))) aNil))))) (gnm 1))
def b__law_classes_4 : MS := (sasg (kOp addIL (mvar 1) (kCall lstD (aCons (kCall (isV 34 0) (aCons (mvar 0) (aCons (kC (.cls 13)) aNil))) (aCons (kCall (isV 34 0) (aCons (mvar 0) (aCons (kC (.cls 14)) aNil))) (aCons (kCall (isV 34 0) (aCons (mvar 0) (aCons (kC (.cls 15)) aNil))) aNil))))) (gnm 1))
def b__law_classes_5 : MS := (sasg (kOp addIL (mvar 1) (kCall lstD (aCons (kCall (isV 34 0) (aCons (mvar 0) (aCons (kC (.cls 16)) aNil))) (aCons (kCall (isV 34 0) (aCons (mvar 0) (aCons (kC (.cls 17)) aNil))) (aCons (kCall (isV 34 0) (aCons (mvar 0) (aCons (kC (.cls 18)) aNil))) aNil))))) (gnm 1))
def b__law_classes_6 : MS := (sasg (kOp addIL (mvar 1) (kCall lstD (aCons (kCall (isV 34 0) (aCons (mvar 0) (aCons (kC (.cls 19)) aNil))) (aCons (kCall (isV 34 0) (aCons (mvar 0) (aCons (kC (.cls 20)) aNil))) (aCons (kCall (isV 34 0) (aCons (mvar 0) (aCons (kC (.cls 21)) aNil))) aNil))))) (gnm 1))
def b__law_classes_7 : MS := (sasg (kOp addIL (mvar 1) (kCall lstD (aCons (kCall (isV 34 0) (aCons (mvar 0) (aCons (kC (.cls 22)) aNil))) (aCons (kCall (isV 34 0) (aCons (mvar 0) (aCons (kC (.cls 23)) aNil))) (aCons (kCall (isV 34 0) (aCons (mvar 0) (aCons (kC (.cls 24)) aNil))) aNil))))) (gnm 1))
def b__law_classes_8 : MS := (sasg (kOp addIL (mvar 1) (kCall lstD (aCons (kCall (isV 34 0) (aCons (mvar 0) (aCons (kC (.cls 25)) aNil))) (aCons (kCall (isV 34 0) (aCons (mvar 0) (aCons (kC (.cls 26)) aNil))) (aCons (kCall (isV 34 0) (aCons (mvar 0) (aCons (kC (.cls 27)) aNil))) aNil))))) (gnm 1))
def b__law_classes_9 : MS := (sasg (kOp addIL (mvar 1) (kCall lstD (aCons (kCall (isV 34 0) (aCons (mvar 0) (aCons (kC (.cls 28)) aNil))) (aCons (kCall (isV 34 0) (aCons (mvar 0) (aCons (kC (.cls 29)) aNil))) (aCons (kCall (isV 34 0) (aCons (mvar 0) (aCons (kC (.cls 30)) aNil))) aNil))))) (gnm 1))
def b__law_classes_10 : MS := (zRet (kOp addIL (mvar 1) (kCall lstD (aCons (kCall (isV 34 0) (aCons (mvar 0) (aCons (kC (.cls 31)) aNil))) (aCons (kCall (isV 34 0) (aCons (mvar 0) (aCons (kC (.cls 32)) aNil))) (aCons (kCall (isV 34 0) (aCons (mvar 0) (aCons (kC (.cls 33)) aNil))) aNil))))))
def b__law_classes : MS := (sseq b__law_classes_0 (sseq b__law_classes_1 (sseq b__law_classes_2 (sseq b__law_classes_3 (sseq b__law_classes_4 (sseq b__law_classes_5 (sseq b__law_classes_6 (sseq b__law_classes_7 (sseq b__law_classes_8 (sseq b__law_classes_9 b__law_classes_10))))))))))
def m__law_classes : List D → M D := mdef 2 b__law_classes
theorem ok__law_classes (T : Txt K mg a) : FnOk P w K mg base (L2.CX P w) 1 a.f__law_classes a.d__law_classes ["_law_error"] (spM (gt K a) 1 m__law_classes) :=
  ok_fd T.t__law_classes sc__law_classes rfl fun cdv A outer s H E hr => by
    have tk0 := takes_of (X := (cxOf (L2.CX P w) P w K mg base ["_law_error", "_law_found"] "_law_classes" (defScope s__law_classes) a.f__law_classes cdv A outer s H E)) (E := E) rfl rfl rfl rfl
    have po0 : PassesOwn (model P w) (cxOf (L2.CX P w) P w K mg base ["_law_error", "_law_found"] "_law_classes" (defScope s__law_classes) a.f__law_classes cdv A outer s H E).A (cxOf (L2.CX P w) P w K mg base ["_law_error", "_law_found"] "_law_classes" (defScope s__law_classes) a.f__law_classes cdv A outer s H E).env (cxOf (L2.CX P w) P w K mg base ["_law_error", "_law_found"] "_law_classes" (defScope s__law_classes) a.f__law_classes cdv A outer s H E).xe := passes_of rfl
    exact ⟨_, (dss_cons (ds_set (i := 1) sc__law_classes.nd (x_lst (a_cons (x_callB call_isV (prim_isV (by decide) (xca T)) T.n_isinstance (by decide +kernel) (a_cons (de_var 0) (a_cons (x_cls (n := 1) T.m_BadRatio) a_nil))) (a_cons (x_callB call_isV (prim_isV (by decide) (xca T)) T.n_isinstance (by decide +kernel) (a_cons (de_var 0) (a_cons (x_cls (n := 2) T.m_BadForce) a_nil))) (a_cons (x_callB call_isV (prim_isV (by decide) (xca T)) T.n_isinstance (by decide +kernel) (a_cons (de_var 0) (a_cons (x_cls (n := 3) T.m_BadLoad) a_nil))) a_nil))))) (dss_cons (ds_set (i := 1) sc__law_classes.nd (x_op (op_add.or op_cat) prim_addIL (de_var 1) (x_lst (a_cons (x_callB call_isV (prim_isV (by decide) (xca T)) T.n_isinstance (by decide +kernel) (a_cons (de_var 0) (a_cons (x_cls (n := 4) T.m_OtherSize) a_nil))) (a_cons (x_callB call_isV (prim_isV (by decide) (xca T)) T.n_isinstance (by decide +kernel) (a_cons (de_var 0) (a_cons (x_cls (n := 5) T.m_NoStone) a_nil))) (a_cons (x_callB call_isV (prim_isV (by decide) (xca T)) T.n_isinstance (by decide +kernel) (a_cons (de_var 0) (a_cons (x_cls (n := 6) T.m_NoJoint) a_nil))) a_nil)))))) (dss_cons (ds_set (i := 1) sc__law_classes.nd (x_op (op_add.or op_cat) prim_addIL (de_var 1) (x_lst (a_cons (x_callB call_isV (prim_isV (by decide) (xca T)) T.n_isinstance (by decide +kernel) (a_cons (de_var 0) (a_cons (x_cls (n := 7) T.m_NoCorner) a_nil))) (a_cons (x_callB call_isV (prim_isV (by decide) (xca T)) T.n_isinstance (by decide +kernel) (a_cons (de_var 0) (a_cons (x_cls (n := 8) T.m_BadBridge) a_nil))) (a_cons (x_callB call_isV (prim_isV (by decide) (xca T)) T.n_isinstance (by decide +kernel) (a_cons (de_var 0) (a_cons (x_cls (n := 9) T.m_NoPart) a_nil))) a_nil)))))) (dss_cons (ds_set (i := 1) sc__law_classes.nd (x_op (op_add.or op_cat) prim_addIL (de_var 1) (x_lst (a_cons (x_callB call_isV (prim_isV (by decide) (xca T)) T.n_isinstance (by decide +kernel) (a_cons (de_var 0) (a_cons (x_cls (n := 10) T.m_BadRing) a_nil))) (a_cons (x_callB call_isV (prim_isV (by decide) (xca T)) T.n_isinstance (by decide +kernel) (a_cons (de_var 0) (a_cons (x_cls (n := 11) T.m_BadCut) a_nil))) (a_cons (x_callB call_isV (prim_isV (by decide) (xca T)) T.n_isinstance (by decide +kernel) (a_cons (de_var 0) (a_cons (x_cls (n := 12) T.m_BadThrust) a_nil))) a_nil)))))) (dss_cons (ds_set (i := 1) sc__law_classes.nd (x_op (op_add.or op_cat) prim_addIL (de_var 1) (x_lst (a_cons (x_callB call_isV (prim_isV (by decide) (xca T)) T.n_isinstance (by decide +kernel) (a_cons (de_var 0) (a_cons (x_cls (n := 13) T.m_BadCorners) a_nil))) (a_cons (x_callB call_isV (prim_isV (by decide) (xca T)) T.n_isinstance (by decide +kernel) (a_cons (de_var 0) (a_cons (x_cls (n := 14) T.m_InLine) a_nil))) (a_cons (x_callB call_isV (prim_isV (by decide) (xca T)) T.n_isinstance (by decide +kernel) (a_cons (de_var 0) (a_cons (x_cls (n := 15) T.m_BadMotion) a_nil))) a_nil)))))) (dss_cons (ds_set (i := 1) sc__law_classes.nd (x_op (op_add.or op_cat) prim_addIL (de_var 1) (x_lst (a_cons (x_callB call_isV (prim_isV (by decide) (xca T)) T.n_isinstance (by decide +kernel) (a_cons (de_var 0) (a_cons (x_cls (n := 16) T.m_BadWeights) a_nil))) (a_cons (x_callB call_isV (prim_isV (by decide) (xca T)) T.n_isinstance (by decide +kernel) (a_cons (de_var 0) (a_cons (x_cls (n := 17) T.m_Unbalanced) a_nil))) (a_cons (x_callB call_isV (prim_isV (by decide) (xca T)) T.n_isinstance (by decide +kernel) (a_cons (de_var 0) (a_cons (x_cls (n := 18) T.m_NotStanding) a_nil))) a_nil)))))) (dss_cons (ds_set (i := 1) sc__law_classes.nd (x_op (op_add.or op_cat) prim_addIL (de_var 1) (x_lst (a_cons (x_callB call_isV (prim_isV (by decide) (xca T)) T.n_isinstance (by decide +kernel) (a_cons (de_var 0) (a_cons (x_cls (n := 19) T.m_BadPalette) a_nil))) (a_cons (x_callB call_isV (prim_isV (by decide) (xca T)) T.n_isinstance (by decide +kernel) (a_cons (de_var 0) (a_cons (x_cls (n := 20) T.m_BadMix) a_nil))) (a_cons (x_callB call_isV (prim_isV (by decide) (xca T)) T.n_isinstance (by decide +kernel) (a_cons (de_var 0) (a_cons (x_cls (n := 21) T.m_BadRows) a_nil))) a_nil)))))) (dss_cons (ds_set (i := 1) sc__law_classes.nd (x_op (op_add.or op_cat) prim_addIL (de_var 1) (x_lst (a_cons (x_callB call_isV (prim_isV (by decide) (xca T)) T.n_isinstance (by decide +kernel) (a_cons (de_var 0) (a_cons (x_cls (n := 22) T.m_BadCart) a_nil))) (a_cons (x_callB call_isV (prim_isV (by decide) (xca T)) T.n_isinstance (by decide +kernel) (a_cons (de_var 0) (a_cons (x_cls (n := 23) T.m_BadRule) a_nil))) (a_cons (x_callB call_isV (prim_isV (by decide) (xca T)) T.n_isinstance (by decide +kernel) (a_cons (de_var 0) (a_cons (x_cls (n := 24) T.m_NoCart) a_nil))) a_nil)))))) (dss_cons (ds_set (i := 1) sc__law_classes.nd (x_op (op_add.or op_cat) prim_addIL (de_var 1) (x_lst (a_cons (x_callB call_isV (prim_isV (by decide) (xca T)) T.n_isinstance (by decide +kernel) (a_cons (de_var 0) (a_cons (x_cls (n := 25) T.m_BadRoad) a_nil))) (a_cons (x_callB call_isV (prim_isV (by decide) (xca T)) T.n_isinstance (by decide +kernel) (a_cons (de_var 0) (a_cons (x_cls (n := 26) T.m_NoLane) a_nil))) (a_cons (x_callB call_isV (prim_isV (by decide) (xca T)) T.n_isinstance (by decide +kernel) (a_cons (de_var 0) (a_cons (x_cls (n := 27) T.m_BadLimit) a_nil))) a_nil)))))) (dss_cons (ds_set (i := 1) sc__law_classes.nd (x_op (op_add.or op_cat) prim_addIL (de_var 1) (x_lst (a_cons (x_callB call_isV (prim_isV (by decide) (xca T)) T.n_isinstance (by decide +kernel) (a_cons (de_var 0) (a_cons (x_cls (n := 28) T.m_NotSafe) a_nil))) (a_cons (x_callB call_isV (prim_isV (by decide) (xca T)) T.n_isinstance (by decide +kernel) (a_cons (de_var 0) (a_cons (x_cls (n := 29) T.m_BadYard) a_nil))) (a_cons (x_callB call_isV (prim_isV (by decide) (xca T)) T.n_isinstance (by decide +kernel) (a_cons (de_var 0) (a_cons (x_cls (n := 30) T.m_BadStage) a_nil))) a_nil)))))) (dss_one (z_ret (x_op (op_add.or op_cat) prim_addIL (de_var 1) (x_lst (a_cons (x_callB call_isV (prim_isV (by decide) (xca T)) T.n_isinstance (by decide +kernel) (a_cons (de_var 0) (a_cons (x_cls (n := 31) T.m_BadChange) a_nil))) (a_cons (x_callB call_isV (prim_isV (by decide) (xca T)) T.n_isinstance (by decide +kernel) (a_cons (de_var 0) (a_cons (x_cls (n := 32) T.m_NoChange) a_nil))) (a_cons (x_callB call_isV (prim_isV (by decide) (xca T)) T.n_isinstance (by decide +kernel) (a_cons (de_var 0) (a_cons (x_cls (n := 33) T.m_BadRow) a_nil))) a_nil)))))))))))))))))⟩
def b__law_by_names_0 : MS := (spar 3 4 (aCons (kExoK 8 ["what", "joint"] [1, 0] (aCons (mvar 0) (aCons (mvar 1) aNil))) (aCons (kExoK 23 ["what", "index"] [1, 0] (aCons (mvar 1) (aCons (mvar 0) aNil))) aNil)))
def b__law_by_names_1 : MS := (spar 5 6 (aCons (kExoK 33 ["row", "what"] [1, 0] (aCons (mvar 0) (aCons (mvar 1) aNil))) (aCons (kExoK 11 ["one", "other"] [1, 0] (aCons (mvar 0) (aCons (mvar 1) aNil))) aNil)))
def b__law_by_names_2 : MS := (sasg (kCall lstD (aCons (kXfo cx_what "what" (mvar 3)) (aCons (kXfo cx_joint "joint" (mvar 3)) (aCons (kXfo cx_what "what" (mvar 4)) (aCons (kXfo cx_index "index" (mvar 4)) (aCons (kXfo cx_row "row" (mvar 5)) (aCons (kXfo cx_what "what" (mvar 5)) (aCons (kXfo cx_one "one" (mvar 6)) (aCons (kXfo cx_other "other" (mvar 6)) aNil))))))))) (gnm 2))
def b__law_by_names_3 : MS := (zRet (kOp eqA (kCall reprD (aCons (mvar 2) aNil)) (kCall reprD (aCons (kCall lstD (aCons (mvar 1) (aCons (mvar 0) (aCons (mvar 0) (aCons (mvar 1) (aCons (mvar 1) (aCons (mvar 0) (aCons (mvar 1) (aCons (mvar 0) aNil))))))))) aNil))))
def b__law_by_names : MS := (sseq b__law_by_names_0 (sseq b__law_by_names_1 (sseq b__law_by_names_2 b__law_by_names_3)))
def m__law_by_names : List D → M D := mdef 7 b__law_by_names
theorem ok__law_by_names (T : Txt K mg a) : FnG P w K mg base (L2.CX P w) 3 a.f__law_by_names a.d__law_by_names ["_law_value_here", "_law_twin"] (spM (gt K a) 2 m__law_by_names) :=
  ok_fdG T.t__law_by_names sc__law_by_names rfl fun cdv A outer s H E gd hr => by
    have tk0 := takes_of (X := (cxOf (L2.CX P w) P w K mg base ["_law_value_here", "_law_twin", "_law_told", "_law_a", "_law_b", "_law_c", "_law_d"] "_law_by_names" (defScope s__law_by_names) a.f__law_by_names cdv A outer s H E)) (E := E) rfl rfl rfl rfl
    have po0 : PassesOwn (model P w) (cxOf (L2.CX P w) P w K mg base ["_law_value_here", "_law_twin", "_law_told", "_law_a", "_law_b", "_law_c", "_law_d"] "_law_by_names" (defScope s__law_by_names) a.f__law_by_names cdv A outer s H E).A (cxOf (L2.CX P w) P w K mg base ["_law_value_here", "_law_twin", "_law_told", "_law_a", "_law_b", "_law_c", "_law_d"] "_law_by_names" (defScope s__law_by_names) a.f__law_by_names cdv A outer s H E).env (cxOf (L2.CX P w) P w K mg base ["_law_value_here", "_law_twin", "_law_told", "_law_a", "_law_b", "_law_c", "_law_d"] "_law_by_names" (defScope s__law_by_names) a.f__law_by_names cdv A outer s H E).xe := passes_of rfl
    exact ⟨_, (dss_cons (ds_par (i := 3) (j := 4) rfl sc__law_by_names.nd rfl rfl (by decide) rfl rfl (a_cons (x_exoK2 (cn := 8) (ix := [1, 0]) T.e_BadBridge (oke_BadBridge T) (hr.mono (by decide)) (Fun.kbindsX (ps := ["self", "what", "joint"]) T.e_BadBridge.fn 1 ["joint", "what"] [1, 0] (fun kV doc pm an cdv ct us ws l1 l3 => match us, l1, ws, l3 with | [_], _, [_, _], _ => rfl)) (k_cons (de_var 0) (k_cons (de_var 1) k_nil)) (by decide) rfl (by decide)) (a_cons (x_exoK2 (cn := 23) (ix := [1, 0]) T.e_BadRule (oke_BadRule T) (hr.mono (by decide)) (Fun.kbindsX (ps := ["self", "what", "index"]) T.e_BadRule.fn 1 ["index", "what"] [1, 0] (fun kV doc pm an cdv ct us ws l1 l3 => match us, l1, ws, l3 with | [_], _, [_, _], _ => rfl)) (k_cons (de_var 1) (k_cons (de_var 0) k_nil)) (by decide) rfl (by decide)) a_nil))) (dss_cons (ds_par (i := 5) (j := 6) rfl sc__law_by_names.nd rfl rfl (by decide) rfl rfl (a_cons (x_exoK2 (cn := 33) (ix := [1, 0]) T.e_BadRow (oke_BadRow T) (hr.mono (by decide)) (Fun.kbindsX (ps := ["self", "row", "what"]) T.e_BadRow.fn 1 ["what", "row"] [1, 0] (fun kV doc pm an cdv ct us ws l1 l3 => match us, l1, ws, l3 with | [_], _, [_, _], _ => rfl)) (k_cons (de_var 0) (k_cons (de_var 1) k_nil)) (by decide) rfl (by decide)) (a_cons (x_exoK2 (cn := 11) (ix := [1, 0]) T.e_BadCut (oke_BadCut T) (hr.mono (by decide)) (Fun.kbindsX (ps := ["self", "one", "other"]) T.e_BadCut.fn 1 ["other", "one"] [1, 0] (fun kV doc pm an cdv ct us ws l1 l3 => match us, l1, ws, l3 with | [_], _, [_, _], _ => rfl)) (k_cons (de_var 0) (k_cons (de_var 1) k_nil)) (by decide) rfl (by decide)) a_nil))) (dss_cons (ds_set (i := 2) sc__law_by_names.nd (x_lst (a_cons (x_xfo (xk_what T) (de_var 3)) (a_cons (x_xfo (xk_joint T) (de_var 3)) (a_cons (x_xfo (xk_what T) (de_var 4)) (a_cons (x_xfo (xk_index T) (de_var 4)) (a_cons (x_xfo (xk_row T) (de_var 5)) (a_cons (x_xfo (xk_what T) (de_var 5)) (a_cons (x_xfo (xk_one T) (de_var 6)) (a_cons (x_xfo (xk_other T) (de_var 6)) a_nil)))))))))) (dss_one (z_ret (x_cmp (op_eqA rfl hr.units) prim_eq (x_callB (cr_repr rfl (by exact gd) (by have z := room_u hr; exact z)) prim_repr T.n_repr (by decide +kernel) (a_cons (de_var 2) a_nil)) (x_callB (cr_repr rfl (by exact gd) (by have z := room_u hr; exact z)) prim_repr T.n_repr (by decide +kernel) (a_cons (x_lst (a_cons (de_var 1) (a_cons (de_var 0) (a_cons (de_var 0) (a_cons (de_var 1) (a_cons (de_var 1) (a_cons (de_var 0) (a_cons (de_var 1) (a_cons (de_var 0) a_nil))))))))) a_nil))))))))⟩
def tb__law_caught_0 : MS := (zRaiseN 9 ["first", "last"] (aCons (mvar 0) (aCons (mvar 1) aNil)))
def hb__law_caught_1 : MS := (sasg (kCall lstD (aCons (kXf "first" (mvar 3)) (aCons (kXf "last" (mvar 3)) aNil))) (gnm 2))
def tb__law_caught_2 : MS := (zRaise 30)
def tb__law_caught_3 : MS := (zRaiseN 31 ["what"] (aCons (mvar 1) aNil))
def b__law_caught_0 : MS := (sasg (kCall lstD aNil) (gnm 2))
def b__law_caught_1 : MS := (oA 3 mt_NoPart (fun _ => false) tb__law_caught_0 (fun _ => hb__law_caught_1))
def b__law_caught_2 : MS := (sasg (kC (.int 0)) (gnm 4))
def b__law_caught_3 : MS := (oT mt_BridgeError tb__law_caught_2 (sasg (kOp addIL (mvar 4) (kC (.int 1))) (gnm 4)))
def b__law_caught_4 : MS := (oT mt_BridgeError tb__law_caught_3 (sasg (kOp addIL (mvar 4) (kC (.int 2))) (gnm 4)))
def b__law_caught_5 : MS := (zRet (kAndV (kOp eqA (mvar 4) (kC (.int 3))) (kOp eqA (kCall reprD (aCons (mvar 2) aNil)) (kCall reprD (aCons (kCall lstD (aCons (mvar 0) (aCons (mvar 1) aNil))) aNil)))))
def b__law_caught : MS := (sseq b__law_caught_0 (sseq b__law_caught_1 (sseq b__law_caught_2 (sseq b__law_caught_3 (sseq b__law_caught_4 b__law_caught_5)))))
def m__law_caught : List D → M D := mdef 5 b__law_caught
theorem ok__law_caught (T : Txt K mg a) : FnG P w K mg base (L2.CX P w) 3 a.f__law_caught a.d__law_caught ["_law_value_here", "_law_twin"] (spM (gt K a) 2 m__law_caught) :=
  ok_fdG T.t__law_caught sc__law_caught rfl fun cdv A outer s H E gd hr => by
    have tk0 := takes_of (X := (cxOf (L2.CX P w) P w K mg base ["_law_value_here", "_law_twin", "_law_told", "_law_e", "_law_caught_here"] "_law_caught" (defScope s__law_caught) a.f__law_caught cdv A outer s H E)) (E := E) rfl rfl rfl rfl
    have po0 : PassesOwn (model P w) (cxOf (L2.CX P w) P w K mg base ["_law_value_here", "_law_twin", "_law_told", "_law_e", "_law_caught_here"] "_law_caught" (defScope s__law_caught) a.f__law_caught cdv A outer s H E).A (cxOf (L2.CX P w) P w K mg base ["_law_value_here", "_law_twin", "_law_told", "_law_e", "_law_caught_here"] "_law_caught" (defScope s__law_caught) a.f__law_caught cdv A outer s H E).env (cxOf (L2.CX P w) P w K mg base ["_law_value_here", "_law_twin", "_law_told", "_law_e", "_law_caught_here"] "_law_caught" (defScope s__law_caught) a.f__law_caught cdv A outer s H E).xe := passes_of rfl
    exact ⟨_, (dss_cons (ds_set (i := 2) sc__law_caught.nd (x_lst a_nil)) (dss_cons (ds_try_as (i := 3) (mt := mt_NoPart) (nf := fun _ => false) (hs1 := fun _ => hb__law_caught_1) (mb := tb__law_caught_0) rfl rfl rfl sc__law_caught.nd rfl rfl ⟨by exact rfl, by decide, .inl T.m_NoPart⟩ tk0 (hmt_NoPart T) (fun W' pn xe tk' po' => ⟨_, (dss_one (z_raise2 (cn := 9) rfl tk' T.e_NoPart (oke_NoPart T) (hr.mono (by decide)) (a_cons (de_var 0) (a_cons (de_var 1) a_nil)) (l_cons (l_cons l_nil)) (hff := by decide)))⟩) (fun a1 oe1 c1 dd1 pn1 hm _ hz hf => ⟨_, (dss_one (ds_set (i := 2) sc__law_caught.nd (x_lst (a_cons (x_xf (xf_NoPart T hm) (xn_NoPart_first T _ hm) hz hf (de_var 3)) (a_cons (x_xf (xf_NoPart T hm) (xn_NoPart_last T _ hm) hz hf (de_var 3)) a_nil)))))⟩)).choose_spec (dss_cons (ds_set (i := 4) sc__law_caught.nd x_int) (dss_cons (ds_try_only (mt := mt_BridgeError) (hm := fun _ _ _ => (sasg (kOp addIL (mvar 4) (kC (.int 1))) (gnm 4))) rfl rfl ⟨by exact rfl, by decide, .inl T.m_BridgeError⟩ tk0 (hmt_BridgeError T) (fun W' pn xe tk' po' => ⟨_, (dss_one (z_raise0 (cn := 30) rfl tk' T.e_BadStage sci_BadStage rfl (hr.mono (by decide))))⟩) (fun _ _ _ _ _ _ _ _ _ _ => ⟨_, (dss_one (ds_set (i := 4) sc__law_caught.nd (x_op (op_add.or op_cat) prim_addIL (de_var 4) x_int)))⟩)).choose_spec (dss_cons (ds_try_only (mt := mt_BridgeError) (hm := fun _ _ _ => (sasg (kOp addIL (mvar 4) (kC (.int 2))) (gnm 4))) rfl rfl ⟨by exact rfl, by decide, .inl T.m_BridgeError⟩ tk0 (hmt_BridgeError T) (fun W' pn xe tk' po' => ⟨_, (dss_one (z_raise1 (cn := 31) rfl tk' T.e_BadChange (oke_BadChange T) (hr.mono (by decide)) (a_cons (de_var 1) a_nil) (l_cons l_nil)))⟩) (fun _ _ _ _ _ _ _ _ _ _ => ⟨_, (dss_one (ds_set (i := 4) sc__law_caught.nd (x_op (op_add.or op_cat) prim_addIL (de_var 4) x_int)))⟩)).choose_spec (dss_one (z_ret (x_and (x_cmp (op_eqA rfl hr.units) prim_eq (de_var 4) x_int) (de_one (x_cmp (op_eqA rfl hr.units) prim_eq (x_callB (cr_repr rfl (by exact gd) (by have z := room_u hr; exact z)) prim_repr T.n_repr (by decide +kernel) (a_cons (de_var 2) a_nil)) (x_callB (cr_repr rfl (by exact gd) (by have z := room_u hr; exact z)) prim_repr T.n_repr (by decide +kernel) (a_cons (x_lst (a_cons (de_var 0) (a_cons (de_var 1) a_nil))) a_nil))))))))))))⟩
end
end K00
namespace K00
open PySem L2 PySem.Spec PyProof.Rows Tw
noncomputable section
variable {P : Program} {w : World} {K : PySem.W.Frag} {mg : Str → Option Value} {base : Heap} {a : Ad}
theorem ok__law_pen (T : Txt K mg a) : FnOk P w K mg base (L2.CX P w) 1 a.f__law_pen a.d__law_pen ["_law_script"] (spPen K) := by
  refine T.t__law_pen.ok sc__law_pen (fun vs H Q E h => by obtain ⟨_, _, rfl, _⟩ := h; rfl) fun cdv A outer s H vs Q E hr h => ?_
  obtain ⟨l, ns, rfl, hl, k⟩ := h
  refine ⟨_, pss_cons (ps_set (i := 1) sc__law_pen.nd rfl (.inl rfl) pe_int)
    (pss_cons (ps_for (passes_of rfl) rfl (pi_list (pv 0)) (pg_name (i := 2) sc__law_pen.nd rfl (.inl rfl)) (pss_one (ps_set (i := 1) sc__law_pen.nd rfl (.inl rfl)
      (pe_op op_mod (pe_callTy call_int1 (by rfl) T.n_int (by decide +kernel) (pa_cons (pe_op op_add (pe_op op_add (pe_op op_mul (pv 1) pe_int) (pe_op op_mod (pe_callTy call_int1 (by rfl) T.n_int (by decide +kernel) (pa_cons (pv 2) pa_nil)) pe_int)) pe_int) pa_nil)) pe_int))))
    (pss_one (ps_ret (pe_disp (pps_cons pe_str (pe_callTy call_list_of (by rfl) T.n_list (by decide +kernel) (pa_cons (pv 0) pa_nil)) (pps_cons pe_str pe_int (pps_cons pe_str pe_int (pps_cons pe_str pe_int (pps_cons pe_str (pv 1) (pps_cons pe_str pe_int pps_nil)))))) (by rfl) (by rfl) (fun z => by cases z) (by decide))))), ?_⟩
  refine ⟨_, rfl, l, rfl, ⟨_, hl⟩, for_list (xs := ns.map V.int) (fun i σ H2 => ∃ seed v, σ = [some (.ref l), some (.int seed), v] ∧ Same H H2) ⟨31, none, rfl, Same.refl H⟩ (fun i σ H2 _ ⟨_, _, _, hs⟩ => hs.seq hl) ?_ ?_⟩
  · rintro i x σ H2 hx ⟨seed, v, rfl, hs⟩
    rw [List.getElem?_map] at hx
    cases q : ns[i]? with
    | none => rw [q] at hx; cases hx
    | some n =>
      rw [q] at hx
      cases hx
      refine ⟨_, rfl, _, _, rfl, rfl, .inr ⟨by decide, by decide⟩, _, rfl, .inl ⟨_, rfl, _, _, rfl, rfl, (by decide : (0 : Int) < 2147483543), _, _, rfl, rfl, _, _, rfl, rfl, .inl ⟨_, rfl, _, _, rfl, rfl, (by decide : (0 : Int) < 2147483563), ?_⟩⟩⟩
      exact ⟨_, _, rfl, hs⟩
  · rintro σ H2 ⟨seed, v, rfl, hs⟩
    intro p hp
    refine ⟨_, rfl, l, _, rfl, .inl ((hs.trans (fun b o e => by rw [upd_ne (ne_of_none e hp)]; exact e)).seq hl), fun c hc => ?_⟩
    have hcp : p ≠ c := fun z => by subst z; rw [upd_same] at hc; cases hc
    have hc0 : H2 c = none := by rw [upd_ne (Ne.symm hcp)] at hc; exact hc
    refine ⟨_, rfl, by rw [upd_ne hcp, upd_same], [(Sum.inr "cells", .ref c), (Sum.inr "next", .int 0), (Sum.inr "digits", .int 0), (Sum.inr "rest", .int 0), (Sum.inr "seed", .int seed), (Sum.inr "turn", .int 0)], rfl, by show 6 ≤ 15; decide, ?_⟩
    refine k seed _ p c (fun b o e => ?_) (hs.free hp) (hs.free hc0) ?_ ?_
    · have e2 := hs b o e
      rw [upd_ne (ne_of_none e2 hp), upd_ne (ne_of_none e2 hc0), upd_ne (ne_of_none e2 hp)]
      exact e2
    · rw [upd_same]; rfl
    · rw [upd_ne (Ne.symm hcp), upd_same]
def lb_law_0 : MS := (sseq (sasg (kOp itemD (mvar 4) (mvar 5)) (gtm 3 (gcn (gnm 7) (gcn (gnm 8) (gcn (gnm 9) gnl))))) (sseq (zIf (kB (kOp neA (kCall m__law_classes (aCons (mvar 7) aNil)) (kLc (iR1 (aCons (kC (.int 33)) aNil)) (gnm 10) (fun _ => mret true) (kOp eqA (mvar 10) (mvar 5)) [10]))) (zRet (kC (.bl false))) zNx) (zIf (kOr (kNot (kB (kCall (isV 34 0) (aCons (mvar 7) (aCons (kC (.cls 0)) aNil))))) (kOr (kNot (kB (kCall (isV 34 0) (aCons (mvar 7) (aCons (kC (.ty "ValueError")) aNil))))) (kB (kOp neA (kCall reprD (aCons (mvar 8) aNil)) (kCall reprD (aCons (mvar 9) aNil)))))) (zRet (kC (.bl false))) zNx)))
def b_law_0 : MS := (sasg (kCall m__law_value (aCons (mvar 1) aNil)) (gnm 2))
def b_law_1 : MS := (sasg (kCall m__law_value (aCons (mvar 1) aNil)) (gnm 3))
def b_law_2 : MS := (sasg (kOp addIL (kOp addIL (kCall m__law_first (aCons (mvar 2) (aCons (mvar 3) aNil))) (kCall m__law_second (aCons (mvar 3) (aCons (mvar 2) aNil)))) (kCall m__law_third (aCons (mvar 2) (aCons (mvar 3) aNil)))) (gnm 4))
def b_law_3 : MS := (sfor (iR1 (aCons (kCall lenD (aCons (mvar 4) aNil)) aNil)) (gnm 5) lb_law_0)
def b_law_4 : MS := (sasg (kExo 0 [] aNil) (gnm 6))
def b_law_5 : MS := (zIf (kOr (kNot (kB (kCall (isV 34 0) (aCons (mvar 6) (aCons (kC (.ty "ValueError")) aNil))))) (kB (kOp (inA false) (kC (.bl true)) (kCall m__law_classes (aCons (mvar 6) aNil))))) (zRet (kC (.bl false))) zNx)
def b_law_6 : MS := (zRet (kAndV (kOp eqA (kCall lenD (aCons (mvar 4) aNil)) (kC (.int 33))) (kAndV (kCall m__law_by_names (aCons (mvar 2) (aCons (mvar 3) aNil))) (kCall m__law_caught (aCons (mvar 2) (aCons (mvar 3) aNil))))))
def b_law : MS := (sseq b_law_0 (sseq b_law_1 (sseq b_law_2 (sseq b_law_3 (sseq b_law_4 (sseq b_law_5 b_law_6))))))
def ρ0 : Tw.Loc := [none, some .pen, none, none, none, none, none, none, none, none, none]
def spLaw (K : PySem.W.Frag) : Sp := fun vs H Q _ => ∃ (l : Addr) (ns : List Int), vs = [.ref l] ∧ SqL K H l (ns.map V.int) ∧ ns.length ≤ 63 ∧ ∀ H', Q (.bl true) H'
theorem ok_law (good : ∀ s, ∃ s', b_law ρ0 s = .ret (.bl true) s') (T : Txt K mg a) : FnG P w K mg base (L2.CX P w) 4 a.f_law a.d_law ["_law_script"] (spLaw K) := by
  refine fng_of T.t_law sc_law (fun vs H Q E h => by obtain ⟨_, _, rfl, _⟩ := h; rfl) fun cdv A outer s H vs Q E gd hr h => ?_
  obtain ⟨l, ns, rfl, hl, _, k⟩ := h
  have tk0 := takes_of (X := cxOf (L2.CX P w) P w K mg base ["_law_script", "_law_pen_here", "_law_value_here", "_law_twin", "_law_made", "_law_k", "_law_base", "_law_error", "_law_told", "_law_due", "_law_at"] "law" (defScope s_law) a.f_law cdv A outer s H E) (E := E) rfl rfl rfl rfl
  have po0 : PassesOwn (model P w) (cxOf (L2.CX P w) P w K mg base ["_law_script", "_law_pen_here", "_law_value_here", "_law_twin", "_law_made", "_law_k", "_law_base", "_law_error", "_law_told", "_law_due", "_law_at"] "law" (defScope s_law) a.f_law cdv A outer s H E).A (cxOf (L2.CX P w) P w K mg base ["_law_script", "_law_pen_here", "_law_value_here", "_law_twin", "_law_made", "_law_k", "_law_base", "_law_error", "_law_told", "_law_due", "_law_at"] "law" (defScope s_law) a.f_law cdv A outer s H E).env (cxOf (L2.CX P w) P w K mg base ["_law_script", "_law_pen_here", "_law_value_here", "_law_twin", "_law_made", "_law_k", "_law_base", "_law_error", "_law_told", "_law_due", "_law_at"] "law" (defScope s_law) a.f_law cdv A outer s H E).xe := passes_of rfl
  have rest : ∃ t, DSs (gt K a) (cxOf (L2.CX P w) P w K mg base ["_law_script", "_law_pen_here", "_law_value_here", "_law_twin", "_law_made", "_law_k", "_law_base", "_law_error", "_law_told", "_law_due", "_law_at"] "law" (defScope s_law) a.f_law cdv A outer s H E) (fun c d _ H' => E c d H') ((defBody s_law).drop 1) t b_law := ⟨_, (dss_cons (ds_set (i := 2) sc_law.nd (x_call (ok__law_value T) (hr.mono (by decide)) tk0 T.m__law_value T.t__law_value.kp T.b__law_value (a_cons (de_var 1) a_nil) (l_cons l_nil))) (dss_cons (ds_set (i := 3) sc_law.nd (x_call (ok__law_value T) (hr.mono (by decide)) tk0 T.m__law_value T.t__law_value.kp T.b__law_value (a_cons (de_var 1) a_nil) (l_cons l_nil))) (dss_cons (ds_set (i := 4) sc_law.nd (x_op (op_add.or op_cat) prim_addIL (x_op (op_add.or op_cat) prim_addIL (x_call (ok__law_first T) (hr.mono (by decide)) tk0 T.m__law_first T.t__law_first.kp T.b__law_first (a_cons (de_var 2) (a_cons (de_var 3) a_nil)) (l_cons (l_cons l_nil))) (x_call (ok__law_second T) (hr.mono (by decide)) tk0 T.m__law_second T.t__law_second.kp T.b__law_second (a_cons (de_var 3) (a_cons (de_var 2) a_nil)) (l_cons (l_cons l_nil)))) (x_call (ok__law_third T) (hr.mono (by decide)) tk0 T.m__law_third T.t__law_third.kp T.b__law_third (a_cons (de_var 2) (a_cons (de_var 3) a_nil)) (l_cons (l_cons l_nil))))) (dss_cons (ds_for (vs := [5]) po0 rfl (i_range1 T.n_range (a_cons (x_callB (cr_len rfl) (prim_len) T.n_len (by decide +kernel) (a_cons (de_var 4) a_nil)) a_nil)) (dg_name (i := 5) (by decide) sc_law.nd) (dss_cons (ds_asg (vs := [7, 8, 9]) (x_ix rfl (de_var 4) (de_var 5)) (g_tup rfl rfl (g_cons (dg_name (i := 7) (by decide) sc_law.nd) (g_cons (dg_name (i := 8) (by decide) sc_law.nd) (g_cons (dg_name (i := 9) (by decide) sc_law.nd) g_nil))))) (dss_cons (z_if (q_cmp (op_neA rfl hr.units) prim_ne (x_call (ok__law_classes T) (hr.mono (by decide)) tk0 T.m__law_classes T.t__law_classes.kp T.b__law_classes (a_cons (de_var 7) a_nil) (l_cons l_nil)) (x_lc [("_law_at", 10)] rfl sc_law.nd (i_range1 T.n_range (a_cons x_int a_nil)) (blkOk_by (N := ["_law_script", "_law_pen_here", "_law_value_here", "_law_twin", "_law_made", "_law_k", "_law_base", "_law_error", "_law_told", "_law_due", "_law_at"]) (sc := defScope s_law) (by decide +kernel)) (fun _ _ _ _ _ => (dg_name (i := 10) (by decide) sc_law.nd)) (fun _ _ _ _ _ => pts_nil) run_yes (fun _ _ _ _ _ => (x_cmp (op_eqA rfl hr.units) prim_eq (de_var 10) (de_var 5))))) (dss_one (z_ret x_bl)) z_nil) (dss_one (z_if (dt_w (w_or (q_not (q_val (x_callB call_isV (prim_isV (by decide) (xca T)) T.n_isinstance (by decide +kernel) (a_cons (de_var 7) (a_cons (x_cls (n := 0) T.m_BridgeError) a_nil))))) (w_or (q_not (q_val (x_callB call_isV (prim_isV (by decide) (xca T)) T.n_isinstance (by decide +kernel) (a_cons (de_var 7) (a_cons (x_ty (n := "ValueError") T.n_ValueError (by decide +kernel)) a_nil))))) (w_or1 (q_cmp (op_neA rfl hr.units) prim_ne (x_callB (cr_repr rfl (by exact gd) (by have z := room_u hr; exact z)) prim_repr T.n_repr (by decide +kernel) (a_cons (de_var 8) a_nil)) (x_callB (cr_repr rfl (by exact gd) (by have z := room_u hr; exact z)) prim_repr T.n_repr (by decide +kernel) (a_cons (de_var 9) a_nil))))))) (dss_one (z_ret x_bl)) z_nil))))) (dss_cons (ds_set (i := 6) sc_law.nd (x_exo0 (cn := 0) T.e_BridgeError sci_BridgeError rfl (hr.mono (by decide)))) (dss_cons (z_if (dt_w (w_or (q_not (q_val (x_callB call_isV (prim_isV (by decide) (xca T)) T.n_isinstance (by decide +kernel) (a_cons (de_var 6) (a_cons (x_ty (n := "ValueError") T.n_ValueError (by decide +kernel)) a_nil))))) (w_or1 (q_cmp (op_inA rfl (by have z := room_v hr; exact z)) prim_inA x_bl (x_call (ok__law_classes T) (hr.mono (by decide)) tk0 T.m__law_classes T.t__law_classes.kp T.b__law_classes (a_cons (de_var 6) a_nil) (l_cons l_nil)))))) (dss_one (z_ret x_bl)) z_nil) (dss_one (z_ret (x_and (x_cmp (op_eqA rfl hr.units) prim_eq (x_callB (cr_len rfl) (prim_len) T.n_len (by decide +kernel) (a_cons (de_var 4) a_nil)) x_int) (x_and (x_callGd (ok__law_by_names T) gd (hr.mono (by decide)) tk0 T.m__law_by_names T.t__law_by_names.kp T.b__law_by_names (a_cons (de_var 2) (a_cons (de_var 3) a_nil)) (l_cons (l_cons l_nil))) (de_one (x_callGd (ok__law_caught T) gd (hr.mono (by decide)) tk0 T.m__law_caught T.t__law_caught.kp T.b__law_caught (a_cons (de_var 2) (a_cons (de_var 3) a_nil)) (l_cons (l_cons l_nil))))))))))))))⟩
  obtain ⟨t, dt⟩ := rest
  refine ⟨_, pss_cons (ps_set (i := 1) sc_law.nd rfl (.inl rfl) (pe_callS (ok__law_pen T) (hr.mono (by decide)) (by rfl) T.m__law_pen T.t__law_pen.kp T.b__law_pen (fun σ => passAt tk0 σ) (pa_cons (pv 0) pa_nil))) dt.ps, ?_⟩
  refine ⟨_, rfl, l, ns, rfl, hl, fun seed H' p c sm hp hc h1 h2 => ?_⟩
  obtain ⟨s', e'⟩ := good (pen0 ns seed)
  have hpc : c ≠ p := ne_of h2 h1 (fun z => nomatch z)
  refine dt.run ⟨some (p, some c), none, fun z => z = p, fun z _ e => by cases e; rfl, (fun _ _ _ e => nomatch e), (fun _ _ _ _ _ _ e => nomatch e), fun _ => none, (fun _ _ e => nomatch e), (fun _ _ e => nomatch e), (fun _ _ _ e => nomatch e)⟩ _ H' ρ0 (pen0 ns seed) _ ⟨rfl, fun i d q => ?_⟩ ⟨fun b kd eb => ?_, (fun _ _ _ e => nomatch e), (fun b hb => ⟨.dK (penKV c (pen0 ns seed)), by rw [show b = p from hb]; exact h1⟩), (fun _ _ e => nomatch e)⟩ ?_
  · match i, q with
    | 1, q => cases q; exact ⟨.ref p, rfl, p, c, rfl, rfl⟩
    | 0, q => cases q
    | 2, q => cases q
    | 3, q => cases q
    | 4, q => cases q
    | 5, q => cases q
    | 6, q => cases q
    | 7, q => cases q
    | 8, q => cases q
    | 9, q => cases q
    | 10, q => cases q
    | n + 11, q => cases q
  · cases eb; exact .inr ⟨c, rfl, hpc, h1, h2⟩
  · rw [e']
    intro v H2 _ _ rd
    obtain rfl : v = .bl true := rd
    exact k H2
end
end K00
namespace K00
open PySem L2 Tw
local macro_rules | `(tactic| walk_at "sm") => `(tactic| first | assumption | exact Sm.lit200 (by decide) | (apply Sm.mul; walk_at "sm"; walk_at "sm") | (apply Sm.add2; walk_at "sm"; walk_at "sm") | (apply Sm.sub2; walk_at "sm"; walk_at "sm") | (apply Sm.neg; walk_at "sm"))
local macro_rules | `(tactic| walk_at "mo") => `(tactic| (apply mulOk_any; walk_at "sm"; walk_at "sm"; decide))
local macro_rules | `(tactic| walk_at "ds") => `(tactic| first | assumption | rfl | exact Nat.le_of_ble_eq_true rfl | walk_at "mo" | decide | omega)
local macro_rules | `(tactic| walk_at "tw") => `(tactic| simp (disch := walk_at "ds") only [↓y_nox, ↓y_seq, ↓y_mvZ, ↓y_mvS, ↓y_c, ↓y_op, ↓y_un, ↓y_b, ↓y_asB, ↓y_and, ↓y_or, ↓y_not, ↓y_andV, ↓y_orV, ↓y_notV, ↓y_ifE, ↓y_ch, ↓y_nil, ↓y_cons, ↓y_call, ↓y_callD, ↓y_iL, ↓y_iT, ↓y_asL, ↓y_asT, ↓y_iS, ↓y_asSl, ↓y_asSt, ↓y_iR1, ↓y_iR2, ↓y_iZ, ↓y_iN, ↓y_iOw, ↓y_zll, ↓y_zlt, ↓y_ztl, ↓y_ztt, ↓y_enl, ↓y_ent, ↓y_rng, ↓y_zNx, ↓y_zBk, ↓y_zCt, ↓y_ex, ↓y_ret, ↓y_retN, ↓y_if, ↓y_raise, ↓y_raiseN, ↓y_asg, ↓y_gnm, ↓y_par, ↓y_gcn, ↓y_gnl, ↓y_gtm2, ↓y_gtm3, ↓y_addI, ↓y_add, ↓y_sub, ↓y_neg, ↓y_lt, ↓y_le, ↓y_gt, ↓y_ge, ↓y_eqi, ↓y_eqb, ↓y_eqs, ↓y_nei, ↓y_neb, ↓y_nes, ↓y_isb, ↓y_nob, ↓y_lenl, ↓y_lent, ↓y_tuple_l, ↓y_tuple_t, ↓y_list_l, ↓y_list_t, ↓y_int, ↓y_abs, ↓y_gcd, ↓y_max2, ↓y_lst, ↓y_tup, ↓y_mul, ↓y_fld, ↓y_meth, ↓y_prop, ↓y_isI, ↓y_mk, ↓y_bget, ↓y_sfor, ↓y_mdef, ↓y_oA, oAK_exc, oAK_nx, backOf_bl, backOf_nx, y_isiX, y_isiXt, ↓y_xf, y_xf1, eq_self, ↓y_par3, ↓parK3_ok, ↓y_cmS, ↓y_cmSK, ↓y_mkV, ↓y_mkVK, ↓y_isNon, ↓y_sl, ↓y_part, ↓y_no, ↓y_pi, ↓y_sll, ↓y_slt, ↓y_cat, ↓y_mbind, ↓y_obind, ↓obind_exc, ↓y_sof, ↓sof_exc, ↓seqk_nx, ↓seqk_ret, ↓seqk_bk, ↓seqk_ct, ↓seqk_exc, ↓noxk_ok, ↓gok_some, ↓parK_ok, ↓gcK_some, ↓retk_nx, ↓retk_ret, ↓retk_exc, ↓y_mret, y_obind, obind_exc, y_sof, sof_exc, seqk_nx, seqk_ret, seqk_bk, seqk_ct, seqk_exc, noxk_ok, gok_some, parK_ok, gcK_some, retk_nx, retk_ret, retk_exc, y_mret, ↓reduceIte, reduceIte, ↓y_set0, ↓y_setS, startL,
  int2c, mul_eq, fdv_eq, fdv_64, fmd_eq, ne_eq, not_false_eq_true, Int.reduceEq, Nat.reduceLeDiff, Int.reduceAdd, Int.reduceNeg, Int.reduceLT, Int.reduceLE, Int.reduceSub, Nat.reduceEqDiff, Nat.reduceLT, p9, p15, p18, p20, p30, p6, beq_self_eq_true, isNo, notNo, itemD, bagGet, bagPut, Pen.bget, Pen.bput, objPut, at0, at1, at2, isiA_int, isiA_bl, isiA_non, isiA_str, isiA_tup, isiA_lst, ii_int, ii_bool, ib_int, ib_bool, in_int, is_int, it_int, il_int, it_tuple, il_tuple, in_bool, is_bool, it_bool, il_bool,
  List.map_cons, List.map_nil, List.length_cons, List.length_nil, List.cons_append, List.nil_append, List.append_nil, List.getElem?_cons_zero, List.getElem?_cons_succ, List.replicate_succ, List.replicate_zero, Nat.reduceSub, Nat.reduceAdd, if_true, if_false, decide_eq_true_eq, Bool.not_eq_true', Bool.true_eq_false, Bool.false_eq_true, decide_true, decide_false, Bool.not_true, Bool.not_false, ite_true, ite_false, List.length_map, and_true, true_and, and_false, false_and, and_self, or_true, true_or, or_false, false_or, not_true_eq_false, Bool.not_eq_false, Bool.not_eq_true, decide_eq_false_iff_not, Int.sub_self, Bool.and_self, Bool.or_self, Bool.true_or, Bool.or_true, Bool.false_or, Bool.or_false, Bool.true_and, Bool.and_true, Bool.and_false, Bool.false_and, p15, p30, *])
theorem take_ok (s : Pen) (many : Int) (h : 0 < many) (h9 : many.natAbs.log2 < 9000) : ∃ d s', m__law_take [.pen, .int many] s = .ok (.int d) s' ∧ 0 ≤ d ∧ d < many ∧ s'.obj = s.obj ∧ s'.ocls = s.ocls := Pn.take_ok s many h h9
theorem of_ok (s : Pen) (xs : List D) (h : 0 < xs.length) (hl : xs.length ≤ 1000) : ∃ d s', m__law_of [.pen, .lst xs] s = .ok d s' ∧ d ∈ xs ∧ s'.obj = s.obj ∧ s'.ocls = s.ocls := Pn.of_ok s xs h hl
structure Vl (d : D) : Prop where
  s : shOk d = true
  w : wgh d ≤ 300
  p : dpt d ≤ 1
  n : noErr d = true
theorem int_sh {n : Int} (h : n.natAbs ≤ 10 ^ 30) : shOk (.int n) = true := decide_eq_true (Nat.lt_of_le_of_lt h (by decide))
theorem text_sh {n : Int} (h : n.natAbs ≤ 10 ^ 30) : shOk (.str (toString n)) = true ∧ wgh (.str (toString n)) ≤ 200 := by
  have h1 : n.natAbs.log2 < 101 := by
    by_cases z : n.natAbs = 0
    · rw [z]; decide
    · exact (Nat.log2_lt z).mpr (Nat.lt_of_le_of_lt h (by decide))
  have h2 := int_text_length_le (k := 101) (by decide) h1
  have h3 : (Str.ofString (toString n)).cps.size ≤ 200 := by
    show (Str.ofString (toString n)).length ≤ 200
    rw [PySem.ofString_length]; omega
  refine ⟨?_, h3⟩
  show (decide ((Str.ofString (toString n)).cps.size ≤ 1000) && (Str.ofString (toString n)).cps.toList.all fun c => decide (c < 16 ^ 8)) = true
  rw [decide_eq_true (by omega), Bool.true_and]
  rw [List.all_eq_true]
  intro c hc
  refine decide_eq_true ?_
  rw [PySem.Str.ofString_eq_toList] at hc
  have hc' : c ∈ ((toString n).toList.map Char.toNat) := hc
  obtain ⟨x, _, rfl⟩ := List.mem_map.mp hc'
  exact Nat.lt_of_lt_of_le x.val.toNat_lt (by decide)
theorem num_lt {a b : Int} (h1 : 0 ≤ a) (h2 : a < 1000000000000000) (h3 : 0 ≤ b) (h4 : b < 1000000000000000) : (a * 1000000000000000 + b).natAbs ≤ 10 ^ 30 := by
  have e : (10 ^ 30 : Nat) = 1000000000000000000000000000000 := rfl
  rw [e]
  omega
theorem value_ok (s : Pen) : ∃ d s', m__law_value [.pen] s = .ok d s' ∧ Vl d := by
  obtain ⟨a, s1, e1, a0, a1, _⟩ := take_ok s 1000000000000000 (by decide) (by decide)
  obtain ⟨b, s2, e2, b0, b1, _⟩ := take_ok s1 1000000000000000 (by decide) (by decide)
  have hn := num_lt a0 a1 b0 b1
  have p0 : b__law_value_0 [some .pen, none] s = .nx [some .pen, some (.int (a * 1000000000000000 + b))] s2 := by
    have m : mulOk a 1000000000000000 = true := mulOk_r (by decide)
    clear hn a0 a1 b0 b1
    unfold b__law_value_0
    walk_at "tw"
  generalize a * 1000000000000000 + b = n at *
  have hm : (-n).natAbs ≤ 10 ^ 30 := by rw [Int.natAbs_neg]; exact hn
  obtain ⟨d, s3, e3, md, _⟩ := of_ok s2 [.int n, .int (-n), .str "corner", .str (toString n), .tup [.int 0, .int 3, .int 4], .tup [.int n, .str "x"], .lst [.int n], .non, .bl true, .int 0] (by show 0 < 10; decide) (by show 10 ≤ 1000; decide)
  have st : strD [.int n] = mret (.str (toString n)) := by
    have z : n.natAbs.log2 < 1920 := by
      by_cases z : n.natAbs = 0
      · rw [z]; decide
      · exact Nat.lt_of_lt_of_le ((Nat.log2_lt z).mpr (Nat.lt_of_le_of_lt hn (by decide : 10 ^ 30 < 2 ^ 101))) (by decide)
    show (if decide _ = true then _ else _) = _
    rw [if_pos (decide_eq_true z)]
  obtain ⟨t1, t2⟩ := text_sh hn
  refine ⟨d, s3, mdef_ret ?_, ?_⟩
  · show b__law_value [some .pen, none] s = _
    unfold b__law_value
    refine sseq_nx' p0 ?_
    clear p0 e1 e2 hn hm md t1 t2 a0 a1 b0 b1
    generalize toString n = T at *
    unfold b__law_value_1
    walk_at "tw"
  · simp only [List.mem_cons, List.not_mem_nil, or_false] at md
    have i1 := int_sh hn
    rcases md with rfl | rfl | rfl | rfl | rfl | rfl | rfl | rfl | rfl | rfl
    · exact ⟨i1, Nat.zero_le _, Nat.zero_le _, rfl⟩
    · exact ⟨int_sh hm, Nat.zero_le _, Nat.zero_le _, rfl⟩
    · exact ⟨by decide +kernel, by decide +kernel, by decide +kernel, rfl⟩
    · exact ⟨t1, by omega, Nat.zero_le _, rfl⟩
    · exact ⟨by decide +kernel, by decide +kernel, by decide +kernel, rfl⟩
    · exact ⟨by show (shOk (.int n) && (shOk (.str "x") && true)) = true; rw [i1]; decide +kernel, by show 0 + 1 + (_ + 1 + 0) ≤ 300; decide +kernel, by show max 0 (max 0 0) + 1 ≤ 1; decide, rfl⟩
    · exact ⟨by show (shOk (.int n) && true) = true; rw [i1]; rfl, by show 0 + 1 + 0 ≤ 300; decide, by show max 0 0 + 1 ≤ 1; decide, rfl⟩
    · exact ⟨by decide +kernel, by decide +kernel, by decide +kernel, rfl⟩
    · exact ⟨by decide +kernel, by decide +kernel, by decide +kernel, rfl⟩
    · exact ⟨by decide +kernel, by decide +kernel, by decide +kernel, rfl⟩
def itm (k : Nat) (r : List Str × List D) : D := .tup [.exo (k + 1) r.1 r.2, .lst r.2, .lst r.2]
def itms : Nat → List (List Str × List D) → List D
  | _, [] => []
  | k, r :: rs => itm k r :: itms (k + 1) rs
abbrev Rw : Type := List Str × List D
def rows1 (v t : D) : List Rw := [([], []), (["what"], [v]), (["what"], [t]), ([], []), (["stone"], [v]), (["joint"], [t]), (["corner"], [v]), (["what", "joint"], [v, t]), (["first", "last"], [t, v]), (["what", "stone"], [v, t]), (["one", "other"], [t, v]), ([], []), ([], []), (["corners"], [.tup [t, .int 3, .int 4]])]
def rows2 (v t : D) : List Rw := [([], []), (["what"], [t]), ([], []), (["mechanism"], [v]), (["what"], [t]), ([], []), ([], []), (["what"], [v]), (["what", "index"], [t, v]), (["name"], [v])]
def rows3 (v t : D) : List Rw := [(["what"], [t]), (["lane"], [v]), (["what"], [t]), (["mechanism"], [v]), (["what"], [t]), ([], []), (["what"], [v]), (["number"], [t]), (["row", "what"], [v, t])]
theorem first_ok (v t : D) : m__law_first [v, t] = mret (.lst (itms 0 (rows1 v t))) := by
  funext s
  kernel_rfl
theorem second_ok (v t : D) : m__law_second [v, t] = mret (.lst (itms 14 (rows2 v t))) := by
  funext s
  kernel_rfl
theorem third_ok (v t : D) : m__law_third [v, t] = mret (.lst (itms 24 (rows3 v t))) := by
  funext s
  kernel_rfl
def cl (k : Nat) : List D := (List.range 33).map fun j => D.bl (decide (((j : Nat) : Int) = ((k : Nat) : Int)))
theorem classes_ok (ns : List Str) (xs : List D) : ∀ k, k < 33 → m__law_classes [.exo (k + 1) ns xs] = mret (.lst (cl k)) := by
  intro k hk
  funext s
  match k, hk with
  | 0, _ => kernel_rfl
  | 1, _ => kernel_rfl
  | 2, _ => kernel_rfl
  | 3, _ => kernel_rfl
  | 4, _ => kernel_rfl
  | 5, _ => kernel_rfl
  | 6, _ => kernel_rfl
  | 7, _ => kernel_rfl
  | 8, _ => kernel_rfl
  | 9, _ => kernel_rfl
  | 10, _ => kernel_rfl
  | 11, _ => kernel_rfl
  | 12, _ => kernel_rfl
  | 13, _ => kernel_rfl
  | 14, _ => kernel_rfl
  | 15, _ => kernel_rfl
  | 16, _ => kernel_rfl
  | 17, _ => kernel_rfl
  | 18, _ => kernel_rfl
  | 19, _ => kernel_rfl
  | 20, _ => kernel_rfl
  | 21, _ => kernel_rfl
  | 22, _ => kernel_rfl
  | 23, _ => kernel_rfl
  | 24, _ => kernel_rfl
  | 25, _ => kernel_rfl
  | 26, _ => kernel_rfl
  | 27, _ => kernel_rfl
  | 28, _ => kernel_rfl
  | 29, _ => kernel_rfl
  | 30, _ => kernel_rfl
  | 31, _ => kernel_rfl
  | 32, _ => kernel_rfl
  | n + 33, h => exact absurd h (by omega)
theorem classes_base : m__law_classes [.exo 0 [] []] = mret (.lst ((List.range 33).map fun _ => D.bl false)) := by
  funext s
  kernel_rfl
theorem repr_l {xs : List D} (h1 : shOkL xs = true) (h2 : wghL xs ≤ 4000) (h3 : dptL xs ≤ 60) : reprD [.lst xs] = mret (.str (reprT (.lst xs))) := by
  show (if (shOkL xs && decide (wghL xs ≤ 4000) && decide (dptL xs + 1 ≤ 64)) = true then _ else _) = _
  rw [h1, decide_eq_true h2, decide_eq_true (by omega)]
  rfl
structure VlL (xs : List D) : Prop where
  s : shOkL xs = true
  w : wghL xs ≤ 4000
  p : dptL xs ≤ 60
theorem VlL.r {xs : List D} (h : VlL xs) : reprD [.lst xs] = mret (.str (reprT (.lst xs))) := repr_l h.s h.w h.p
theorem shL_of : ∀ {xs : List D}, (∀ x ∈ xs, Vl x) → shOkL xs = true ∧ wghL xs ≤ 301 * xs.length ∧ dptL xs ≤ 1
  | [], _ => ⟨rfl, Nat.zero_le _, Nat.zero_le _⟩
  | x :: xs, h => by
    obtain ⟨a, b, c⟩ := shL_of (xs := xs) fun y hy => h y (List.mem_cons_of_mem _ hy)
    have q := h x List.mem_cons_self
    refine ⟨by show (shOk x && shOkL xs) = true; rw [q.s, a]; rfl, ?_, ?_⟩
    · show wgh x + 1 + wghL xs ≤ 301 * (xs.length + 1)
      have := q.w
      omega
    · show max (dpt x) (dptL xs) ≤ 1
      exact Nat.max_le.mpr ⟨q.p, c⟩
theorem vlL_of {xs : List D} (h : ∀ x ∈ xs, Vl x) (hl : xs.length ≤ 10) : VlL xs := by
  obtain ⟨a, b, c⟩ := shL_of h
  exact ⟨a, by omega, by omega⟩
theorem vlL_in {t : D} (h : Vl t) : VlL [.tup [t, .int 3, .int 4]] := by
  refine ⟨?_, ?_, ?_⟩
  · show ((shOk t && (shOk (.int 3) && (shOk (.int 4) && true))) && true) = true
    rw [h.s]; decide +kernel
  · show (wgh t + 1 + (0 + 1 + (0 + 1 + 0))) + 1 + 0 ≤ 4000
    have := h.w
    omega
  · show max (max (dpt t) (max 0 (max 0 0)) + 1) 0 ≤ 60
    have := h.p
    omega
theorem rows_ok {v t : D} (hv : Vl v) (ht : Vl t) : ∀ r ∈ rows1 v t ++ (rows2 t v ++ rows3 v t), VlL r.2 := by
  have e0 : VlL [] := vlL_of (fun x hx => (List.not_mem_nil hx).elim) (by decide)
  have e1 : ∀ {x : D}, Vl x → VlL [x] := fun {x} hx => vlL_of (fun y hy => by rw [List.mem_singleton.mp hy]; exact hx) (by show 1 ≤ 10; decide)
  have e2 : ∀ {x y : D}, Vl x → Vl y → VlL [x, y] := fun {x y} hx hy => vlL_of (fun z hz => by
    rcases List.mem_cons.mp hz with rfl | hz
    · exact hx
    · rw [List.mem_singleton.mp hz]; exact hy) (by show 2 ≤ 10; decide)
  intro r hr
  simp only [rows1, rows2, rows3, List.cons_append, List.nil_append, List.mem_cons, List.not_mem_nil, or_false] at hr
  rcases hr with rfl | rfl | rfl | rfl | rfl | rfl | rfl | rfl | rfl | rfl | rfl | rfl | rfl | rfl | rfl | rfl | rfl | rfl | rfl | rfl | rfl | rfl | rfl | rfl | rfl | rfl | rfl | rfl | rfl | rfl | rfl | rfl | rfl
  all_goals first
    | exact e0
    | exact e1 hv
    | exact e1 ht
    | exact e2 hv ht
    | exact e2 ht hv
    | exact vlL_in ht
theorem eq_st (Z : Str) : eqA (.str Z) (.str Z) = mret (.bl true) := by rw [eqA_str, decide_eq_true rfl]
theorem ne_st (Z : Str) : neA (.str Z) (.str Z) = mret (.bl false) := by rw [neA_str, decide_eq_true rfl]; rfl
theorem by_ok {v t : D} (hv : Vl v) (ht : Vl t) : m__law_by_names [v, t] = mret (.bl true) := by
  have l8 : VlL [t, v, v, t, t, v, t, v] := vlL_of (fun z hz => by
    simp only [List.mem_cons, List.not_mem_nil, or_false] at hz
    rcases hz with rfl | rfl | rfl | rfl | rfl | rfl | rfl | rfl <;> assumption) (by show 8 ≤ 10; decide)
  have re := l8.r
  have eq := eq_st (reprT (.lst [t, v, v, t, t, v, t, v]))
  funext s
  refine mdef_ret (s' := s) ?_
  show b__law_by_names [some v, some t, none, none, none, none, none] s = _
  have p0 : b__law_by_names_0 [some v, some t, none, none, none, none, none] s = .nx [some v, some t, none, some (.exo 8 ["what", "joint"] [t, v]), some (.exo 23 ["what", "index"] [v, t]), none, none] s := by kernel_rfl
  have p1 : b__law_by_names_1 [some v, some t, none, some (.exo 8 ["what", "joint"] [t, v]), some (.exo 23 ["what", "index"] [v, t]), none, none] s = .nx [some v, some t, none, some (.exo 8 ["what", "joint"] [t, v]), some (.exo 23 ["what", "index"] [v, t]), some (.exo 33 ["row", "what"] [t, v]), some (.exo 11 ["one", "other"] [t, v])] s := by kernel_rfl
  have p2 : b__law_by_names_2 [some v, some t, none, some (.exo 8 ["what", "joint"] [t, v]), some (.exo 23 ["what", "index"] [v, t]), some (.exo 33 ["row", "what"] [t, v]), some (.exo 11 ["one", "other"] [t, v])] s = .nx [some v, some t, some (.lst [t, v, v, t, t, v, t, v]), some (.exo 8 ["what", "joint"] [t, v]), some (.exo 23 ["what", "index"] [v, t]), some (.exo 33 ["row", "what"] [t, v]), some (.exo 11 ["one", "other"] [t, v])] s := by kernel_rfl
  unfold b__law_by_names
  refine sseq_nx' p0 (sseq_nx' p1 (sseq_nx' p2 ?_))
  clear p0 p1 p2 l8 hv ht
  generalize reprT (.lst [t, v, v, t, t, v, t, v]) = Z at *
  unfold b__law_by_names_3
  walk_at "tw"
theorem caught_ok {v t : D} (hv : Vl v) (ht : Vl t) : m__law_caught [v, t] = mret (.bl true) := by
  have l2 : VlL [v, t] := vlL_of (fun z hz => by
    simp only [List.mem_cons, List.not_mem_nil, or_false] at hz
    rcases hz with rfl | rfl <;> assumption) (by show 2 ≤ 10; decide)
  have re := l2.r
  have eq := eq_st (reprT (.lst [v, t]))
  funext s
  refine mdef_ret (s' := s) ?_
  show b__law_caught [some v, some t, none, none, none] s = _
  have p0 : b__law_caught_0 [some v, some t, none, none, none] s = .nx [some v, some t, some (.lst []), none, none] s := by kernel_rfl
  have cv : cleanD (some v) = some v := if_pos hv.n
  have ct : cleanD (some t) = some t := if_pos ht.n
  have cl : cleanD (some (.lst [v, t])) = some (.lst [v, t]) := if_pos (by show (noErr v && (noErr t && true)) = true; rw [hv.n, ht.n]; rfl)
  have p1 : b__law_caught_1 [some v, some t, some (.lst []), none, none] s = .nx [some v, some t, some (.lst [v, t]), none, none] s := by
    have q : b__law_caught_1 [some v, some t, some (.lst []), none, none] s = .nx [cleanD (some v), cleanD (some t), cleanD (some (.lst [v, t])), none, none] s := by kernel_rfl
    rw [q, cv, ct, cl]
  have p2 : b__law_caught_2 [some v, some t, some (.lst [v, t]), none, none] s = .nx [some v, some t, some (.lst [v, t]), none, some (.int 0)] s := by kernel_rfl
  have p3 : b__law_caught_3 [some v, some t, some (.lst [v, t]), none, some (.int 0)] s = .nx [some v, some t, some (.lst [v, t]), none, some (.int 1)] s := by kernel_rfl
  have p4 : b__law_caught_4 [some v, some t, some (.lst [v, t]), none, some (.int 1)] s = .nx [some v, some t, some (.lst [v, t]), none, some (.int 3)] s := by kernel_rfl
  unfold b__law_caught
  refine sseq_nx' p0 (sseq_nx' p1 (sseq_nx' p2 (sseq_nx' p3 (sseq_nx' p4 ?_))))
  clear p0 p1 p2 p3 p4 l2 hv ht cv ct cl
  generalize reprT (.lst [v, t]) = Z at *
  unfold b__law_caught_5
  walk_at "tw"
def rows (v t : D) : List Rw := rows1 v t ++ (rows2 t v ++ rows3 v t)
theorem rows_len (v t : D) : (rows v t).length = 33 := rfl
theorem made_eq (v t : D) : itms 0 (rows v t) = itms 0 (rows1 v t) ++ itms 14 (rows2 t v) ++ itms 24 (rows3 v t) := rfl
theorem itms_get : ∀ {rs : List Rw} {k j : Nat} {r : Rw}, rs[j]? = some r → (itms k rs)[j]? = some (itm (k + j) r)
  | [], k, j, r, h => by simp at h
  | r0 :: rs, k, 0, r, h => by cases h; rfl
  | r0 :: rs, k, j + 1, r, h => by
    have q := itms_get (rs := rs) (k := k + 1) (j := j) (r := r) h
    show (itms (k + 1) rs)[j]? = _
    rw [q, show k + 1 + j = k + (j + 1) by omega]
theorem itms_len : ∀ (rs : List Rw) (k : Nat), (itms k rs).length = rs.length
  | [], _ => rfl
  | r :: rs, k => by show (itms (k + 1) rs).length + 1 = _; rw [itms_len rs]; rfl
theorem neA_self {x : D} (hx : plainD x = true) (dx : dpt x ≤ 64) : neA x x = mret (.bl false) := by
  rw [neA_plain hx hx dx dx, eqvD_refl hx]; rfl
theorem cl_plain : ∀ (l : List Nat) (f : Nat → Bool), plainL (l.map fun j => D.bl (f j)) = true ∧ dptL (l.map fun j => D.bl (f j)) = 0
  | [], _ => ⟨rfl, rfl⟩
  | j :: l, f => by
    obtain ⟨a, b⟩ := cl_plain l f
    exact ⟨by show (true && _) = true; rw [a]; rfl, by show max 0 _ = 0; rw [b]; rfl⟩
theorem ne_cl (k : Nat) : neA (.lst (cl k)) (.lst (cl k)) = mret (.bl false) := by
  obtain ⟨a, b⟩ := cl_plain (List.range 33) fun j => decide (((j : Nat) : Int) = ((k : Nat) : Int))
  exact neA_self (x := .lst (cl k)) a (by show dptL (cl k) + 1 ≤ 64; unfold cl; rw [b]; decide)
theorem r33 : rng1 [.int 33] = mret ((List.range 33).map fun j => D.int ((j : Nat) : Int)) := by kernel_rfl
section
variable {v t : D} {x6 x7 x8 x9 x10 : Option D}
abbrev lw (v t : D) (L : List D) (k : Nat) (x6 x7 x8 x9 x10 : Option D) : Tw.Loc := [none, some .pen, some v, some t, some (.lst L), some (.int (k : Nat)), x6, x7, x8, x9, x10]
theorem lc_ok (L : List D) (k : Nat) : kLc (iR1 (aCons (kC (.int 33)) aNil)) (gnm 10) (fun _ => mret true) (kOp eqA (mvar 10) (mvar 5)) [10] (lw v t L k x6 x7 x8 x9 x10) = mret (.lst (cl k)) := by
  have q := lc_map (fi := iR1 (aCons (kC (.int 33)) aNil)) (gm := gnm 10) (me := kOp eqA (mvar 10) (mvar 5)) (vs := [10]) (ρ := lw v t L k x6 x7 x8 x9 x10) (ds := (List.range 33).map fun j => D.int ((j : Nat) : Int)) (fun d => match d with | .int j => .bl (decide (j = ((k : Nat) : Int))) | d => d) (by
    funext s
    show rng1 [.int 33] s = _
    rw [r33]) (by rw [List.length_map, List.length_range]; decide) fun d hd => by
    obtain ⟨j, _, rfl⟩ := List.mem_map.mp hd
    refine ⟨lw v t L k x6 x7 x8 x9 (some (.int (j : Nat))), rfl, ?_⟩
    funext s
    show eqA (.int (j : Nat)) (.int (k : Nat)) s = _
    rw [eqA_int]
  rw [q, List.map_map]
  rfl
theorem isb {k : Nat} (hk : k < 33) (ns : List Str) (xs : List D) : isV 34 0 [.exo (k + 1) ns xs, .cls 0] = mret (.bl true) := by
  show (if (decide (k + 1 < 34) && decide (0 < 34)) = true then (mret (.bl (decide (0 = k + 1) || decide (0 = 0))) : M D) else mbad) = _
  rw [if_pos (by rw [decide_eq_true (by omega)]; rfl), decide_eq_true (rfl : 0 = 0), Bool.or_true]
theorem isv {k : Nat} (hk : k < 33) (ns : List Str) (xs : List D) : isV 34 0 [.exo (k + 1) ns xs, .ty "ValueError"] = mret (.bl true) := by
  show (if (decide (k + 1 < 34) && decide ("ValueError" = "ValueError")) = true then (mret (.bl true) : M D) else mbad) = _
  rw [if_pos (by rw [decide_eq_true (by omega), decide_eq_true rfl]; rfl)]
noncomputable def ll_1 : MS := (sasg (kOp itemD (mvar 4) (mvar 5)) (gtm 3 (gcn (gnm 7) (gcn (gnm 8) (gcn (gnm 9) gnl)))))
noncomputable def ll_2 : MS := (zIf (kB (kOp neA (kCall m__law_classes (aCons (mvar 7) aNil)) (kLc (iR1 (aCons (kC (.int 33)) aNil)) (gnm 10) (fun _ => mret true) (kOp eqA (mvar 10) (mvar 5)) [10]))) (zRet (kC (.bl false))) zNx)
noncomputable def ll_3 : MS := (zIf (kOr (kNot (kB (kCall (isV 34 0) (aCons (mvar 7) (aCons (kC (.cls 0)) aNil))))) (kOr (kNot (kB (kCall (isV 34 0) (aCons (mvar 7) (aCons (kC (.ty "ValueError")) aNil))))) (kB (kOp neA (kCall reprD (aCons (mvar 8) aNil)) (kCall reprD (aCons (mvar 9) aNil)))))) (zRet (kC (.bl false))) zNx)
theorem ll__parts : lb_law_0 = sseq ll_1 (sseq ll_2 ll_3) := rfl
theorem ll_1s {k : Nat} {r : Rw} {L : List D} (h : L[k]? = some (itm k r)) (s : Pen) : ll_1 (lw v t L k x6 x7 x8 x9 x10) s = .nx (lw v t L k x6 (some (.exo (k + 1) r.1 r.2)) (some (.lst r.2)) (some (.lst r.2)) x10) s := by
  have a := atI_nat h
  unfold ll_1
  unfold itm at a
  walk_at "tw"
theorem ll_2s {k : Nat} {ns : List Str} {xs : List D} {L : List D} (hk : k < 33) (s : Pen) : ll_2 (lw v t L k x6 (some (.exo (k + 1) ns xs)) x8 x9 x10) s = .nx (lw v t L k x6 (some (.exo (k + 1) ns xs)) x8 x9 x10) s := by
  have c := classes_ok ns xs k hk
  have l := lc_ok (v := v) (t := t) (x6 := x6) (x7 := some (.exo (k + 1) ns xs)) (x8 := x8) (x9 := x9) (x10 := x10) L k
  have n := ne_cl k
  unfold ll_2
  generalize kLc (iR1 (aCons (kC (.int 33)) aNil)) (gnm 10) (fun _ => mret true) (kOp eqA (mvar 10) (mvar 5)) [10] = KK at *
  generalize cl k = C at *
  walk_at "tw"
theorem ll_3s {k : Nat} {ns : List Str} {xs : List D} {L : List D} (hk : k < 33) (h : VlL xs) (s : Pen) : ll_3 (lw v t L k x6 (some (.exo (k + 1) ns xs)) (some (.lst xs)) (some (.lst xs)) x10) s = .nx (lw v t L k x6 (some (.exo (k + 1) ns xs)) (some (.lst xs)) (some (.lst xs)) x10) s := by
  have i1 := isb hk ns xs
  have i2 := isv hk ns xs
  have r := h.r
  have n := ne_st (reprT (.lst xs))
  clear h
  generalize reprT (.lst xs) = Z at *
  unfold ll_3
  walk_at "tw"
theorem ll_step {k : Nat} {r : Rw} {L : List D} (hk : k < 33) (h : L[k]? = some (itm k r)) (hr : VlL r.2) (s : Pen) : lb_law_0 (lw v t L k x6 x7 x8 x9 x10) s = .nx (lw v t L k x6 (some (.exo (k + 1) r.1 r.2)) (some (.lst r.2)) (some (.lst r.2)) x10) s := by
  rw [ll__parts]
  exact sseq_nx' (ll_1s h s) (sseq_nx' (ll_2s hk s) (ll_3s hk hr s))
end
theorem ll_loop {v t : D} (hv : Vl v) (ht : Vl t) (s : Pen) : ∀ (n k : Nat) (x5 x7 x8 x9 : Option D), k + n = 33 → ∃ (y5 y7 y8 y9 : Option D), sloop (gnm 5) lb_law_0 ((List.range' k n).map fun j => D.int ((j : Nat) : Int)) [none, some .pen, some v, some t, some (.lst (itms 0 (rows v t))), x5, none, x7, x8, x9, none] s = .nx [none, some .pen, some v, some t, some (.lst (itms 0 (rows v t))), y5, none, y7, y8, y9, none] s
  | 0, k, x5, x7, x8, x9, _ => ⟨x5, x7, x8, x9, rfl⟩
  | n + 1, k, x5, x7, x8, x9, h => by
    have hk : k < 33 := by omega
    have hl : k < (rows v t).length := by rw [rows_len]; exact hk
    have hg : (rows v t)[k]? = some (rows v t)[k] := List.getElem?_eq_getElem hl
    have hi := itms_get (k := 0) hg
    rw [Nat.zero_add] at hi
    have e := ll_step (v := v) (t := t) (x6 := none) (x7 := x7) (x8 := x8) (x9 := x9) (x10 := none) hk hi (rows_ok hv ht _ (List.mem_of_getElem? hg)) s
    obtain ⟨y5, y7, y8, y9, e2⟩ := ll_loop hv ht s n (k + 1) (some (.int (k : Nat))) (some (.exo (k + 1) (rows v t)[k].1 (rows v t)[k].2)) (some (.lst (rows v t)[k].2)) (some (.lst (rows v t)[k].2)) (by omega)
    refine ⟨y5, y7, y8, y9, ?_⟩
    rw [List.range'_succ, List.map_cons, sl_nx (ρ1 := lw v t (itms 0 (rows v t)) k none x7 x8 x9 none) rfl e]
    exact e2
theorem good (s : Pen) : ∃ s', b_law ρ0 s = .ret (.bl true) s' := by
  obtain ⟨v, s1, e1, hv⟩ := value_ok s
  obtain ⟨t, s2, e2, ht⟩ := value_ok s1
  have f1 := first_ok v t
  have f2 := second_ok t v
  have f3 := third_ok v t
  obtain ⟨y5, y7, y8, y9, e3⟩ := ll_loop hv ht s2 33 0 none none none none rfl
  have by' := by_ok hv ht
  have ca := caught_ok hv ht
  have p0 : b_law_0 [none, some .pen, none, none, none, none, none, none, none, none, none] s = .nx [none, some .pen, some v, none, none, none, none, none, none, none, none] s1 := by
    unfold b_law_0
    clear e2 e3 f1 f2 f3 by' ca hv ht
    walk_at "tw"
  have p1 : b_law_1 [none, some .pen, some v, none, none, none, none, none, none, none, none] s1 = .nx [none, some .pen, some v, some t, none, none, none, none, none, none, none] s2 := by
    unfold b_law_1
    clear e1 e3 f1 f2 f3 by' ca hv ht p0
    walk_at "tw"
  have p2 : b_law_2 [none, some .pen, some v, some t, none, none, none, none, none, none, none] s2 = .nx [none, some .pen, some v, some t, some (.lst (itms 0 (rows v t))), none, none, none, none, none, none] s2 := by
    have a1 : ∀ s, addIL (.lst (itms 0 (rows1 v t))) (.lst (itms 14 (rows2 t v))) s = .ok (.lst (itms 0 (rows1 v t) ++ itms 14 (rows2 t v))) s := fun s => y_cat (by rw [itms_len, itms_len]; show 14 + 10 ≤ 100000; decide)
    have a2 : ∀ s, addIL (.lst (itms 0 (rows1 v t) ++ itms 14 (rows2 t v))) (.lst (itms 24 (rows3 v t))) s = .ok (.lst (itms 0 (rows1 v t) ++ itms 14 (rows2 t v) ++ itms 24 (rows3 v t))) s := fun s => y_cat (by rw [List.length_append, itms_len, itms_len, itms_len]; show 14 + 10 + 9 ≤ 100000; decide)
    rw [made_eq]
    clear e1 e2 e3 by' ca hv ht p0 p1
    generalize itms 0 (rows1 v t) ++ itms 14 (rows2 t v) ++ itms 24 (rows3 v t) = A3 at *
    generalize itms 0 (rows1 v t) ++ itms 14 (rows2 t v) = A2 at *
    generalize itms 0 (rows1 v t) = A1 at *
    generalize itms 14 (rows2 t v) = B1 at *
    generalize itms 24 (rows3 v t) = B2 at *
    unfold b_law_2
    walk_at "tw"
  have ln : (((itms 0 (rows v t)).length : Nat) : Int) = 33 := by rw [itms_len, rows_len]; rfl
  have p3 : b_law_3 [none, some .pen, some v, some t, some (.lst (itms 0 (rows v t))), none, none, none, none, none, none] s2 = .nx [none, some .pen, some v, some t, some (.lst (itms 0 (rows v t))), y5, none, y7, y8, y9, none] s2 := by
    have f : ∀ A : List D, ((A.length : Nat) : Int) = 33 → iR1 (aCons (kCall lenD (aCons (mvar 4) aNil)) aNil) [none, some .pen, some v, some t, some (.lst A), none, none, none, none, none, none] s2 = .ok ((List.range' 0 33).map fun j => D.int ((j : Nat) : Int)) s2 := fun A l => by
      have r := r33
      rw [List.range_eq_range'] at r
      clear ln e1 e2 e3 f1 f2 f3 by' ca hv ht p0 p1 p2
      unfold iR1
      generalize (List.range' 0 33).map (fun j => D.int ((j : Nat) : Int)) = RR at *
      generalize rng1 = RG at *
      walk_at "tw"
    unfold b_law_3
    rw [y_sfor, f _ ln, y_sof]
    exact e3
  have p4 : b_law_4 [none, some .pen, some v, some t, some (.lst (itms 0 (rows v t))), y5, none, y7, y8, y9, none] s2 = .nx [none, some .pen, some v, some t, some (.lst (itms 0 (rows v t))), y5, some (.exo 0 [] []), y7, y8, y9, none] s2 := rfl
  have p5 : b_law_5 [none, some .pen, some v, some t, some (.lst (itms 0 (rows v t))), y5, some (.exo 0 [] []), y7, y8, y9, none] s2 = .nx [none, some .pen, some v, some t, some (.lst (itms 0 (rows v t))), y5, some (.exo 0 [] []), y7, y8, y9, none] s2 := by
    have c := classes_base
    have i : isV 34 0 [.exo 0 [] [], .ty "ValueError"] = mret (.bl true) := by funext s; kernel_rfl
    have q : inA false (.bl true) (.lst ((List.range 33).map fun _ => D.bl false)) = mret (.bl false) := by funext s; kernel_rfl
    clear e1 e2 e3 f1 f2 f3 by' ca hv ht p0 p1 p2 p3 p4
    generalize itms 0 (rows v t) = A at *
    generalize (List.range 33).map (fun _ => D.bl false) = C at *
    unfold b_law_5
    walk_at "tw"
  have p6 : b_law_6 [none, some .pen, some v, some t, some (.lst (itms 0 (rows v t))), y5, some (.exo 0 [] []), y7, y8, y9, none] s2 = .ret (.bl true) s2 := by
    clear e1 e2 e3 f1 f2 f3 hv ht p0 p1 p2 p3 p4 p5
    generalize itms 0 (rows v t) = A at *
    unfold b_law_6
    walk_at "tw"
  exact ⟨s2, by
    show b_law [none, some .pen, none, none, none, none, none, none, none, none, none] s = _
    unfold b_law
    exact sseq_nx' p0 (sseq_nx' p1 (sseq_nx' p2 (sseq_nx' p3 (sseq_nx' p4 (sseq_nx' p5 p6)))))⟩
end K00
namespace K00
open PySem L2 PySem.Spec PyProof.Rows Tw
theorem all_mk {l : PySem.W.OpenLaw} {w : World} {K : PySem.W.Frag} {h : Heap} {mg : Str → Option Value} {fa : Addr} (X : K.In h) (G : h.Ns mainGlobals mg) (hfa : mg "law" = some (.ref fa))
    {f__law_take : Addr}
    {od__law_take an__law_take : Option Addr}
    {sl__law_take : Array (Option Value)}
    {oc__law_take kV__law_take dc__law_take pm__law_take cd__law_take ct__law_take : Value}
    {f__law_of : Addr}
    {od__law_of an__law_of : Option Addr}
    {sl__law_of : Array (Option Value)}
    {oc__law_of kV__law_of dc__law_of pm__law_of cd__law_of ct__law_of : Value}
    {f__law_value : Addr}
    {od__law_value an__law_value : Option Addr}
    {sl__law_value : Array (Option Value)}
    {oc__law_value kV__law_value dc__law_value pm__law_value cd__law_value ct__law_value : Value}
    {f__law_pen : Addr}
    {od__law_pen an__law_pen : Option Addr}
    {sl__law_pen : Array (Option Value)}
    {oc__law_pen kV__law_pen dc__law_pen pm__law_pen cd__law_pen ct__law_pen : Value}
    {f__law_first : Addr}
    {od__law_first an__law_first : Option Addr}
    {sl__law_first : Array (Option Value)}
    {oc__law_first kV__law_first dc__law_first pm__law_first cd__law_first ct__law_first : Value}
    {f__law_second : Addr}
    {od__law_second an__law_second : Option Addr}
    {sl__law_second : Array (Option Value)}
    {oc__law_second kV__law_second dc__law_second pm__law_second cd__law_second ct__law_second : Value}
    {f__law_third : Addr}
    {od__law_third an__law_third : Option Addr}
    {sl__law_third : Array (Option Value)}
    {oc__law_third kV__law_third dc__law_third pm__law_third cd__law_third ct__law_third : Value}
    {f__law_classes : Addr}
    {od__law_classes an__law_classes : Option Addr}
    {sl__law_classes : Array (Option Value)}
    {oc__law_classes kV__law_classes dc__law_classes pm__law_classes cd__law_classes ct__law_classes : Value}
    {f__law_by_names : Addr}
    {od__law_by_names an__law_by_names : Option Addr}
    {sl__law_by_names : Array (Option Value)}
    {oc__law_by_names kV__law_by_names dc__law_by_names pm__law_by_names cd__law_by_names ct__law_by_names : Value}
    {f__law_caught : Addr}
    {od__law_caught an__law_caught : Option Addr}
    {sl__law_caught : Array (Option Value)}
    {oc__law_caught kV__law_caught dc__law_caught pm__law_caught cd__law_caught ct__law_caught : Value}
    {f_law : Addr}
    {od_law an_law : Option Addr}
    {sl_law : Array (Option Value)}
    {oc_law kV_law dc_law pm_law cd_law ct_law : Value}
    {C_BridgeError : Addr}
    {C_BadRatio : Addr}
    {C_BadForce : Addr}
    {C_BadLoad : Addr}
    {C_OtherSize : Addr}
    {C_NoStone : Addr}
    {C_NoJoint : Addr}
    {C_NoCorner : Addr}
    {C_BadBridge : Addr}
    {C_NoPart : Addr}
    {C_BadRing : Addr}
    {C_BadCut : Addr}
    {C_BadThrust : Addr}
    {C_BadCorners : Addr}
    {C_InLine : Addr}
    {C_BadMotion : Addr}
    {C_BadWeights : Addr}
    {C_Unbalanced : Addr}
    {C_NotStanding : Addr}
    {C_BadPalette : Addr}
    {C_BadMix : Addr}
    {C_BadRows : Addr}
    {C_BadCart : Addr}
    {C_BadRule : Addr}
    {C_NoCart : Addr}
    {C_BadRoad : Addr}
    {C_NoLane : Addr}
    {C_BadLimit : Addr}
    {C_NotSafe : Addr}
    {C_BadYard : Addr}
    {C_BadStage : Addr}
    {C_BadChange : Addr}
    {C_NoChange : Addr}
    {C_BadRow : Addr}
    {I_BridgeError : Addr}
    {odi_BridgeError ani_BridgeError : Option Addr}
    {sli_BridgeError : Array (Option Value)}
    {oci_BridgeError kVi_BridgeError dci_BridgeError pmi_BridgeError cdi_BridgeError cti_BridgeError : Value}
    {nm_BridgeError qn_BridgeError : Str} {N_BridgeError : Addr} {bs_BridgeError bm_BridgeError : List Value} {sn_BridgeError : List Str} {sub_BridgeError : List Value} {ab_BridgeError : Bool} {col_BridgeError : Option Bool} {dd_BridgeError : Option Addr} {k0_BridgeError k1_BridgeError k2_BridgeError k3_BridgeError k5_BridgeError : Option Value}
    {I_BadRatio : Addr}
    {odi_BadRatio ani_BadRatio : Option Addr}
    {sli_BadRatio : Array (Option Value)}
    {oci_BadRatio kVi_BadRatio dci_BadRatio pmi_BadRatio cdi_BadRatio cti_BadRatio : Value}
    {nm_BadRatio qn_BadRatio : Str} {N_BadRatio : Addr} {bs_BadRatio bm_BadRatio : List Value} {sn_BadRatio : List Str} {sub_BadRatio : List Value} {ab_BadRatio : Bool} {col_BadRatio : Option Bool} {dd_BadRatio : Option Addr} {k0_BadRatio k1_BadRatio k2_BadRatio k3_BadRatio k5_BadRatio : Option Value}
    {I_BadForce : Addr}
    {odi_BadForce ani_BadForce : Option Addr}
    {sli_BadForce : Array (Option Value)}
    {oci_BadForce kVi_BadForce dci_BadForce pmi_BadForce cdi_BadForce cti_BadForce : Value}
    {nm_BadForce qn_BadForce : Str} {N_BadForce : Addr} {bs_BadForce bm_BadForce : List Value} {sn_BadForce : List Str} {sub_BadForce : List Value} {ab_BadForce : Bool} {col_BadForce : Option Bool} {dd_BadForce : Option Addr} {k0_BadForce k1_BadForce k2_BadForce k3_BadForce k5_BadForce : Option Value}
    {I_BadLoad : Addr}
    {odi_BadLoad ani_BadLoad : Option Addr}
    {sli_BadLoad : Array (Option Value)}
    {oci_BadLoad kVi_BadLoad dci_BadLoad pmi_BadLoad cdi_BadLoad cti_BadLoad : Value}
    {nm_BadLoad qn_BadLoad : Str} {N_BadLoad : Addr} {bs_BadLoad bm_BadLoad : List Value} {sn_BadLoad : List Str} {sub_BadLoad : List Value} {ab_BadLoad : Bool} {col_BadLoad : Option Bool} {dd_BadLoad : Option Addr} {k0_BadLoad k1_BadLoad k2_BadLoad k3_BadLoad k5_BadLoad : Option Value}
    {I_OtherSize : Addr}
    {odi_OtherSize ani_OtherSize : Option Addr}
    {sli_OtherSize : Array (Option Value)}
    {oci_OtherSize kVi_OtherSize dci_OtherSize pmi_OtherSize cdi_OtherSize cti_OtherSize : Value}
    {nm_OtherSize qn_OtherSize : Str} {N_OtherSize : Addr} {bs_OtherSize bm_OtherSize : List Value} {sn_OtherSize : List Str} {sub_OtherSize : List Value} {ab_OtherSize : Bool} {col_OtherSize : Option Bool} {dd_OtherSize : Option Addr} {k0_OtherSize k1_OtherSize k2_OtherSize k3_OtherSize k5_OtherSize : Option Value}
    {I_NoStone : Addr}
    {odi_NoStone ani_NoStone : Option Addr}
    {sli_NoStone : Array (Option Value)}
    {oci_NoStone kVi_NoStone dci_NoStone pmi_NoStone cdi_NoStone cti_NoStone : Value}
    {nm_NoStone qn_NoStone : Str} {N_NoStone : Addr} {bs_NoStone bm_NoStone : List Value} {sn_NoStone : List Str} {sub_NoStone : List Value} {ab_NoStone : Bool} {col_NoStone : Option Bool} {dd_NoStone : Option Addr} {k0_NoStone k1_NoStone k2_NoStone k3_NoStone k5_NoStone : Option Value}
    {I_NoJoint : Addr}
    {odi_NoJoint ani_NoJoint : Option Addr}
    {sli_NoJoint : Array (Option Value)}
    {oci_NoJoint kVi_NoJoint dci_NoJoint pmi_NoJoint cdi_NoJoint cti_NoJoint : Value}
    {nm_NoJoint qn_NoJoint : Str} {N_NoJoint : Addr} {bs_NoJoint bm_NoJoint : List Value} {sn_NoJoint : List Str} {sub_NoJoint : List Value} {ab_NoJoint : Bool} {col_NoJoint : Option Bool} {dd_NoJoint : Option Addr} {k0_NoJoint k1_NoJoint k2_NoJoint k3_NoJoint k5_NoJoint : Option Value}
    {I_NoCorner : Addr}
    {odi_NoCorner ani_NoCorner : Option Addr}
    {sli_NoCorner : Array (Option Value)}
    {oci_NoCorner kVi_NoCorner dci_NoCorner pmi_NoCorner cdi_NoCorner cti_NoCorner : Value}
    {nm_NoCorner qn_NoCorner : Str} {N_NoCorner : Addr} {bs_NoCorner bm_NoCorner : List Value} {sn_NoCorner : List Str} {sub_NoCorner : List Value} {ab_NoCorner : Bool} {col_NoCorner : Option Bool} {dd_NoCorner : Option Addr} {k0_NoCorner k1_NoCorner k2_NoCorner k3_NoCorner k5_NoCorner : Option Value}
    {I_BadBridge : Addr}
    {odi_BadBridge ani_BadBridge : Option Addr}
    {sli_BadBridge : Array (Option Value)}
    {oci_BadBridge kVi_BadBridge dci_BadBridge pmi_BadBridge cdi_BadBridge cti_BadBridge : Value}
    {nm_BadBridge qn_BadBridge : Str} {N_BadBridge : Addr} {bs_BadBridge bm_BadBridge : List Value} {sn_BadBridge : List Str} {sub_BadBridge : List Value} {ab_BadBridge : Bool} {col_BadBridge : Option Bool} {dd_BadBridge : Option Addr} {k0_BadBridge k1_BadBridge k2_BadBridge k3_BadBridge k5_BadBridge : Option Value}
    {I_NoPart : Addr}
    {odi_NoPart ani_NoPart : Option Addr}
    {sli_NoPart : Array (Option Value)}
    {oci_NoPart kVi_NoPart dci_NoPart pmi_NoPart cdi_NoPart cti_NoPart : Value}
    {nm_NoPart qn_NoPart : Str} {N_NoPart : Addr} {bs_NoPart bm_NoPart : List Value} {sn_NoPart : List Str} {sub_NoPart : List Value} {ab_NoPart : Bool} {col_NoPart : Option Bool} {dd_NoPart : Option Addr} {k0_NoPart k1_NoPart k2_NoPart k3_NoPart k5_NoPart : Option Value}
    {I_BadRing : Addr}
    {odi_BadRing ani_BadRing : Option Addr}
    {sli_BadRing : Array (Option Value)}
    {oci_BadRing kVi_BadRing dci_BadRing pmi_BadRing cdi_BadRing cti_BadRing : Value}
    {nm_BadRing qn_BadRing : Str} {N_BadRing : Addr} {bs_BadRing bm_BadRing : List Value} {sn_BadRing : List Str} {sub_BadRing : List Value} {ab_BadRing : Bool} {col_BadRing : Option Bool} {dd_BadRing : Option Addr} {k0_BadRing k1_BadRing k2_BadRing k3_BadRing k5_BadRing : Option Value}
    {I_BadCut : Addr}
    {odi_BadCut ani_BadCut : Option Addr}
    {sli_BadCut : Array (Option Value)}
    {oci_BadCut kVi_BadCut dci_BadCut pmi_BadCut cdi_BadCut cti_BadCut : Value}
    {nm_BadCut qn_BadCut : Str} {N_BadCut : Addr} {bs_BadCut bm_BadCut : List Value} {sn_BadCut : List Str} {sub_BadCut : List Value} {ab_BadCut : Bool} {col_BadCut : Option Bool} {dd_BadCut : Option Addr} {k0_BadCut k1_BadCut k2_BadCut k3_BadCut k5_BadCut : Option Value}
    {I_BadThrust : Addr}
    {odi_BadThrust ani_BadThrust : Option Addr}
    {sli_BadThrust : Array (Option Value)}
    {oci_BadThrust kVi_BadThrust dci_BadThrust pmi_BadThrust cdi_BadThrust cti_BadThrust : Value}
    {nm_BadThrust qn_BadThrust : Str} {N_BadThrust : Addr} {bs_BadThrust bm_BadThrust : List Value} {sn_BadThrust : List Str} {sub_BadThrust : List Value} {ab_BadThrust : Bool} {col_BadThrust : Option Bool} {dd_BadThrust : Option Addr} {k0_BadThrust k1_BadThrust k2_BadThrust k3_BadThrust k5_BadThrust : Option Value}
    {I_BadCorners : Addr}
    {odi_BadCorners ani_BadCorners : Option Addr}
    {sli_BadCorners : Array (Option Value)}
    {oci_BadCorners kVi_BadCorners dci_BadCorners pmi_BadCorners cdi_BadCorners cti_BadCorners : Value}
    {nm_BadCorners qn_BadCorners : Str} {N_BadCorners : Addr} {bs_BadCorners bm_BadCorners : List Value} {sn_BadCorners : List Str} {sub_BadCorners : List Value} {ab_BadCorners : Bool} {col_BadCorners : Option Bool} {dd_BadCorners : Option Addr} {k0_BadCorners k1_BadCorners k2_BadCorners k3_BadCorners k5_BadCorners : Option Value}
    {I_InLine : Addr}
    {odi_InLine ani_InLine : Option Addr}
    {sli_InLine : Array (Option Value)}
    {oci_InLine kVi_InLine dci_InLine pmi_InLine cdi_InLine cti_InLine : Value}
    {nm_InLine qn_InLine : Str} {N_InLine : Addr} {bs_InLine bm_InLine : List Value} {sn_InLine : List Str} {sub_InLine : List Value} {ab_InLine : Bool} {col_InLine : Option Bool} {dd_InLine : Option Addr} {k0_InLine k1_InLine k2_InLine k3_InLine k5_InLine : Option Value}
    {I_BadMotion : Addr}
    {odi_BadMotion ani_BadMotion : Option Addr}
    {sli_BadMotion : Array (Option Value)}
    {oci_BadMotion kVi_BadMotion dci_BadMotion pmi_BadMotion cdi_BadMotion cti_BadMotion : Value}
    {nm_BadMotion qn_BadMotion : Str} {N_BadMotion : Addr} {bs_BadMotion bm_BadMotion : List Value} {sn_BadMotion : List Str} {sub_BadMotion : List Value} {ab_BadMotion : Bool} {col_BadMotion : Option Bool} {dd_BadMotion : Option Addr} {k0_BadMotion k1_BadMotion k2_BadMotion k3_BadMotion k5_BadMotion : Option Value}
    {I_BadWeights : Addr}
    {odi_BadWeights ani_BadWeights : Option Addr}
    {sli_BadWeights : Array (Option Value)}
    {oci_BadWeights kVi_BadWeights dci_BadWeights pmi_BadWeights cdi_BadWeights cti_BadWeights : Value}
    {nm_BadWeights qn_BadWeights : Str} {N_BadWeights : Addr} {bs_BadWeights bm_BadWeights : List Value} {sn_BadWeights : List Str} {sub_BadWeights : List Value} {ab_BadWeights : Bool} {col_BadWeights : Option Bool} {dd_BadWeights : Option Addr} {k0_BadWeights k1_BadWeights k2_BadWeights k3_BadWeights k5_BadWeights : Option Value}
    {I_Unbalanced : Addr}
    {odi_Unbalanced ani_Unbalanced : Option Addr}
    {sli_Unbalanced : Array (Option Value)}
    {oci_Unbalanced kVi_Unbalanced dci_Unbalanced pmi_Unbalanced cdi_Unbalanced cti_Unbalanced : Value}
    {nm_Unbalanced qn_Unbalanced : Str} {N_Unbalanced : Addr} {bs_Unbalanced bm_Unbalanced : List Value} {sn_Unbalanced : List Str} {sub_Unbalanced : List Value} {ab_Unbalanced : Bool} {col_Unbalanced : Option Bool} {dd_Unbalanced : Option Addr} {k0_Unbalanced k1_Unbalanced k2_Unbalanced k3_Unbalanced k5_Unbalanced : Option Value}
    {I_NotStanding : Addr}
    {odi_NotStanding ani_NotStanding : Option Addr}
    {sli_NotStanding : Array (Option Value)}
    {oci_NotStanding kVi_NotStanding dci_NotStanding pmi_NotStanding cdi_NotStanding cti_NotStanding : Value}
    {nm_NotStanding qn_NotStanding : Str} {N_NotStanding : Addr} {bs_NotStanding bm_NotStanding : List Value} {sn_NotStanding : List Str} {sub_NotStanding : List Value} {ab_NotStanding : Bool} {col_NotStanding : Option Bool} {dd_NotStanding : Option Addr} {k0_NotStanding k1_NotStanding k2_NotStanding k3_NotStanding k5_NotStanding : Option Value}
    {I_BadPalette : Addr}
    {odi_BadPalette ani_BadPalette : Option Addr}
    {sli_BadPalette : Array (Option Value)}
    {oci_BadPalette kVi_BadPalette dci_BadPalette pmi_BadPalette cdi_BadPalette cti_BadPalette : Value}
    {nm_BadPalette qn_BadPalette : Str} {N_BadPalette : Addr} {bs_BadPalette bm_BadPalette : List Value} {sn_BadPalette : List Str} {sub_BadPalette : List Value} {ab_BadPalette : Bool} {col_BadPalette : Option Bool} {dd_BadPalette : Option Addr} {k0_BadPalette k1_BadPalette k2_BadPalette k3_BadPalette k5_BadPalette : Option Value}
    {I_BadMix : Addr}
    {odi_BadMix ani_BadMix : Option Addr}
    {sli_BadMix : Array (Option Value)}
    {oci_BadMix kVi_BadMix dci_BadMix pmi_BadMix cdi_BadMix cti_BadMix : Value}
    {nm_BadMix qn_BadMix : Str} {N_BadMix : Addr} {bs_BadMix bm_BadMix : List Value} {sn_BadMix : List Str} {sub_BadMix : List Value} {ab_BadMix : Bool} {col_BadMix : Option Bool} {dd_BadMix : Option Addr} {k0_BadMix k1_BadMix k2_BadMix k3_BadMix k5_BadMix : Option Value}
    {I_BadRows : Addr}
    {odi_BadRows ani_BadRows : Option Addr}
    {sli_BadRows : Array (Option Value)}
    {oci_BadRows kVi_BadRows dci_BadRows pmi_BadRows cdi_BadRows cti_BadRows : Value}
    {nm_BadRows qn_BadRows : Str} {N_BadRows : Addr} {bs_BadRows bm_BadRows : List Value} {sn_BadRows : List Str} {sub_BadRows : List Value} {ab_BadRows : Bool} {col_BadRows : Option Bool} {dd_BadRows : Option Addr} {k0_BadRows k1_BadRows k2_BadRows k3_BadRows k5_BadRows : Option Value}
    {I_BadCart : Addr}
    {odi_BadCart ani_BadCart : Option Addr}
    {sli_BadCart : Array (Option Value)}
    {oci_BadCart kVi_BadCart dci_BadCart pmi_BadCart cdi_BadCart cti_BadCart : Value}
    {nm_BadCart qn_BadCart : Str} {N_BadCart : Addr} {bs_BadCart bm_BadCart : List Value} {sn_BadCart : List Str} {sub_BadCart : List Value} {ab_BadCart : Bool} {col_BadCart : Option Bool} {dd_BadCart : Option Addr} {k0_BadCart k1_BadCart k2_BadCart k3_BadCart k5_BadCart : Option Value}
    {I_BadRule : Addr}
    {odi_BadRule ani_BadRule : Option Addr}
    {sli_BadRule : Array (Option Value)}
    {oci_BadRule kVi_BadRule dci_BadRule pmi_BadRule cdi_BadRule cti_BadRule : Value}
    {nm_BadRule qn_BadRule : Str} {N_BadRule : Addr} {bs_BadRule bm_BadRule : List Value} {sn_BadRule : List Str} {sub_BadRule : List Value} {ab_BadRule : Bool} {col_BadRule : Option Bool} {dd_BadRule : Option Addr} {k0_BadRule k1_BadRule k2_BadRule k3_BadRule k5_BadRule : Option Value}
    {I_NoCart : Addr}
    {odi_NoCart ani_NoCart : Option Addr}
    {sli_NoCart : Array (Option Value)}
    {oci_NoCart kVi_NoCart dci_NoCart pmi_NoCart cdi_NoCart cti_NoCart : Value}
    {nm_NoCart qn_NoCart : Str} {N_NoCart : Addr} {bs_NoCart bm_NoCart : List Value} {sn_NoCart : List Str} {sub_NoCart : List Value} {ab_NoCart : Bool} {col_NoCart : Option Bool} {dd_NoCart : Option Addr} {k0_NoCart k1_NoCart k2_NoCart k3_NoCart k5_NoCart : Option Value}
    {I_BadRoad : Addr}
    {odi_BadRoad ani_BadRoad : Option Addr}
    {sli_BadRoad : Array (Option Value)}
    {oci_BadRoad kVi_BadRoad dci_BadRoad pmi_BadRoad cdi_BadRoad cti_BadRoad : Value}
    {nm_BadRoad qn_BadRoad : Str} {N_BadRoad : Addr} {bs_BadRoad bm_BadRoad : List Value} {sn_BadRoad : List Str} {sub_BadRoad : List Value} {ab_BadRoad : Bool} {col_BadRoad : Option Bool} {dd_BadRoad : Option Addr} {k0_BadRoad k1_BadRoad k2_BadRoad k3_BadRoad k5_BadRoad : Option Value}
    {I_NoLane : Addr}
    {odi_NoLane ani_NoLane : Option Addr}
    {sli_NoLane : Array (Option Value)}
    {oci_NoLane kVi_NoLane dci_NoLane pmi_NoLane cdi_NoLane cti_NoLane : Value}
    {nm_NoLane qn_NoLane : Str} {N_NoLane : Addr} {bs_NoLane bm_NoLane : List Value} {sn_NoLane : List Str} {sub_NoLane : List Value} {ab_NoLane : Bool} {col_NoLane : Option Bool} {dd_NoLane : Option Addr} {k0_NoLane k1_NoLane k2_NoLane k3_NoLane k5_NoLane : Option Value}
    {I_BadLimit : Addr}
    {odi_BadLimit ani_BadLimit : Option Addr}
    {sli_BadLimit : Array (Option Value)}
    {oci_BadLimit kVi_BadLimit dci_BadLimit pmi_BadLimit cdi_BadLimit cti_BadLimit : Value}
    {nm_BadLimit qn_BadLimit : Str} {N_BadLimit : Addr} {bs_BadLimit bm_BadLimit : List Value} {sn_BadLimit : List Str} {sub_BadLimit : List Value} {ab_BadLimit : Bool} {col_BadLimit : Option Bool} {dd_BadLimit : Option Addr} {k0_BadLimit k1_BadLimit k2_BadLimit k3_BadLimit k5_BadLimit : Option Value}
    {I_NotSafe : Addr}
    {odi_NotSafe ani_NotSafe : Option Addr}
    {sli_NotSafe : Array (Option Value)}
    {oci_NotSafe kVi_NotSafe dci_NotSafe pmi_NotSafe cdi_NotSafe cti_NotSafe : Value}
    {nm_NotSafe qn_NotSafe : Str} {N_NotSafe : Addr} {bs_NotSafe bm_NotSafe : List Value} {sn_NotSafe : List Str} {sub_NotSafe : List Value} {ab_NotSafe : Bool} {col_NotSafe : Option Bool} {dd_NotSafe : Option Addr} {k0_NotSafe k1_NotSafe k2_NotSafe k3_NotSafe k5_NotSafe : Option Value}
    {I_BadYard : Addr}
    {odi_BadYard ani_BadYard : Option Addr}
    {sli_BadYard : Array (Option Value)}
    {oci_BadYard kVi_BadYard dci_BadYard pmi_BadYard cdi_BadYard cti_BadYard : Value}
    {nm_BadYard qn_BadYard : Str} {N_BadYard : Addr} {bs_BadYard bm_BadYard : List Value} {sn_BadYard : List Str} {sub_BadYard : List Value} {ab_BadYard : Bool} {col_BadYard : Option Bool} {dd_BadYard : Option Addr} {k0_BadYard k1_BadYard k2_BadYard k3_BadYard k5_BadYard : Option Value}
    {I_BadStage : Addr}
    {odi_BadStage ani_BadStage : Option Addr}
    {sli_BadStage : Array (Option Value)}
    {oci_BadStage kVi_BadStage dci_BadStage pmi_BadStage cdi_BadStage cti_BadStage : Value}
    {nm_BadStage qn_BadStage : Str} {N_BadStage : Addr} {bs_BadStage bm_BadStage : List Value} {sn_BadStage : List Str} {sub_BadStage : List Value} {ab_BadStage : Bool} {col_BadStage : Option Bool} {dd_BadStage : Option Addr} {k0_BadStage k1_BadStage k2_BadStage k3_BadStage k5_BadStage : Option Value}
    {I_BadChange : Addr}
    {odi_BadChange ani_BadChange : Option Addr}
    {sli_BadChange : Array (Option Value)}
    {oci_BadChange kVi_BadChange dci_BadChange pmi_BadChange cdi_BadChange cti_BadChange : Value}
    {nm_BadChange qn_BadChange : Str} {N_BadChange : Addr} {bs_BadChange bm_BadChange : List Value} {sn_BadChange : List Str} {sub_BadChange : List Value} {ab_BadChange : Bool} {col_BadChange : Option Bool} {dd_BadChange : Option Addr} {k0_BadChange k1_BadChange k2_BadChange k3_BadChange k5_BadChange : Option Value}
    {I_NoChange : Addr}
    {odi_NoChange ani_NoChange : Option Addr}
    {sli_NoChange : Array (Option Value)}
    {oci_NoChange kVi_NoChange dci_NoChange pmi_NoChange cdi_NoChange cti_NoChange : Value}
    {nm_NoChange qn_NoChange : Str} {N_NoChange : Addr} {bs_NoChange bm_NoChange : List Value} {sn_NoChange : List Str} {sub_NoChange : List Value} {ab_NoChange : Bool} {col_NoChange : Option Bool} {dd_NoChange : Option Addr} {k0_NoChange k1_NoChange k2_NoChange k3_NoChange k5_NoChange : Option Value}
    {I_BadRow : Addr}
    {odi_BadRow ani_BadRow : Option Addr}
    {sli_BadRow : Array (Option Value)}
    {oci_BadRow kVi_BadRow dci_BadRow pmi_BadRow cdi_BadRow cti_BadRow : Value}
    {nm_BadRow qn_BadRow : Str} {N_BadRow : Addr} {bs_BadRow bm_BadRow : List Value} {sn_BadRow : List Str} {sub_BadRow : List Value} {ab_BadRow : Bool} {col_BadRow : Option Bool} {dd_BadRow : Option Addr} {k0_BadRow k1_BadRow k2_BadRow k3_BadRow k5_BadRow : Option Value}
    (a__law_take : PySem.W.nsIn K mainGlobals "_law_take" = some (some (.ref f__law_take)))
    (l__law_take : K.lookup f__law_take = some ⟨oc__law_take, od__law_take, .func (PySem.W.fnOf "_law_take" "_law_take" (defArgs s__law_take) (defBody s__law_take) (defScope s__law_take) .none kV__law_take dc__law_take pm__law_take an__law_take cd__law_take ct__law_take), sl__law_take⟩)
    (c__law_take : PySem.W.codeIn K cd__law_take "_law_take" = true)
    (k__law_take : PySem.W.keepIn K (.ref f__law_take) = true)
    (a__law_of : PySem.W.nsIn K mainGlobals "_law_of" = some (some (.ref f__law_of)))
    (l__law_of : K.lookup f__law_of = some ⟨oc__law_of, od__law_of, .func (PySem.W.fnOf "_law_of" "_law_of" (defArgs s__law_of) (defBody s__law_of) (defScope s__law_of) .none kV__law_of dc__law_of pm__law_of an__law_of cd__law_of ct__law_of), sl__law_of⟩)
    (c__law_of : PySem.W.codeIn K cd__law_of "_law_of" = true)
    (k__law_of : PySem.W.keepIn K (.ref f__law_of) = true)
    (a__law_value : PySem.W.nsIn K mainGlobals "_law_value" = some (some (.ref f__law_value)))
    (l__law_value : K.lookup f__law_value = some ⟨oc__law_value, od__law_value, .func (PySem.W.fnOf "_law_value" "_law_value" (defArgs s__law_value) (defBody s__law_value) (defScope s__law_value) .none kV__law_value dc__law_value pm__law_value an__law_value cd__law_value ct__law_value), sl__law_value⟩)
    (c__law_value : PySem.W.codeIn K cd__law_value "_law_value" = true)
    (k__law_value : PySem.W.keepIn K (.ref f__law_value) = true)
    (a__law_pen : PySem.W.nsIn K mainGlobals "_law_pen" = some (some (.ref f__law_pen)))
    (l__law_pen : K.lookup f__law_pen = some ⟨oc__law_pen, od__law_pen, .func (PySem.W.fnOf "_law_pen" "_law_pen" (defArgs s__law_pen) (defBody s__law_pen) (defScope s__law_pen) .none kV__law_pen dc__law_pen pm__law_pen an__law_pen cd__law_pen ct__law_pen), sl__law_pen⟩)
    (c__law_pen : PySem.W.codeIn K cd__law_pen "_law_pen" = true)
    (k__law_pen : PySem.W.keepIn K (.ref f__law_pen) = true)
    (a__law_first : PySem.W.nsIn K mainGlobals "_law_first" = some (some (.ref f__law_first)))
    (l__law_first : K.lookup f__law_first = some ⟨oc__law_first, od__law_first, .func (PySem.W.fnOf "_law_first" "_law_first" (defArgs s__law_first) (defBody s__law_first) (defScope s__law_first) .none kV__law_first dc__law_first pm__law_first an__law_first cd__law_first ct__law_first), sl__law_first⟩)
    (c__law_first : PySem.W.codeIn K cd__law_first "_law_first" = true)
    (k__law_first : PySem.W.keepIn K (.ref f__law_first) = true)
    (a__law_second : PySem.W.nsIn K mainGlobals "_law_second" = some (some (.ref f__law_second)))
    (l__law_second : K.lookup f__law_second = some ⟨oc__law_second, od__law_second, .func (PySem.W.fnOf "_law_second" "_law_second" (defArgs s__law_second) (defBody s__law_second) (defScope s__law_second) .none kV__law_second dc__law_second pm__law_second an__law_second cd__law_second ct__law_second), sl__law_second⟩)
    (c__law_second : PySem.W.codeIn K cd__law_second "_law_second" = true)
    (k__law_second : PySem.W.keepIn K (.ref f__law_second) = true)
    (a__law_third : PySem.W.nsIn K mainGlobals "_law_third" = some (some (.ref f__law_third)))
    (l__law_third : K.lookup f__law_third = some ⟨oc__law_third, od__law_third, .func (PySem.W.fnOf "_law_third" "_law_third" (defArgs s__law_third) (defBody s__law_third) (defScope s__law_third) .none kV__law_third dc__law_third pm__law_third an__law_third cd__law_third ct__law_third), sl__law_third⟩)
    (c__law_third : PySem.W.codeIn K cd__law_third "_law_third" = true)
    (k__law_third : PySem.W.keepIn K (.ref f__law_third) = true)
    (a__law_classes : PySem.W.nsIn K mainGlobals "_law_classes" = some (some (.ref f__law_classes)))
    (l__law_classes : K.lookup f__law_classes = some ⟨oc__law_classes, od__law_classes, .func (PySem.W.fnOf "_law_classes" "_law_classes" (defArgs s__law_classes) (defBody s__law_classes) (defScope s__law_classes) .none kV__law_classes dc__law_classes pm__law_classes an__law_classes cd__law_classes ct__law_classes), sl__law_classes⟩)
    (c__law_classes : PySem.W.codeIn K cd__law_classes "_law_classes" = true)
    (k__law_classes : PySem.W.keepIn K (.ref f__law_classes) = true)
    (a__law_by_names : PySem.W.nsIn K mainGlobals "_law_by_names" = some (some (.ref f__law_by_names)))
    (l__law_by_names : K.lookup f__law_by_names = some ⟨oc__law_by_names, od__law_by_names, .func (PySem.W.fnOf "_law_by_names" "_law_by_names" (defArgs s__law_by_names) (defBody s__law_by_names) (defScope s__law_by_names) .none kV__law_by_names dc__law_by_names pm__law_by_names an__law_by_names cd__law_by_names ct__law_by_names), sl__law_by_names⟩)
    (c__law_by_names : PySem.W.codeIn K cd__law_by_names "_law_by_names" = true)
    (k__law_by_names : PySem.W.keepIn K (.ref f__law_by_names) = true)
    (a__law_caught : PySem.W.nsIn K mainGlobals "_law_caught" = some (some (.ref f__law_caught)))
    (l__law_caught : K.lookup f__law_caught = some ⟨oc__law_caught, od__law_caught, .func (PySem.W.fnOf "_law_caught" "_law_caught" (defArgs s__law_caught) (defBody s__law_caught) (defScope s__law_caught) .none kV__law_caught dc__law_caught pm__law_caught an__law_caught cd__law_caught ct__law_caught), sl__law_caught⟩)
    (c__law_caught : PySem.W.codeIn K cd__law_caught "_law_caught" = true)
    (k__law_caught : PySem.W.keepIn K (.ref f__law_caught) = true)
    (a_law : PySem.W.nsIn K mainGlobals "law" = some (some (.ref f_law)))
    (l_law : K.lookup f_law = some ⟨oc_law, od_law, .func (PySem.W.fnOf "law" "law" (defArgs s_law) (defBody s_law) (defScope s_law) .none kV_law dc_law pm_law an_law cd_law ct_law), sl_law⟩)
    (c_law : PySem.W.codeIn K cd_law "law" = true)
    (k_law : PySem.W.keepIn K (.ref f_law) = true)
    (ac_BridgeError : PySem.W.nsIn K mainGlobals "BridgeError" = some (some (.ref C_BridgeError)))
    (ac_BadRatio : PySem.W.nsIn K mainGlobals "BadRatio" = some (some (.ref C_BadRatio)))
    (ac_BadForce : PySem.W.nsIn K mainGlobals "BadForce" = some (some (.ref C_BadForce)))
    (ac_BadLoad : PySem.W.nsIn K mainGlobals "BadLoad" = some (some (.ref C_BadLoad)))
    (ac_OtherSize : PySem.W.nsIn K mainGlobals "OtherSize" = some (some (.ref C_OtherSize)))
    (ac_NoStone : PySem.W.nsIn K mainGlobals "NoStone" = some (some (.ref C_NoStone)))
    (ac_NoJoint : PySem.W.nsIn K mainGlobals "NoJoint" = some (some (.ref C_NoJoint)))
    (ac_NoCorner : PySem.W.nsIn K mainGlobals "NoCorner" = some (some (.ref C_NoCorner)))
    (ac_BadBridge : PySem.W.nsIn K mainGlobals "BadBridge" = some (some (.ref C_BadBridge)))
    (ac_NoPart : PySem.W.nsIn K mainGlobals "NoPart" = some (some (.ref C_NoPart)))
    (ac_BadRing : PySem.W.nsIn K mainGlobals "BadRing" = some (some (.ref C_BadRing)))
    (ac_BadCut : PySem.W.nsIn K mainGlobals "BadCut" = some (some (.ref C_BadCut)))
    (ac_BadThrust : PySem.W.nsIn K mainGlobals "BadThrust" = some (some (.ref C_BadThrust)))
    (ac_BadCorners : PySem.W.nsIn K mainGlobals "BadCorners" = some (some (.ref C_BadCorners)))
    (ac_InLine : PySem.W.nsIn K mainGlobals "InLine" = some (some (.ref C_InLine)))
    (ac_BadMotion : PySem.W.nsIn K mainGlobals "BadMotion" = some (some (.ref C_BadMotion)))
    (ac_BadWeights : PySem.W.nsIn K mainGlobals "BadWeights" = some (some (.ref C_BadWeights)))
    (ac_Unbalanced : PySem.W.nsIn K mainGlobals "Unbalanced" = some (some (.ref C_Unbalanced)))
    (ac_NotStanding : PySem.W.nsIn K mainGlobals "NotStanding" = some (some (.ref C_NotStanding)))
    (ac_BadPalette : PySem.W.nsIn K mainGlobals "BadPalette" = some (some (.ref C_BadPalette)))
    (ac_BadMix : PySem.W.nsIn K mainGlobals "BadMix" = some (some (.ref C_BadMix)))
    (ac_BadRows : PySem.W.nsIn K mainGlobals "BadRows" = some (some (.ref C_BadRows)))
    (ac_BadCart : PySem.W.nsIn K mainGlobals "BadCart" = some (some (.ref C_BadCart)))
    (ac_BadRule : PySem.W.nsIn K mainGlobals "BadRule" = some (some (.ref C_BadRule)))
    (ac_NoCart : PySem.W.nsIn K mainGlobals "NoCart" = some (some (.ref C_NoCart)))
    (ac_BadRoad : PySem.W.nsIn K mainGlobals "BadRoad" = some (some (.ref C_BadRoad)))
    (ac_NoLane : PySem.W.nsIn K mainGlobals "NoLane" = some (some (.ref C_NoLane)))
    (ac_BadLimit : PySem.W.nsIn K mainGlobals "BadLimit" = some (some (.ref C_BadLimit)))
    (ac_NotSafe : PySem.W.nsIn K mainGlobals "NotSafe" = some (some (.ref C_NotSafe)))
    (ac_BadYard : PySem.W.nsIn K mainGlobals "BadYard" = some (some (.ref C_BadYard)))
    (ac_BadStage : PySem.W.nsIn K mainGlobals "BadStage" = some (some (.ref C_BadStage)))
    (ac_BadChange : PySem.W.nsIn K mainGlobals "BadChange" = some (some (.ref C_BadChange)))
    (ac_NoChange : PySem.W.nsIn K mainGlobals "NoChange" = some (some (.ref C_NoChange)))
    (ac_BadRow : PySem.W.nsIn K mainGlobals "BadRow" = some (some (.ref C_BadRow)))
    (x1_BridgeError : K.lookup C_BridgeError = some (excClassObj nm_BridgeError qn_BridgeError C_BridgeError N_BridgeError bs_BridgeError bm_BridgeError true sn_BridgeError sub_BridgeError ab_BridgeError col_BridgeError dd_BridgeError k0_BridgeError k1_BridgeError k2_BridgeError k3_BridgeError k5_BridgeError "ValueError.__new__"))
    (x2_BridgeError : PySem.HandSPX.refsVE bm_BridgeError = true)
    (x3_BridgeError : PySem.W.findIn K (.ref C_BridgeError) "__setattr__" = some (some (.builtin "object.__setattr__")))
    (x4_BridgeError : PySem.W.subIn K (.ref C_BridgeError) (.type "BaseException") = some true)
    (x5_BridgeError : PySem.W.typeIn K (.ref C_BridgeError) = some (.type "type"))
    (x6_BridgeError : PySem.W.keepIn K (.ref C_BridgeError) = true)
    (x7_BridgeError : PySem.W.findIn K (.ref C_BridgeError) "__init__" = some (some (.ref I_BridgeError)))
    (x8_BridgeError : PySem.W.typeIn K (.ref I_BridgeError) = some (.type "function"))
    (li_BridgeError : K.lookup I_BridgeError = some ⟨oci_BridgeError, odi_BridgeError, .func (PySem.W.fnOf "__init__" "BridgeError.__init__" (defArgs si_BridgeError) (defBody si_BridgeError) (defScope si_BridgeError) .none kVi_BridgeError dci_BridgeError pmi_BridgeError ani_BridgeError cdi_BridgeError cti_BridgeError), sli_BridgeError⟩)
    (cdi_BridgeError_ : PySem.W.codeIn K cdi_BridgeError "BridgeError.__init__" = true)
    (ki_BridgeError : PySem.W.keepIn K (.ref I_BridgeError) = true)
    (x1_BadRatio : K.lookup C_BadRatio = some (excClassObj nm_BadRatio qn_BadRatio C_BadRatio N_BadRatio bs_BadRatio bm_BadRatio true sn_BadRatio sub_BadRatio ab_BadRatio col_BadRatio dd_BadRatio k0_BadRatio k1_BadRatio k2_BadRatio k3_BadRatio k5_BadRatio "ValueError.__new__"))
    (x2_BadRatio : PySem.HandSPX.refsVE bm_BadRatio = true)
    (x3_BadRatio : PySem.W.findIn K (.ref C_BadRatio) "__setattr__" = some (some (.builtin "object.__setattr__")))
    (x4_BadRatio : PySem.W.subIn K (.ref C_BadRatio) (.type "BaseException") = some true)
    (x5_BadRatio : PySem.W.typeIn K (.ref C_BadRatio) = some (.type "type"))
    (x6_BadRatio : PySem.W.keepIn K (.ref C_BadRatio) = true)
    (x7_BadRatio : PySem.W.findIn K (.ref C_BadRatio) "__init__" = some (some (.ref I_BadRatio)))
    (x8_BadRatio : PySem.W.typeIn K (.ref I_BadRatio) = some (.type "function"))
    (li_BadRatio : K.lookup I_BadRatio = some ⟨oci_BadRatio, odi_BadRatio, .func (PySem.W.fnOf "__init__" "BadRatio.__init__" (defArgs si_BadRatio) (defBody si_BadRatio) (defScope si_BadRatio) .none kVi_BadRatio dci_BadRatio pmi_BadRatio ani_BadRatio cdi_BadRatio cti_BadRatio), sli_BadRatio⟩)
    (cdi_BadRatio_ : PySem.W.codeIn K cdi_BadRatio "BadRatio.__init__" = true)
    (ki_BadRatio : PySem.W.keepIn K (.ref I_BadRatio) = true)
    (x1_BadForce : K.lookup C_BadForce = some (excClassObj nm_BadForce qn_BadForce C_BadForce N_BadForce bs_BadForce bm_BadForce true sn_BadForce sub_BadForce ab_BadForce col_BadForce dd_BadForce k0_BadForce k1_BadForce k2_BadForce k3_BadForce k5_BadForce "ValueError.__new__"))
    (x2_BadForce : PySem.HandSPX.refsVE bm_BadForce = true)
    (x3_BadForce : PySem.W.findIn K (.ref C_BadForce) "__setattr__" = some (some (.builtin "object.__setattr__")))
    (x4_BadForce : PySem.W.subIn K (.ref C_BadForce) (.type "BaseException") = some true)
    (x5_BadForce : PySem.W.typeIn K (.ref C_BadForce) = some (.type "type"))
    (x6_BadForce : PySem.W.keepIn K (.ref C_BadForce) = true)
    (x7_BadForce : PySem.W.findIn K (.ref C_BadForce) "__init__" = some (some (.ref I_BadForce)))
    (x8_BadForce : PySem.W.typeIn K (.ref I_BadForce) = some (.type "function"))
    (li_BadForce : K.lookup I_BadForce = some ⟨oci_BadForce, odi_BadForce, .func (PySem.W.fnOf "__init__" "BadForce.__init__" (defArgs si_BadForce) (defBody si_BadForce) (defScope si_BadForce) .none kVi_BadForce dci_BadForce pmi_BadForce ani_BadForce cdi_BadForce cti_BadForce), sli_BadForce⟩)
    (cdi_BadForce_ : PySem.W.codeIn K cdi_BadForce "BadForce.__init__" = true)
    (ki_BadForce : PySem.W.keepIn K (.ref I_BadForce) = true)
    (xn_BadForce_what : PySem.W.findIn K (.ref C_BadForce) "what" = some none)
    (x1_BadLoad : K.lookup C_BadLoad = some (excClassObj nm_BadLoad qn_BadLoad C_BadLoad N_BadLoad bs_BadLoad bm_BadLoad true sn_BadLoad sub_BadLoad ab_BadLoad col_BadLoad dd_BadLoad k0_BadLoad k1_BadLoad k2_BadLoad k3_BadLoad k5_BadLoad "ValueError.__new__"))
    (x2_BadLoad : PySem.HandSPX.refsVE bm_BadLoad = true)
    (x3_BadLoad : PySem.W.findIn K (.ref C_BadLoad) "__setattr__" = some (some (.builtin "object.__setattr__")))
    (x4_BadLoad : PySem.W.subIn K (.ref C_BadLoad) (.type "BaseException") = some true)
    (x5_BadLoad : PySem.W.typeIn K (.ref C_BadLoad) = some (.type "type"))
    (x6_BadLoad : PySem.W.keepIn K (.ref C_BadLoad) = true)
    (x7_BadLoad : PySem.W.findIn K (.ref C_BadLoad) "__init__" = some (some (.ref I_BadLoad)))
    (x8_BadLoad : PySem.W.typeIn K (.ref I_BadLoad) = some (.type "function"))
    (li_BadLoad : K.lookup I_BadLoad = some ⟨oci_BadLoad, odi_BadLoad, .func (PySem.W.fnOf "__init__" "BadLoad.__init__" (defArgs si_BadLoad) (defBody si_BadLoad) (defScope si_BadLoad) .none kVi_BadLoad dci_BadLoad pmi_BadLoad ani_BadLoad cdi_BadLoad cti_BadLoad), sli_BadLoad⟩)
    (cdi_BadLoad_ : PySem.W.codeIn K cdi_BadLoad "BadLoad.__init__" = true)
    (ki_BadLoad : PySem.W.keepIn K (.ref I_BadLoad) = true)
    (xn_BadLoad_what : PySem.W.findIn K (.ref C_BadLoad) "what" = some none)
    (x1_OtherSize : K.lookup C_OtherSize = some (excClassObj nm_OtherSize qn_OtherSize C_OtherSize N_OtherSize bs_OtherSize bm_OtherSize true sn_OtherSize sub_OtherSize ab_OtherSize col_OtherSize dd_OtherSize k0_OtherSize k1_OtherSize k2_OtherSize k3_OtherSize k5_OtherSize "ValueError.__new__"))
    (x2_OtherSize : PySem.HandSPX.refsVE bm_OtherSize = true)
    (x3_OtherSize : PySem.W.findIn K (.ref C_OtherSize) "__setattr__" = some (some (.builtin "object.__setattr__")))
    (x4_OtherSize : PySem.W.subIn K (.ref C_OtherSize) (.type "BaseException") = some true)
    (x5_OtherSize : PySem.W.typeIn K (.ref C_OtherSize) = some (.type "type"))
    (x6_OtherSize : PySem.W.keepIn K (.ref C_OtherSize) = true)
    (x7_OtherSize : PySem.W.findIn K (.ref C_OtherSize) "__init__" = some (some (.ref I_OtherSize)))
    (x8_OtherSize : PySem.W.typeIn K (.ref I_OtherSize) = some (.type "function"))
    (li_OtherSize : K.lookup I_OtherSize = some ⟨oci_OtherSize, odi_OtherSize, .func (PySem.W.fnOf "__init__" "OtherSize.__init__" (defArgs si_OtherSize) (defBody si_OtherSize) (defScope si_OtherSize) .none kVi_OtherSize dci_OtherSize pmi_OtherSize ani_OtherSize cdi_OtherSize cti_OtherSize), sli_OtherSize⟩)
    (cdi_OtherSize_ : PySem.W.codeIn K cdi_OtherSize "OtherSize.__init__" = true)
    (ki_OtherSize : PySem.W.keepIn K (.ref I_OtherSize) = true)
    (x1_NoStone : K.lookup C_NoStone = some (excClassObj nm_NoStone qn_NoStone C_NoStone N_NoStone bs_NoStone bm_NoStone true sn_NoStone sub_NoStone ab_NoStone col_NoStone dd_NoStone k0_NoStone k1_NoStone k2_NoStone k3_NoStone k5_NoStone "ValueError.__new__"))
    (x2_NoStone : PySem.HandSPX.refsVE bm_NoStone = true)
    (x3_NoStone : PySem.W.findIn K (.ref C_NoStone) "__setattr__" = some (some (.builtin "object.__setattr__")))
    (x4_NoStone : PySem.W.subIn K (.ref C_NoStone) (.type "BaseException") = some true)
    (x5_NoStone : PySem.W.typeIn K (.ref C_NoStone) = some (.type "type"))
    (x6_NoStone : PySem.W.keepIn K (.ref C_NoStone) = true)
    (x7_NoStone : PySem.W.findIn K (.ref C_NoStone) "__init__" = some (some (.ref I_NoStone)))
    (x8_NoStone : PySem.W.typeIn K (.ref I_NoStone) = some (.type "function"))
    (li_NoStone : K.lookup I_NoStone = some ⟨oci_NoStone, odi_NoStone, .func (PySem.W.fnOf "__init__" "NoStone.__init__" (defArgs si_NoStone) (defBody si_NoStone) (defScope si_NoStone) .none kVi_NoStone dci_NoStone pmi_NoStone ani_NoStone cdi_NoStone cti_NoStone), sli_NoStone⟩)
    (cdi_NoStone_ : PySem.W.codeIn K cdi_NoStone "NoStone.__init__" = true)
    (ki_NoStone : PySem.W.keepIn K (.ref I_NoStone) = true)
    (xn_NoStone_stone : PySem.W.findIn K (.ref C_NoStone) "stone" = some none)
    (x1_NoJoint : K.lookup C_NoJoint = some (excClassObj nm_NoJoint qn_NoJoint C_NoJoint N_NoJoint bs_NoJoint bm_NoJoint true sn_NoJoint sub_NoJoint ab_NoJoint col_NoJoint dd_NoJoint k0_NoJoint k1_NoJoint k2_NoJoint k3_NoJoint k5_NoJoint "ValueError.__new__"))
    (x2_NoJoint : PySem.HandSPX.refsVE bm_NoJoint = true)
    (x3_NoJoint : PySem.W.findIn K (.ref C_NoJoint) "__setattr__" = some (some (.builtin "object.__setattr__")))
    (x4_NoJoint : PySem.W.subIn K (.ref C_NoJoint) (.type "BaseException") = some true)
    (x5_NoJoint : PySem.W.typeIn K (.ref C_NoJoint) = some (.type "type"))
    (x6_NoJoint : PySem.W.keepIn K (.ref C_NoJoint) = true)
    (x7_NoJoint : PySem.W.findIn K (.ref C_NoJoint) "__init__" = some (some (.ref I_NoJoint)))
    (x8_NoJoint : PySem.W.typeIn K (.ref I_NoJoint) = some (.type "function"))
    (li_NoJoint : K.lookup I_NoJoint = some ⟨oci_NoJoint, odi_NoJoint, .func (PySem.W.fnOf "__init__" "NoJoint.__init__" (defArgs si_NoJoint) (defBody si_NoJoint) (defScope si_NoJoint) .none kVi_NoJoint dci_NoJoint pmi_NoJoint ani_NoJoint cdi_NoJoint cti_NoJoint), sli_NoJoint⟩)
    (cdi_NoJoint_ : PySem.W.codeIn K cdi_NoJoint "NoJoint.__init__" = true)
    (ki_NoJoint : PySem.W.keepIn K (.ref I_NoJoint) = true)
    (xn_NoJoint_joint : PySem.W.findIn K (.ref C_NoJoint) "joint" = some none)
    (x1_NoCorner : K.lookup C_NoCorner = some (excClassObj nm_NoCorner qn_NoCorner C_NoCorner N_NoCorner bs_NoCorner bm_NoCorner true sn_NoCorner sub_NoCorner ab_NoCorner col_NoCorner dd_NoCorner k0_NoCorner k1_NoCorner k2_NoCorner k3_NoCorner k5_NoCorner "ValueError.__new__"))
    (x2_NoCorner : PySem.HandSPX.refsVE bm_NoCorner = true)
    (x3_NoCorner : PySem.W.findIn K (.ref C_NoCorner) "__setattr__" = some (some (.builtin "object.__setattr__")))
    (x4_NoCorner : PySem.W.subIn K (.ref C_NoCorner) (.type "BaseException") = some true)
    (x5_NoCorner : PySem.W.typeIn K (.ref C_NoCorner) = some (.type "type"))
    (x6_NoCorner : PySem.W.keepIn K (.ref C_NoCorner) = true)
    (x7_NoCorner : PySem.W.findIn K (.ref C_NoCorner) "__init__" = some (some (.ref I_NoCorner)))
    (x8_NoCorner : PySem.W.typeIn K (.ref I_NoCorner) = some (.type "function"))
    (li_NoCorner : K.lookup I_NoCorner = some ⟨oci_NoCorner, odi_NoCorner, .func (PySem.W.fnOf "__init__" "NoCorner.__init__" (defArgs si_NoCorner) (defBody si_NoCorner) (defScope si_NoCorner) .none kVi_NoCorner dci_NoCorner pmi_NoCorner ani_NoCorner cdi_NoCorner cti_NoCorner), sli_NoCorner⟩)
    (cdi_NoCorner_ : PySem.W.codeIn K cdi_NoCorner "NoCorner.__init__" = true)
    (ki_NoCorner : PySem.W.keepIn K (.ref I_NoCorner) = true)
    (xn_NoCorner_corner : PySem.W.findIn K (.ref C_NoCorner) "corner" = some none)
    (x1_BadBridge : K.lookup C_BadBridge = some (excClassObj nm_BadBridge qn_BadBridge C_BadBridge N_BadBridge bs_BadBridge bm_BadBridge true sn_BadBridge sub_BadBridge ab_BadBridge col_BadBridge dd_BadBridge k0_BadBridge k1_BadBridge k2_BadBridge k3_BadBridge k5_BadBridge "ValueError.__new__"))
    (x2_BadBridge : PySem.HandSPX.refsVE bm_BadBridge = true)
    (x3_BadBridge : PySem.W.findIn K (.ref C_BadBridge) "__setattr__" = some (some (.builtin "object.__setattr__")))
    (x4_BadBridge : PySem.W.subIn K (.ref C_BadBridge) (.type "BaseException") = some true)
    (x5_BadBridge : PySem.W.typeIn K (.ref C_BadBridge) = some (.type "type"))
    (x6_BadBridge : PySem.W.keepIn K (.ref C_BadBridge) = true)
    (x7_BadBridge : PySem.W.findIn K (.ref C_BadBridge) "__init__" = some (some (.ref I_BadBridge)))
    (x8_BadBridge : PySem.W.typeIn K (.ref I_BadBridge) = some (.type "function"))
    (li_BadBridge : K.lookup I_BadBridge = some ⟨oci_BadBridge, odi_BadBridge, .func (PySem.W.fnOf "__init__" "BadBridge.__init__" (defArgs si_BadBridge) (defBody si_BadBridge) (defScope si_BadBridge) .none kVi_BadBridge dci_BadBridge pmi_BadBridge ani_BadBridge cdi_BadBridge cti_BadBridge), sli_BadBridge⟩)
    (cdi_BadBridge_ : PySem.W.codeIn K cdi_BadBridge "BadBridge.__init__" = true)
    (ki_BadBridge : PySem.W.keepIn K (.ref I_BadBridge) = true)
    (xn_BadBridge_what : PySem.W.findIn K (.ref C_BadBridge) "what" = some none)
    (xn_BadBridge_joint : PySem.W.findIn K (.ref C_BadBridge) "joint" = some none)
    (x1_NoPart : K.lookup C_NoPart = some (excClassObj nm_NoPart qn_NoPart C_NoPart N_NoPart bs_NoPart bm_NoPart true sn_NoPart sub_NoPart ab_NoPart col_NoPart dd_NoPart k0_NoPart k1_NoPart k2_NoPart k3_NoPart k5_NoPart "ValueError.__new__"))
    (x2_NoPart : PySem.HandSPX.refsVE bm_NoPart = true)
    (x3_NoPart : PySem.W.findIn K (.ref C_NoPart) "__setattr__" = some (some (.builtin "object.__setattr__")))
    (x4_NoPart : PySem.W.subIn K (.ref C_NoPart) (.type "BaseException") = some true)
    (x5_NoPart : PySem.W.typeIn K (.ref C_NoPart) = some (.type "type"))
    (x6_NoPart : PySem.W.keepIn K (.ref C_NoPart) = true)
    (x7_NoPart : PySem.W.findIn K (.ref C_NoPart) "__init__" = some (some (.ref I_NoPart)))
    (x8_NoPart : PySem.W.typeIn K (.ref I_NoPart) = some (.type "function"))
    (li_NoPart : K.lookup I_NoPart = some ⟨oci_NoPart, odi_NoPart, .func (PySem.W.fnOf "__init__" "NoPart.__init__" (defArgs si_NoPart) (defBody si_NoPart) (defScope si_NoPart) .none kVi_NoPart dci_NoPart pmi_NoPart ani_NoPart cdi_NoPart cti_NoPart), sli_NoPart⟩)
    (cdi_NoPart_ : PySem.W.codeIn K cdi_NoPart "NoPart.__init__" = true)
    (ki_NoPart : PySem.W.keepIn K (.ref I_NoPart) = true)
    (xn_NoPart_first : PySem.W.findIn K (.ref C_NoPart) "first" = some none)
    (xn_NoPart_last : PySem.W.findIn K (.ref C_NoPart) "last" = some none)
    (x1_BadRing : K.lookup C_BadRing = some (excClassObj nm_BadRing qn_BadRing C_BadRing N_BadRing bs_BadRing bm_BadRing true sn_BadRing sub_BadRing ab_BadRing col_BadRing dd_BadRing k0_BadRing k1_BadRing k2_BadRing k3_BadRing k5_BadRing "ValueError.__new__"))
    (x2_BadRing : PySem.HandSPX.refsVE bm_BadRing = true)
    (x3_BadRing : PySem.W.findIn K (.ref C_BadRing) "__setattr__" = some (some (.builtin "object.__setattr__")))
    (x4_BadRing : PySem.W.subIn K (.ref C_BadRing) (.type "BaseException") = some true)
    (x5_BadRing : PySem.W.typeIn K (.ref C_BadRing) = some (.type "type"))
    (x6_BadRing : PySem.W.keepIn K (.ref C_BadRing) = true)
    (x7_BadRing : PySem.W.findIn K (.ref C_BadRing) "__init__" = some (some (.ref I_BadRing)))
    (x8_BadRing : PySem.W.typeIn K (.ref I_BadRing) = some (.type "function"))
    (li_BadRing : K.lookup I_BadRing = some ⟨oci_BadRing, odi_BadRing, .func (PySem.W.fnOf "__init__" "BadRing.__init__" (defArgs si_BadRing) (defBody si_BadRing) (defScope si_BadRing) .none kVi_BadRing dci_BadRing pmi_BadRing ani_BadRing cdi_BadRing cti_BadRing), sli_BadRing⟩)
    (cdi_BadRing_ : PySem.W.codeIn K cdi_BadRing "BadRing.__init__" = true)
    (ki_BadRing : PySem.W.keepIn K (.ref I_BadRing) = true)
    (xn_BadRing_what : PySem.W.findIn K (.ref C_BadRing) "what" = some none)
    (xn_BadRing_stone : PySem.W.findIn K (.ref C_BadRing) "stone" = some none)
    (x1_BadCut : K.lookup C_BadCut = some (excClassObj nm_BadCut qn_BadCut C_BadCut N_BadCut bs_BadCut bm_BadCut true sn_BadCut sub_BadCut ab_BadCut col_BadCut dd_BadCut k0_BadCut k1_BadCut k2_BadCut k3_BadCut k5_BadCut "ValueError.__new__"))
    (x2_BadCut : PySem.HandSPX.refsVE bm_BadCut = true)
    (x3_BadCut : PySem.W.findIn K (.ref C_BadCut) "__setattr__" = some (some (.builtin "object.__setattr__")))
    (x4_BadCut : PySem.W.subIn K (.ref C_BadCut) (.type "BaseException") = some true)
    (x5_BadCut : PySem.W.typeIn K (.ref C_BadCut) = some (.type "type"))
    (x6_BadCut : PySem.W.keepIn K (.ref C_BadCut) = true)
    (x7_BadCut : PySem.W.findIn K (.ref C_BadCut) "__init__" = some (some (.ref I_BadCut)))
    (x8_BadCut : PySem.W.typeIn K (.ref I_BadCut) = some (.type "function"))
    (li_BadCut : K.lookup I_BadCut = some ⟨oci_BadCut, odi_BadCut, .func (PySem.W.fnOf "__init__" "BadCut.__init__" (defArgs si_BadCut) (defBody si_BadCut) (defScope si_BadCut) .none kVi_BadCut dci_BadCut pmi_BadCut ani_BadCut cdi_BadCut cti_BadCut), sli_BadCut⟩)
    (cdi_BadCut_ : PySem.W.codeIn K cdi_BadCut "BadCut.__init__" = true)
    (ki_BadCut : PySem.W.keepIn K (.ref I_BadCut) = true)
    (xn_BadCut_one : PySem.W.findIn K (.ref C_BadCut) "one" = some none)
    (xn_BadCut_other : PySem.W.findIn K (.ref C_BadCut) "other" = some none)
    (x1_BadThrust : K.lookup C_BadThrust = some (excClassObj nm_BadThrust qn_BadThrust C_BadThrust N_BadThrust bs_BadThrust bm_BadThrust true sn_BadThrust sub_BadThrust ab_BadThrust col_BadThrust dd_BadThrust k0_BadThrust k1_BadThrust k2_BadThrust k3_BadThrust k5_BadThrust "ValueError.__new__"))
    (x2_BadThrust : PySem.HandSPX.refsVE bm_BadThrust = true)
    (x3_BadThrust : PySem.W.findIn K (.ref C_BadThrust) "__setattr__" = some (some (.builtin "object.__setattr__")))
    (x4_BadThrust : PySem.W.subIn K (.ref C_BadThrust) (.type "BaseException") = some true)
    (x5_BadThrust : PySem.W.typeIn K (.ref C_BadThrust) = some (.type "type"))
    (x6_BadThrust : PySem.W.keepIn K (.ref C_BadThrust) = true)
    (x7_BadThrust : PySem.W.findIn K (.ref C_BadThrust) "__init__" = some (some (.ref I_BadThrust)))
    (x8_BadThrust : PySem.W.typeIn K (.ref I_BadThrust) = some (.type "function"))
    (li_BadThrust : K.lookup I_BadThrust = some ⟨oci_BadThrust, odi_BadThrust, .func (PySem.W.fnOf "__init__" "BadThrust.__init__" (defArgs si_BadThrust) (defBody si_BadThrust) (defScope si_BadThrust) .none kVi_BadThrust dci_BadThrust pmi_BadThrust ani_BadThrust cdi_BadThrust cti_BadThrust), sli_BadThrust⟩)
    (cdi_BadThrust_ : PySem.W.codeIn K cdi_BadThrust "BadThrust.__init__" = true)
    (ki_BadThrust : PySem.W.keepIn K (.ref I_BadThrust) = true)
    (x1_BadCorners : K.lookup C_BadCorners = some (excClassObj nm_BadCorners qn_BadCorners C_BadCorners N_BadCorners bs_BadCorners bm_BadCorners true sn_BadCorners sub_BadCorners ab_BadCorners col_BadCorners dd_BadCorners k0_BadCorners k1_BadCorners k2_BadCorners k3_BadCorners k5_BadCorners "ValueError.__new__"))
    (x2_BadCorners : PySem.HandSPX.refsVE bm_BadCorners = true)
    (x3_BadCorners : PySem.W.findIn K (.ref C_BadCorners) "__setattr__" = some (some (.builtin "object.__setattr__")))
    (x4_BadCorners : PySem.W.subIn K (.ref C_BadCorners) (.type "BaseException") = some true)
    (x5_BadCorners : PySem.W.typeIn K (.ref C_BadCorners) = some (.type "type"))
    (x6_BadCorners : PySem.W.keepIn K (.ref C_BadCorners) = true)
    (x7_BadCorners : PySem.W.findIn K (.ref C_BadCorners) "__init__" = some (some (.ref I_BadCorners)))
    (x8_BadCorners : PySem.W.typeIn K (.ref I_BadCorners) = some (.type "function"))
    (li_BadCorners : K.lookup I_BadCorners = some ⟨oci_BadCorners, odi_BadCorners, .func (PySem.W.fnOf "__init__" "BadCorners.__init__" (defArgs si_BadCorners) (defBody si_BadCorners) (defScope si_BadCorners) .none kVi_BadCorners dci_BadCorners pmi_BadCorners ani_BadCorners cdi_BadCorners cti_BadCorners), sli_BadCorners⟩)
    (cdi_BadCorners_ : PySem.W.codeIn K cdi_BadCorners "BadCorners.__init__" = true)
    (ki_BadCorners : PySem.W.keepIn K (.ref I_BadCorners) = true)
    (x1_InLine : K.lookup C_InLine = some (excClassObj nm_InLine qn_InLine C_InLine N_InLine bs_InLine bm_InLine true sn_InLine sub_InLine ab_InLine col_InLine dd_InLine k0_InLine k1_InLine k2_InLine k3_InLine k5_InLine "ValueError.__new__"))
    (x2_InLine : PySem.HandSPX.refsVE bm_InLine = true)
    (x3_InLine : PySem.W.findIn K (.ref C_InLine) "__setattr__" = some (some (.builtin "object.__setattr__")))
    (x4_InLine : PySem.W.subIn K (.ref C_InLine) (.type "BaseException") = some true)
    (x5_InLine : PySem.W.typeIn K (.ref C_InLine) = some (.type "type"))
    (x6_InLine : PySem.W.keepIn K (.ref C_InLine) = true)
    (x7_InLine : PySem.W.findIn K (.ref C_InLine) "__init__" = some (some (.ref I_InLine)))
    (x8_InLine : PySem.W.typeIn K (.ref I_InLine) = some (.type "function"))
    (li_InLine : K.lookup I_InLine = some ⟨oci_InLine, odi_InLine, .func (PySem.W.fnOf "__init__" "InLine.__init__" (defArgs si_InLine) (defBody si_InLine) (defScope si_InLine) .none kVi_InLine dci_InLine pmi_InLine ani_InLine cdi_InLine cti_InLine), sli_InLine⟩)
    (cdi_InLine_ : PySem.W.codeIn K cdi_InLine "InLine.__init__" = true)
    (ki_InLine : PySem.W.keepIn K (.ref I_InLine) = true)
    (xn_InLine_corners : PySem.W.findIn K (.ref C_InLine) "corners" = some none)
    (x1_BadMotion : K.lookup C_BadMotion = some (excClassObj nm_BadMotion qn_BadMotion C_BadMotion N_BadMotion bs_BadMotion bm_BadMotion true sn_BadMotion sub_BadMotion ab_BadMotion col_BadMotion dd_BadMotion k0_BadMotion k1_BadMotion k2_BadMotion k3_BadMotion k5_BadMotion "ValueError.__new__"))
    (x2_BadMotion : PySem.HandSPX.refsVE bm_BadMotion = true)
    (x3_BadMotion : PySem.W.findIn K (.ref C_BadMotion) "__setattr__" = some (some (.builtin "object.__setattr__")))
    (x4_BadMotion : PySem.W.subIn K (.ref C_BadMotion) (.type "BaseException") = some true)
    (x5_BadMotion : PySem.W.typeIn K (.ref C_BadMotion) = some (.type "type"))
    (x6_BadMotion : PySem.W.keepIn K (.ref C_BadMotion) = true)
    (x7_BadMotion : PySem.W.findIn K (.ref C_BadMotion) "__init__" = some (some (.ref I_BadMotion)))
    (x8_BadMotion : PySem.W.typeIn K (.ref I_BadMotion) = some (.type "function"))
    (li_BadMotion : K.lookup I_BadMotion = some ⟨oci_BadMotion, odi_BadMotion, .func (PySem.W.fnOf "__init__" "BadMotion.__init__" (defArgs si_BadMotion) (defBody si_BadMotion) (defScope si_BadMotion) .none kVi_BadMotion dci_BadMotion pmi_BadMotion ani_BadMotion cdi_BadMotion cti_BadMotion), sli_BadMotion⟩)
    (cdi_BadMotion_ : PySem.W.codeIn K cdi_BadMotion "BadMotion.__init__" = true)
    (ki_BadMotion : PySem.W.keepIn K (.ref I_BadMotion) = true)
    (x1_BadWeights : K.lookup C_BadWeights = some (excClassObj nm_BadWeights qn_BadWeights C_BadWeights N_BadWeights bs_BadWeights bm_BadWeights true sn_BadWeights sub_BadWeights ab_BadWeights col_BadWeights dd_BadWeights k0_BadWeights k1_BadWeights k2_BadWeights k3_BadWeights k5_BadWeights "ValueError.__new__"))
    (x2_BadWeights : PySem.HandSPX.refsVE bm_BadWeights = true)
    (x3_BadWeights : PySem.W.findIn K (.ref C_BadWeights) "__setattr__" = some (some (.builtin "object.__setattr__")))
    (x4_BadWeights : PySem.W.subIn K (.ref C_BadWeights) (.type "BaseException") = some true)
    (x5_BadWeights : PySem.W.typeIn K (.ref C_BadWeights) = some (.type "type"))
    (x6_BadWeights : PySem.W.keepIn K (.ref C_BadWeights) = true)
    (x7_BadWeights : PySem.W.findIn K (.ref C_BadWeights) "__init__" = some (some (.ref I_BadWeights)))
    (x8_BadWeights : PySem.W.typeIn K (.ref I_BadWeights) = some (.type "function"))
    (li_BadWeights : K.lookup I_BadWeights = some ⟨oci_BadWeights, odi_BadWeights, .func (PySem.W.fnOf "__init__" "BadWeights.__init__" (defArgs si_BadWeights) (defBody si_BadWeights) (defScope si_BadWeights) .none kVi_BadWeights dci_BadWeights pmi_BadWeights ani_BadWeights cdi_BadWeights cti_BadWeights), sli_BadWeights⟩)
    (cdi_BadWeights_ : PySem.W.codeIn K cdi_BadWeights "BadWeights.__init__" = true)
    (ki_BadWeights : PySem.W.keepIn K (.ref I_BadWeights) = true)
    (xn_BadWeights_what : PySem.W.findIn K (.ref C_BadWeights) "what" = some none)
    (x1_Unbalanced : K.lookup C_Unbalanced = some (excClassObj nm_Unbalanced qn_Unbalanced C_Unbalanced N_Unbalanced bs_Unbalanced bm_Unbalanced true sn_Unbalanced sub_Unbalanced ab_Unbalanced col_Unbalanced dd_Unbalanced k0_Unbalanced k1_Unbalanced k2_Unbalanced k3_Unbalanced k5_Unbalanced "ValueError.__new__"))
    (x2_Unbalanced : PySem.HandSPX.refsVE bm_Unbalanced = true)
    (x3_Unbalanced : PySem.W.findIn K (.ref C_Unbalanced) "__setattr__" = some (some (.builtin "object.__setattr__")))
    (x4_Unbalanced : PySem.W.subIn K (.ref C_Unbalanced) (.type "BaseException") = some true)
    (x5_Unbalanced : PySem.W.typeIn K (.ref C_Unbalanced) = some (.type "type"))
    (x6_Unbalanced : PySem.W.keepIn K (.ref C_Unbalanced) = true)
    (x7_Unbalanced : PySem.W.findIn K (.ref C_Unbalanced) "__init__" = some (some (.ref I_Unbalanced)))
    (x8_Unbalanced : PySem.W.typeIn K (.ref I_Unbalanced) = some (.type "function"))
    (li_Unbalanced : K.lookup I_Unbalanced = some ⟨oci_Unbalanced, odi_Unbalanced, .func (PySem.W.fnOf "__init__" "Unbalanced.__init__" (defArgs si_Unbalanced) (defBody si_Unbalanced) (defScope si_Unbalanced) .none kVi_Unbalanced dci_Unbalanced pmi_Unbalanced ani_Unbalanced cdi_Unbalanced cti_Unbalanced), sli_Unbalanced⟩)
    (cdi_Unbalanced_ : PySem.W.codeIn K cdi_Unbalanced "Unbalanced.__init__" = true)
    (ki_Unbalanced : PySem.W.keepIn K (.ref I_Unbalanced) = true)
    (x1_NotStanding : K.lookup C_NotStanding = some (excClassObj nm_NotStanding qn_NotStanding C_NotStanding N_NotStanding bs_NotStanding bm_NotStanding true sn_NotStanding sub_NotStanding ab_NotStanding col_NotStanding dd_NotStanding k0_NotStanding k1_NotStanding k2_NotStanding k3_NotStanding k5_NotStanding "ValueError.__new__"))
    (x2_NotStanding : PySem.HandSPX.refsVE bm_NotStanding = true)
    (x3_NotStanding : PySem.W.findIn K (.ref C_NotStanding) "__setattr__" = some (some (.builtin "object.__setattr__")))
    (x4_NotStanding : PySem.W.subIn K (.ref C_NotStanding) (.type "BaseException") = some true)
    (x5_NotStanding : PySem.W.typeIn K (.ref C_NotStanding) = some (.type "type"))
    (x6_NotStanding : PySem.W.keepIn K (.ref C_NotStanding) = true)
    (x7_NotStanding : PySem.W.findIn K (.ref C_NotStanding) "__init__" = some (some (.ref I_NotStanding)))
    (x8_NotStanding : PySem.W.typeIn K (.ref I_NotStanding) = some (.type "function"))
    (li_NotStanding : K.lookup I_NotStanding = some ⟨oci_NotStanding, odi_NotStanding, .func (PySem.W.fnOf "__init__" "NotStanding.__init__" (defArgs si_NotStanding) (defBody si_NotStanding) (defScope si_NotStanding) .none kVi_NotStanding dci_NotStanding pmi_NotStanding ani_NotStanding cdi_NotStanding cti_NotStanding), sli_NotStanding⟩)
    (cdi_NotStanding_ : PySem.W.codeIn K cdi_NotStanding "NotStanding.__init__" = true)
    (ki_NotStanding : PySem.W.keepIn K (.ref I_NotStanding) = true)
    (xn_NotStanding_mechanism : PySem.W.findIn K (.ref C_NotStanding) "mechanism" = some none)
    (x1_BadPalette : K.lookup C_BadPalette = some (excClassObj nm_BadPalette qn_BadPalette C_BadPalette N_BadPalette bs_BadPalette bm_BadPalette true sn_BadPalette sub_BadPalette ab_BadPalette col_BadPalette dd_BadPalette k0_BadPalette k1_BadPalette k2_BadPalette k3_BadPalette k5_BadPalette "ValueError.__new__"))
    (x2_BadPalette : PySem.HandSPX.refsVE bm_BadPalette = true)
    (x3_BadPalette : PySem.W.findIn K (.ref C_BadPalette) "__setattr__" = some (some (.builtin "object.__setattr__")))
    (x4_BadPalette : PySem.W.subIn K (.ref C_BadPalette) (.type "BaseException") = some true)
    (x5_BadPalette : PySem.W.typeIn K (.ref C_BadPalette) = some (.type "type"))
    (x6_BadPalette : PySem.W.keepIn K (.ref C_BadPalette) = true)
    (x7_BadPalette : PySem.W.findIn K (.ref C_BadPalette) "__init__" = some (some (.ref I_BadPalette)))
    (x8_BadPalette : PySem.W.typeIn K (.ref I_BadPalette) = some (.type "function"))
    (li_BadPalette : K.lookup I_BadPalette = some ⟨oci_BadPalette, odi_BadPalette, .func (PySem.W.fnOf "__init__" "BadPalette.__init__" (defArgs si_BadPalette) (defBody si_BadPalette) (defScope si_BadPalette) .none kVi_BadPalette dci_BadPalette pmi_BadPalette ani_BadPalette cdi_BadPalette cti_BadPalette), sli_BadPalette⟩)
    (cdi_BadPalette_ : PySem.W.codeIn K cdi_BadPalette "BadPalette.__init__" = true)
    (ki_BadPalette : PySem.W.keepIn K (.ref I_BadPalette) = true)
    (xn_BadPalette_what : PySem.W.findIn K (.ref C_BadPalette) "what" = some none)
    (x1_BadMix : K.lookup C_BadMix = some (excClassObj nm_BadMix qn_BadMix C_BadMix N_BadMix bs_BadMix bm_BadMix true sn_BadMix sub_BadMix ab_BadMix col_BadMix dd_BadMix k0_BadMix k1_BadMix k2_BadMix k3_BadMix k5_BadMix "ValueError.__new__"))
    (x2_BadMix : PySem.HandSPX.refsVE bm_BadMix = true)
    (x3_BadMix : PySem.W.findIn K (.ref C_BadMix) "__setattr__" = some (some (.builtin "object.__setattr__")))
    (x4_BadMix : PySem.W.subIn K (.ref C_BadMix) (.type "BaseException") = some true)
    (x5_BadMix : PySem.W.typeIn K (.ref C_BadMix) = some (.type "type"))
    (x6_BadMix : PySem.W.keepIn K (.ref C_BadMix) = true)
    (x7_BadMix : PySem.W.findIn K (.ref C_BadMix) "__init__" = some (some (.ref I_BadMix)))
    (x8_BadMix : PySem.W.typeIn K (.ref I_BadMix) = some (.type "function"))
    (li_BadMix : K.lookup I_BadMix = some ⟨oci_BadMix, odi_BadMix, .func (PySem.W.fnOf "__init__" "BadMix.__init__" (defArgs si_BadMix) (defBody si_BadMix) (defScope si_BadMix) .none kVi_BadMix dci_BadMix pmi_BadMix ani_BadMix cdi_BadMix cti_BadMix), sli_BadMix⟩)
    (cdi_BadMix_ : PySem.W.codeIn K cdi_BadMix "BadMix.__init__" = true)
    (ki_BadMix : PySem.W.keepIn K (.ref I_BadMix) = true)
    (x1_BadRows : K.lookup C_BadRows = some (excClassObj nm_BadRows qn_BadRows C_BadRows N_BadRows bs_BadRows bm_BadRows true sn_BadRows sub_BadRows ab_BadRows col_BadRows dd_BadRows k0_BadRows k1_BadRows k2_BadRows k3_BadRows k5_BadRows "ValueError.__new__"))
    (x2_BadRows : PySem.HandSPX.refsVE bm_BadRows = true)
    (x3_BadRows : PySem.W.findIn K (.ref C_BadRows) "__setattr__" = some (some (.builtin "object.__setattr__")))
    (x4_BadRows : PySem.W.subIn K (.ref C_BadRows) (.type "BaseException") = some true)
    (x5_BadRows : PySem.W.typeIn K (.ref C_BadRows) = some (.type "type"))
    (x6_BadRows : PySem.W.keepIn K (.ref C_BadRows) = true)
    (x7_BadRows : PySem.W.findIn K (.ref C_BadRows) "__init__" = some (some (.ref I_BadRows)))
    (x8_BadRows : PySem.W.typeIn K (.ref I_BadRows) = some (.type "function"))
    (li_BadRows : K.lookup I_BadRows = some ⟨oci_BadRows, odi_BadRows, .func (PySem.W.fnOf "__init__" "BadRows.__init__" (defArgs si_BadRows) (defBody si_BadRows) (defScope si_BadRows) .none kVi_BadRows dci_BadRows pmi_BadRows ani_BadRows cdi_BadRows cti_BadRows), sli_BadRows⟩)
    (cdi_BadRows_ : PySem.W.codeIn K cdi_BadRows "BadRows.__init__" = true)
    (ki_BadRows : PySem.W.keepIn K (.ref I_BadRows) = true)
    (x1_BadCart : K.lookup C_BadCart = some (excClassObj nm_BadCart qn_BadCart C_BadCart N_BadCart bs_BadCart bm_BadCart true sn_BadCart sub_BadCart ab_BadCart col_BadCart dd_BadCart k0_BadCart k1_BadCart k2_BadCart k3_BadCart k5_BadCart "ValueError.__new__"))
    (x2_BadCart : PySem.HandSPX.refsVE bm_BadCart = true)
    (x3_BadCart : PySem.W.findIn K (.ref C_BadCart) "__setattr__" = some (some (.builtin "object.__setattr__")))
    (x4_BadCart : PySem.W.subIn K (.ref C_BadCart) (.type "BaseException") = some true)
    (x5_BadCart : PySem.W.typeIn K (.ref C_BadCart) = some (.type "type"))
    (x6_BadCart : PySem.W.keepIn K (.ref C_BadCart) = true)
    (x7_BadCart : PySem.W.findIn K (.ref C_BadCart) "__init__" = some (some (.ref I_BadCart)))
    (x8_BadCart : PySem.W.typeIn K (.ref I_BadCart) = some (.type "function"))
    (li_BadCart : K.lookup I_BadCart = some ⟨oci_BadCart, odi_BadCart, .func (PySem.W.fnOf "__init__" "BadCart.__init__" (defArgs si_BadCart) (defBody si_BadCart) (defScope si_BadCart) .none kVi_BadCart dci_BadCart pmi_BadCart ani_BadCart cdi_BadCart cti_BadCart), sli_BadCart⟩)
    (cdi_BadCart_ : PySem.W.codeIn K cdi_BadCart "BadCart.__init__" = true)
    (ki_BadCart : PySem.W.keepIn K (.ref I_BadCart) = true)
    (xn_BadCart_what : PySem.W.findIn K (.ref C_BadCart) "what" = some none)
    (x1_BadRule : K.lookup C_BadRule = some (excClassObj nm_BadRule qn_BadRule C_BadRule N_BadRule bs_BadRule bm_BadRule true sn_BadRule sub_BadRule ab_BadRule col_BadRule dd_BadRule k0_BadRule k1_BadRule k2_BadRule k3_BadRule k5_BadRule "ValueError.__new__"))
    (x2_BadRule : PySem.HandSPX.refsVE bm_BadRule = true)
    (x3_BadRule : PySem.W.findIn K (.ref C_BadRule) "__setattr__" = some (some (.builtin "object.__setattr__")))
    (x4_BadRule : PySem.W.subIn K (.ref C_BadRule) (.type "BaseException") = some true)
    (x5_BadRule : PySem.W.typeIn K (.ref C_BadRule) = some (.type "type"))
    (x6_BadRule : PySem.W.keepIn K (.ref C_BadRule) = true)
    (x7_BadRule : PySem.W.findIn K (.ref C_BadRule) "__init__" = some (some (.ref I_BadRule)))
    (x8_BadRule : PySem.W.typeIn K (.ref I_BadRule) = some (.type "function"))
    (li_BadRule : K.lookup I_BadRule = some ⟨oci_BadRule, odi_BadRule, .func (PySem.W.fnOf "__init__" "BadRule.__init__" (defArgs si_BadRule) (defBody si_BadRule) (defScope si_BadRule) .none kVi_BadRule dci_BadRule pmi_BadRule ani_BadRule cdi_BadRule cti_BadRule), sli_BadRule⟩)
    (cdi_BadRule_ : PySem.W.codeIn K cdi_BadRule "BadRule.__init__" = true)
    (ki_BadRule : PySem.W.keepIn K (.ref I_BadRule) = true)
    (xn_BadRule_what : PySem.W.findIn K (.ref C_BadRule) "what" = some none)
    (xn_BadRule_index : PySem.W.findIn K (.ref C_BadRule) "index" = some none)
    (x1_NoCart : K.lookup C_NoCart = some (excClassObj nm_NoCart qn_NoCart C_NoCart N_NoCart bs_NoCart bm_NoCart true sn_NoCart sub_NoCart ab_NoCart col_NoCart dd_NoCart k0_NoCart k1_NoCart k2_NoCart k3_NoCart k5_NoCart "ValueError.__new__"))
    (x2_NoCart : PySem.HandSPX.refsVE bm_NoCart = true)
    (x3_NoCart : PySem.W.findIn K (.ref C_NoCart) "__setattr__" = some (some (.builtin "object.__setattr__")))
    (x4_NoCart : PySem.W.subIn K (.ref C_NoCart) (.type "BaseException") = some true)
    (x5_NoCart : PySem.W.typeIn K (.ref C_NoCart) = some (.type "type"))
    (x6_NoCart : PySem.W.keepIn K (.ref C_NoCart) = true)
    (x7_NoCart : PySem.W.findIn K (.ref C_NoCart) "__init__" = some (some (.ref I_NoCart)))
    (x8_NoCart : PySem.W.typeIn K (.ref I_NoCart) = some (.type "function"))
    (li_NoCart : K.lookup I_NoCart = some ⟨oci_NoCart, odi_NoCart, .func (PySem.W.fnOf "__init__" "NoCart.__init__" (defArgs si_NoCart) (defBody si_NoCart) (defScope si_NoCart) .none kVi_NoCart dci_NoCart pmi_NoCart ani_NoCart cdi_NoCart cti_NoCart), sli_NoCart⟩)
    (cdi_NoCart_ : PySem.W.codeIn K cdi_NoCart "NoCart.__init__" = true)
    (ki_NoCart : PySem.W.keepIn K (.ref I_NoCart) = true)
    (xn_NoCart_name : PySem.W.findIn K (.ref C_NoCart) "name" = some none)
    (x1_BadRoad : K.lookup C_BadRoad = some (excClassObj nm_BadRoad qn_BadRoad C_BadRoad N_BadRoad bs_BadRoad bm_BadRoad true sn_BadRoad sub_BadRoad ab_BadRoad col_BadRoad dd_BadRoad k0_BadRoad k1_BadRoad k2_BadRoad k3_BadRoad k5_BadRoad "ValueError.__new__"))
    (x2_BadRoad : PySem.HandSPX.refsVE bm_BadRoad = true)
    (x3_BadRoad : PySem.W.findIn K (.ref C_BadRoad) "__setattr__" = some (some (.builtin "object.__setattr__")))
    (x4_BadRoad : PySem.W.subIn K (.ref C_BadRoad) (.type "BaseException") = some true)
    (x5_BadRoad : PySem.W.typeIn K (.ref C_BadRoad) = some (.type "type"))
    (x6_BadRoad : PySem.W.keepIn K (.ref C_BadRoad) = true)
    (x7_BadRoad : PySem.W.findIn K (.ref C_BadRoad) "__init__" = some (some (.ref I_BadRoad)))
    (x8_BadRoad : PySem.W.typeIn K (.ref I_BadRoad) = some (.type "function"))
    (li_BadRoad : K.lookup I_BadRoad = some ⟨oci_BadRoad, odi_BadRoad, .func (PySem.W.fnOf "__init__" "BadRoad.__init__" (defArgs si_BadRoad) (defBody si_BadRoad) (defScope si_BadRoad) .none kVi_BadRoad dci_BadRoad pmi_BadRoad ani_BadRoad cdi_BadRoad cti_BadRoad), sli_BadRoad⟩)
    (cdi_BadRoad_ : PySem.W.codeIn K cdi_BadRoad "BadRoad.__init__" = true)
    (ki_BadRoad : PySem.W.keepIn K (.ref I_BadRoad) = true)
    (xn_BadRoad_what : PySem.W.findIn K (.ref C_BadRoad) "what" = some none)
    (x1_NoLane : K.lookup C_NoLane = some (excClassObj nm_NoLane qn_NoLane C_NoLane N_NoLane bs_NoLane bm_NoLane true sn_NoLane sub_NoLane ab_NoLane col_NoLane dd_NoLane k0_NoLane k1_NoLane k2_NoLane k3_NoLane k5_NoLane "ValueError.__new__"))
    (x2_NoLane : PySem.HandSPX.refsVE bm_NoLane = true)
    (x3_NoLane : PySem.W.findIn K (.ref C_NoLane) "__setattr__" = some (some (.builtin "object.__setattr__")))
    (x4_NoLane : PySem.W.subIn K (.ref C_NoLane) (.type "BaseException") = some true)
    (x5_NoLane : PySem.W.typeIn K (.ref C_NoLane) = some (.type "type"))
    (x6_NoLane : PySem.W.keepIn K (.ref C_NoLane) = true)
    (x7_NoLane : PySem.W.findIn K (.ref C_NoLane) "__init__" = some (some (.ref I_NoLane)))
    (x8_NoLane : PySem.W.typeIn K (.ref I_NoLane) = some (.type "function"))
    (li_NoLane : K.lookup I_NoLane = some ⟨oci_NoLane, odi_NoLane, .func (PySem.W.fnOf "__init__" "NoLane.__init__" (defArgs si_NoLane) (defBody si_NoLane) (defScope si_NoLane) .none kVi_NoLane dci_NoLane pmi_NoLane ani_NoLane cdi_NoLane cti_NoLane), sli_NoLane⟩)
    (cdi_NoLane_ : PySem.W.codeIn K cdi_NoLane "NoLane.__init__" = true)
    (ki_NoLane : PySem.W.keepIn K (.ref I_NoLane) = true)
    (xn_NoLane_lane : PySem.W.findIn K (.ref C_NoLane) "lane" = some none)
    (x1_BadLimit : K.lookup C_BadLimit = some (excClassObj nm_BadLimit qn_BadLimit C_BadLimit N_BadLimit bs_BadLimit bm_BadLimit true sn_BadLimit sub_BadLimit ab_BadLimit col_BadLimit dd_BadLimit k0_BadLimit k1_BadLimit k2_BadLimit k3_BadLimit k5_BadLimit "ValueError.__new__"))
    (x2_BadLimit : PySem.HandSPX.refsVE bm_BadLimit = true)
    (x3_BadLimit : PySem.W.findIn K (.ref C_BadLimit) "__setattr__" = some (some (.builtin "object.__setattr__")))
    (x4_BadLimit : PySem.W.subIn K (.ref C_BadLimit) (.type "BaseException") = some true)
    (x5_BadLimit : PySem.W.typeIn K (.ref C_BadLimit) = some (.type "type"))
    (x6_BadLimit : PySem.W.keepIn K (.ref C_BadLimit) = true)
    (x7_BadLimit : PySem.W.findIn K (.ref C_BadLimit) "__init__" = some (some (.ref I_BadLimit)))
    (x8_BadLimit : PySem.W.typeIn K (.ref I_BadLimit) = some (.type "function"))
    (li_BadLimit : K.lookup I_BadLimit = some ⟨oci_BadLimit, odi_BadLimit, .func (PySem.W.fnOf "__init__" "BadLimit.__init__" (defArgs si_BadLimit) (defBody si_BadLimit) (defScope si_BadLimit) .none kVi_BadLimit dci_BadLimit pmi_BadLimit ani_BadLimit cdi_BadLimit cti_BadLimit), sli_BadLimit⟩)
    (cdi_BadLimit_ : PySem.W.codeIn K cdi_BadLimit "BadLimit.__init__" = true)
    (ki_BadLimit : PySem.W.keepIn K (.ref I_BadLimit) = true)
    (xn_BadLimit_what : PySem.W.findIn K (.ref C_BadLimit) "what" = some none)
    (x1_NotSafe : K.lookup C_NotSafe = some (excClassObj nm_NotSafe qn_NotSafe C_NotSafe N_NotSafe bs_NotSafe bm_NotSafe true sn_NotSafe sub_NotSafe ab_NotSafe col_NotSafe dd_NotSafe k0_NotSafe k1_NotSafe k2_NotSafe k3_NotSafe k5_NotSafe "ValueError.__new__"))
    (x2_NotSafe : PySem.HandSPX.refsVE bm_NotSafe = true)
    (x3_NotSafe : PySem.W.findIn K (.ref C_NotSafe) "__setattr__" = some (some (.builtin "object.__setattr__")))
    (x4_NotSafe : PySem.W.subIn K (.ref C_NotSafe) (.type "BaseException") = some true)
    (x5_NotSafe : PySem.W.typeIn K (.ref C_NotSafe) = some (.type "type"))
    (x6_NotSafe : PySem.W.keepIn K (.ref C_NotSafe) = true)
    (x7_NotSafe : PySem.W.findIn K (.ref C_NotSafe) "__init__" = some (some (.ref I_NotSafe)))
    (x8_NotSafe : PySem.W.typeIn K (.ref I_NotSafe) = some (.type "function"))
    (li_NotSafe : K.lookup I_NotSafe = some ⟨oci_NotSafe, odi_NotSafe, .func (PySem.W.fnOf "__init__" "NotSafe.__init__" (defArgs si_NotSafe) (defBody si_NotSafe) (defScope si_NotSafe) .none kVi_NotSafe dci_NotSafe pmi_NotSafe ani_NotSafe cdi_NotSafe cti_NotSafe), sli_NotSafe⟩)
    (cdi_NotSafe_ : PySem.W.codeIn K cdi_NotSafe "NotSafe.__init__" = true)
    (ki_NotSafe : PySem.W.keepIn K (.ref I_NotSafe) = true)
    (xn_NotSafe_mechanism : PySem.W.findIn K (.ref C_NotSafe) "mechanism" = some none)
    (x1_BadYard : K.lookup C_BadYard = some (excClassObj nm_BadYard qn_BadYard C_BadYard N_BadYard bs_BadYard bm_BadYard true sn_BadYard sub_BadYard ab_BadYard col_BadYard dd_BadYard k0_BadYard k1_BadYard k2_BadYard k3_BadYard k5_BadYard "ValueError.__new__"))
    (x2_BadYard : PySem.HandSPX.refsVE bm_BadYard = true)
    (x3_BadYard : PySem.W.findIn K (.ref C_BadYard) "__setattr__" = some (some (.builtin "object.__setattr__")))
    (x4_BadYard : PySem.W.subIn K (.ref C_BadYard) (.type "BaseException") = some true)
    (x5_BadYard : PySem.W.typeIn K (.ref C_BadYard) = some (.type "type"))
    (x6_BadYard : PySem.W.keepIn K (.ref C_BadYard) = true)
    (x7_BadYard : PySem.W.findIn K (.ref C_BadYard) "__init__" = some (some (.ref I_BadYard)))
    (x8_BadYard : PySem.W.typeIn K (.ref I_BadYard) = some (.type "function"))
    (li_BadYard : K.lookup I_BadYard = some ⟨oci_BadYard, odi_BadYard, .func (PySem.W.fnOf "__init__" "BadYard.__init__" (defArgs si_BadYard) (defBody si_BadYard) (defScope si_BadYard) .none kVi_BadYard dci_BadYard pmi_BadYard ani_BadYard cdi_BadYard cti_BadYard), sli_BadYard⟩)
    (cdi_BadYard_ : PySem.W.codeIn K cdi_BadYard "BadYard.__init__" = true)
    (ki_BadYard : PySem.W.keepIn K (.ref I_BadYard) = true)
    (xn_BadYard_what : PySem.W.findIn K (.ref C_BadYard) "what" = some none)
    (x1_BadStage : K.lookup C_BadStage = some (excClassObj nm_BadStage qn_BadStage C_BadStage N_BadStage bs_BadStage bm_BadStage true sn_BadStage sub_BadStage ab_BadStage col_BadStage dd_BadStage k0_BadStage k1_BadStage k2_BadStage k3_BadStage k5_BadStage "ValueError.__new__"))
    (x2_BadStage : PySem.HandSPX.refsVE bm_BadStage = true)
    (x3_BadStage : PySem.W.findIn K (.ref C_BadStage) "__setattr__" = some (some (.builtin "object.__setattr__")))
    (x4_BadStage : PySem.W.subIn K (.ref C_BadStage) (.type "BaseException") = some true)
    (x5_BadStage : PySem.W.typeIn K (.ref C_BadStage) = some (.type "type"))
    (x6_BadStage : PySem.W.keepIn K (.ref C_BadStage) = true)
    (x7_BadStage : PySem.W.findIn K (.ref C_BadStage) "__init__" = some (some (.ref I_BadStage)))
    (x8_BadStage : PySem.W.typeIn K (.ref I_BadStage) = some (.type "function"))
    (li_BadStage : K.lookup I_BadStage = some ⟨oci_BadStage, odi_BadStage, .func (PySem.W.fnOf "__init__" "BadStage.__init__" (defArgs si_BadStage) (defBody si_BadStage) (defScope si_BadStage) .none kVi_BadStage dci_BadStage pmi_BadStage ani_BadStage cdi_BadStage cti_BadStage), sli_BadStage⟩)
    (cdi_BadStage_ : PySem.W.codeIn K cdi_BadStage "BadStage.__init__" = true)
    (ki_BadStage : PySem.W.keepIn K (.ref I_BadStage) = true)
    (x1_BadChange : K.lookup C_BadChange = some (excClassObj nm_BadChange qn_BadChange C_BadChange N_BadChange bs_BadChange bm_BadChange true sn_BadChange sub_BadChange ab_BadChange col_BadChange dd_BadChange k0_BadChange k1_BadChange k2_BadChange k3_BadChange k5_BadChange "ValueError.__new__"))
    (x2_BadChange : PySem.HandSPX.refsVE bm_BadChange = true)
    (x3_BadChange : PySem.W.findIn K (.ref C_BadChange) "__setattr__" = some (some (.builtin "object.__setattr__")))
    (x4_BadChange : PySem.W.subIn K (.ref C_BadChange) (.type "BaseException") = some true)
    (x5_BadChange : PySem.W.typeIn K (.ref C_BadChange) = some (.type "type"))
    (x6_BadChange : PySem.W.keepIn K (.ref C_BadChange) = true)
    (x7_BadChange : PySem.W.findIn K (.ref C_BadChange) "__init__" = some (some (.ref I_BadChange)))
    (x8_BadChange : PySem.W.typeIn K (.ref I_BadChange) = some (.type "function"))
    (li_BadChange : K.lookup I_BadChange = some ⟨oci_BadChange, odi_BadChange, .func (PySem.W.fnOf "__init__" "BadChange.__init__" (defArgs si_BadChange) (defBody si_BadChange) (defScope si_BadChange) .none kVi_BadChange dci_BadChange pmi_BadChange ani_BadChange cdi_BadChange cti_BadChange), sli_BadChange⟩)
    (cdi_BadChange_ : PySem.W.codeIn K cdi_BadChange "BadChange.__init__" = true)
    (ki_BadChange : PySem.W.keepIn K (.ref I_BadChange) = true)
    (xn_BadChange_what : PySem.W.findIn K (.ref C_BadChange) "what" = some none)
    (x1_NoChange : K.lookup C_NoChange = some (excClassObj nm_NoChange qn_NoChange C_NoChange N_NoChange bs_NoChange bm_NoChange true sn_NoChange sub_NoChange ab_NoChange col_NoChange dd_NoChange k0_NoChange k1_NoChange k2_NoChange k3_NoChange k5_NoChange "ValueError.__new__"))
    (x2_NoChange : PySem.HandSPX.refsVE bm_NoChange = true)
    (x3_NoChange : PySem.W.findIn K (.ref C_NoChange) "__setattr__" = some (some (.builtin "object.__setattr__")))
    (x4_NoChange : PySem.W.subIn K (.ref C_NoChange) (.type "BaseException") = some true)
    (x5_NoChange : PySem.W.typeIn K (.ref C_NoChange) = some (.type "type"))
    (x6_NoChange : PySem.W.keepIn K (.ref C_NoChange) = true)
    (x7_NoChange : PySem.W.findIn K (.ref C_NoChange) "__init__" = some (some (.ref I_NoChange)))
    (x8_NoChange : PySem.W.typeIn K (.ref I_NoChange) = some (.type "function"))
    (li_NoChange : K.lookup I_NoChange = some ⟨oci_NoChange, odi_NoChange, .func (PySem.W.fnOf "__init__" "NoChange.__init__" (defArgs si_NoChange) (defBody si_NoChange) (defScope si_NoChange) .none kVi_NoChange dci_NoChange pmi_NoChange ani_NoChange cdi_NoChange cti_NoChange), sli_NoChange⟩)
    (cdi_NoChange_ : PySem.W.codeIn K cdi_NoChange "NoChange.__init__" = true)
    (ki_NoChange : PySem.W.keepIn K (.ref I_NoChange) = true)
    (xn_NoChange_number : PySem.W.findIn K (.ref C_NoChange) "number" = some none)
    (x1_BadRow : K.lookup C_BadRow = some (excClassObj nm_BadRow qn_BadRow C_BadRow N_BadRow bs_BadRow bm_BadRow true sn_BadRow sub_BadRow ab_BadRow col_BadRow dd_BadRow k0_BadRow k1_BadRow k2_BadRow k3_BadRow k5_BadRow "ValueError.__new__"))
    (x2_BadRow : PySem.HandSPX.refsVE bm_BadRow = true)
    (x3_BadRow : PySem.W.findIn K (.ref C_BadRow) "__setattr__" = some (some (.builtin "object.__setattr__")))
    (x4_BadRow : PySem.W.subIn K (.ref C_BadRow) (.type "BaseException") = some true)
    (x5_BadRow : PySem.W.typeIn K (.ref C_BadRow) = some (.type "type"))
    (x6_BadRow : PySem.W.keepIn K (.ref C_BadRow) = true)
    (x7_BadRow : PySem.W.findIn K (.ref C_BadRow) "__init__" = some (some (.ref I_BadRow)))
    (x8_BadRow : PySem.W.typeIn K (.ref I_BadRow) = some (.type "function"))
    (li_BadRow : K.lookup I_BadRow = some ⟨oci_BadRow, odi_BadRow, .func (PySem.W.fnOf "__init__" "BadRow.__init__" (defArgs si_BadRow) (defBody si_BadRow) (defScope si_BadRow) .none kVi_BadRow dci_BadRow pmi_BadRow ani_BadRow cdi_BadRow cti_BadRow), sli_BadRow⟩)
    (cdi_BadRow_ : PySem.W.codeIn K cdi_BadRow "BadRow.__init__" = true)
    (ki_BadRow : PySem.W.keepIn K (.ref I_BadRow) = true)
    (xn_BadRow_row : PySem.W.findIn K (.ref C_BadRow) "row" = some none)
    (xn_BadRow_what : PySem.W.findIn K (.ref C_BadRow) "what" = some none)
    (e1_NoPart : PySem.W.subIn K (.ref C_NoPart) (.type "BaseException") = some true)
    (e2_NoPart : PySem.W.hasDictIn K C_NoPart = true)
    (e3_NoPart : PySem.W.typeIn K (.ref C_NoPart) = some (.type "type"))
    (es_BridgeError_NoPart : PySem.W.subIn K (.ref C_BridgeError) (.ref C_NoPart) = some false)
    (es_BadRatio_NoPart : PySem.W.subIn K (.ref C_BadRatio) (.ref C_NoPart) = some false)
    (es_BadForce_NoPart : PySem.W.subIn K (.ref C_BadForce) (.ref C_NoPart) = some false)
    (es_BadLoad_NoPart : PySem.W.subIn K (.ref C_BadLoad) (.ref C_NoPart) = some false)
    (es_OtherSize_NoPart : PySem.W.subIn K (.ref C_OtherSize) (.ref C_NoPart) = some false)
    (es_NoStone_NoPart : PySem.W.subIn K (.ref C_NoStone) (.ref C_NoPart) = some false)
    (es_NoJoint_NoPart : PySem.W.subIn K (.ref C_NoJoint) (.ref C_NoPart) = some false)
    (es_NoCorner_NoPart : PySem.W.subIn K (.ref C_NoCorner) (.ref C_NoPart) = some false)
    (es_BadBridge_NoPart : PySem.W.subIn K (.ref C_BadBridge) (.ref C_NoPart) = some false)
    (es_NoPart_NoPart : PySem.W.subIn K (.ref C_NoPart) (.ref C_NoPart) = some true)
    (es_BadRing_NoPart : PySem.W.subIn K (.ref C_BadRing) (.ref C_NoPart) = some false)
    (es_BadCut_NoPart : PySem.W.subIn K (.ref C_BadCut) (.ref C_NoPart) = some false)
    (es_BadThrust_NoPart : PySem.W.subIn K (.ref C_BadThrust) (.ref C_NoPart) = some false)
    (es_BadCorners_NoPart : PySem.W.subIn K (.ref C_BadCorners) (.ref C_NoPart) = some false)
    (es_InLine_NoPart : PySem.W.subIn K (.ref C_InLine) (.ref C_NoPart) = some false)
    (es_BadMotion_NoPart : PySem.W.subIn K (.ref C_BadMotion) (.ref C_NoPart) = some false)
    (es_BadWeights_NoPart : PySem.W.subIn K (.ref C_BadWeights) (.ref C_NoPart) = some false)
    (es_Unbalanced_NoPart : PySem.W.subIn K (.ref C_Unbalanced) (.ref C_NoPart) = some false)
    (es_NotStanding_NoPart : PySem.W.subIn K (.ref C_NotStanding) (.ref C_NoPart) = some false)
    (es_BadPalette_NoPart : PySem.W.subIn K (.ref C_BadPalette) (.ref C_NoPart) = some false)
    (es_BadMix_NoPart : PySem.W.subIn K (.ref C_BadMix) (.ref C_NoPart) = some false)
    (es_BadRows_NoPart : PySem.W.subIn K (.ref C_BadRows) (.ref C_NoPart) = some false)
    (es_BadCart_NoPart : PySem.W.subIn K (.ref C_BadCart) (.ref C_NoPart) = some false)
    (es_BadRule_NoPart : PySem.W.subIn K (.ref C_BadRule) (.ref C_NoPart) = some false)
    (es_NoCart_NoPart : PySem.W.subIn K (.ref C_NoCart) (.ref C_NoPart) = some false)
    (es_BadRoad_NoPart : PySem.W.subIn K (.ref C_BadRoad) (.ref C_NoPart) = some false)
    (es_NoLane_NoPart : PySem.W.subIn K (.ref C_NoLane) (.ref C_NoPart) = some false)
    (es_BadLimit_NoPart : PySem.W.subIn K (.ref C_BadLimit) (.ref C_NoPart) = some false)
    (es_NotSafe_NoPart : PySem.W.subIn K (.ref C_NotSafe) (.ref C_NoPart) = some false)
    (es_BadYard_NoPart : PySem.W.subIn K (.ref C_BadYard) (.ref C_NoPart) = some false)
    (es_BadStage_NoPart : PySem.W.subIn K (.ref C_BadStage) (.ref C_NoPart) = some false)
    (es_BadChange_NoPart : PySem.W.subIn K (.ref C_BadChange) (.ref C_NoPart) = some false)
    (es_NoChange_NoPart : PySem.W.subIn K (.ref C_NoChange) (.ref C_NoPart) = some false)
    (es_BadRow_NoPart : PySem.W.subIn K (.ref C_BadRow) (.ref C_NoPart) = some false)
    (e1_BridgeError : PySem.W.subIn K (.ref C_BridgeError) (.type "BaseException") = some true)
    (e2_BridgeError : PySem.W.hasDictIn K C_BridgeError = true)
    (e3_BridgeError : PySem.W.typeIn K (.ref C_BridgeError) = some (.type "type"))
    (es_BridgeError_BridgeError : PySem.W.subIn K (.ref C_BridgeError) (.ref C_BridgeError) = some true)
    (es_BadRatio_BridgeError : PySem.W.subIn K (.ref C_BadRatio) (.ref C_BridgeError) = some true)
    (es_BadForce_BridgeError : PySem.W.subIn K (.ref C_BadForce) (.ref C_BridgeError) = some true)
    (es_BadLoad_BridgeError : PySem.W.subIn K (.ref C_BadLoad) (.ref C_BridgeError) = some true)
    (es_OtherSize_BridgeError : PySem.W.subIn K (.ref C_OtherSize) (.ref C_BridgeError) = some true)
    (es_NoStone_BridgeError : PySem.W.subIn K (.ref C_NoStone) (.ref C_BridgeError) = some true)
    (es_NoJoint_BridgeError : PySem.W.subIn K (.ref C_NoJoint) (.ref C_BridgeError) = some true)
    (es_NoCorner_BridgeError : PySem.W.subIn K (.ref C_NoCorner) (.ref C_BridgeError) = some true)
    (es_BadBridge_BridgeError : PySem.W.subIn K (.ref C_BadBridge) (.ref C_BridgeError) = some true)
    (es_NoPart_BridgeError : PySem.W.subIn K (.ref C_NoPart) (.ref C_BridgeError) = some true)
    (es_BadRing_BridgeError : PySem.W.subIn K (.ref C_BadRing) (.ref C_BridgeError) = some true)
    (es_BadCut_BridgeError : PySem.W.subIn K (.ref C_BadCut) (.ref C_BridgeError) = some true)
    (es_BadThrust_BridgeError : PySem.W.subIn K (.ref C_BadThrust) (.ref C_BridgeError) = some true)
    (es_BadCorners_BridgeError : PySem.W.subIn K (.ref C_BadCorners) (.ref C_BridgeError) = some true)
    (es_InLine_BridgeError : PySem.W.subIn K (.ref C_InLine) (.ref C_BridgeError) = some true)
    (es_BadMotion_BridgeError : PySem.W.subIn K (.ref C_BadMotion) (.ref C_BridgeError) = some true)
    (es_BadWeights_BridgeError : PySem.W.subIn K (.ref C_BadWeights) (.ref C_BridgeError) = some true)
    (es_Unbalanced_BridgeError : PySem.W.subIn K (.ref C_Unbalanced) (.ref C_BridgeError) = some true)
    (es_NotStanding_BridgeError : PySem.W.subIn K (.ref C_NotStanding) (.ref C_BridgeError) = some true)
    (es_BadPalette_BridgeError : PySem.W.subIn K (.ref C_BadPalette) (.ref C_BridgeError) = some true)
    (es_BadMix_BridgeError : PySem.W.subIn K (.ref C_BadMix) (.ref C_BridgeError) = some true)
    (es_BadRows_BridgeError : PySem.W.subIn K (.ref C_BadRows) (.ref C_BridgeError) = some true)
    (es_BadCart_BridgeError : PySem.W.subIn K (.ref C_BadCart) (.ref C_BridgeError) = some true)
    (es_BadRule_BridgeError : PySem.W.subIn K (.ref C_BadRule) (.ref C_BridgeError) = some true)
    (es_NoCart_BridgeError : PySem.W.subIn K (.ref C_NoCart) (.ref C_BridgeError) = some true)
    (es_BadRoad_BridgeError : PySem.W.subIn K (.ref C_BadRoad) (.ref C_BridgeError) = some true)
    (es_NoLane_BridgeError : PySem.W.subIn K (.ref C_NoLane) (.ref C_BridgeError) = some true)
    (es_BadLimit_BridgeError : PySem.W.subIn K (.ref C_BadLimit) (.ref C_BridgeError) = some true)
    (es_NotSafe_BridgeError : PySem.W.subIn K (.ref C_NotSafe) (.ref C_BridgeError) = some true)
    (es_BadYard_BridgeError : PySem.W.subIn K (.ref C_BadYard) (.ref C_BridgeError) = some true)
    (es_BadStage_BridgeError : PySem.W.subIn K (.ref C_BadStage) (.ref C_BridgeError) = some true)
    (es_BadChange_BridgeError : PySem.W.subIn K (.ref C_BadChange) (.ref C_BridgeError) = some true)
    (es_NoChange_BridgeError : PySem.W.subIn K (.ref C_NoChange) (.ref C_BridgeError) = some true)
    (es_BadRow_BridgeError : PySem.W.subIn K (.ref C_BadRow) (.ref C_BridgeError) = some true)
    (mo_BridgeError : mroL K C_BridgeError = some [.ref C_BridgeError, .type "ValueError", .type "Exception", .type "BaseException", .type "object"])
    (mo_BadRatio : mroL K C_BadRatio = some [.ref C_BadRatio, .ref C_BridgeError, .type "ValueError", .type "Exception", .type "BaseException", .type "object"])
    (mo_BadForce : mroL K C_BadForce = some [.ref C_BadForce, .ref C_BridgeError, .type "ValueError", .type "Exception", .type "BaseException", .type "object"])
    (mo_BadLoad : mroL K C_BadLoad = some [.ref C_BadLoad, .ref C_BridgeError, .type "ValueError", .type "Exception", .type "BaseException", .type "object"])
    (mo_OtherSize : mroL K C_OtherSize = some [.ref C_OtherSize, .ref C_BridgeError, .type "ValueError", .type "Exception", .type "BaseException", .type "object"])
    (mo_NoStone : mroL K C_NoStone = some [.ref C_NoStone, .ref C_BridgeError, .type "ValueError", .type "Exception", .type "BaseException", .type "object"])
    (mo_NoJoint : mroL K C_NoJoint = some [.ref C_NoJoint, .ref C_BridgeError, .type "ValueError", .type "Exception", .type "BaseException", .type "object"])
    (mo_NoCorner : mroL K C_NoCorner = some [.ref C_NoCorner, .ref C_BridgeError, .type "ValueError", .type "Exception", .type "BaseException", .type "object"])
    (mo_BadBridge : mroL K C_BadBridge = some [.ref C_BadBridge, .ref C_BridgeError, .type "ValueError", .type "Exception", .type "BaseException", .type "object"])
    (mo_NoPart : mroL K C_NoPart = some [.ref C_NoPart, .ref C_BridgeError, .type "ValueError", .type "Exception", .type "BaseException", .type "object"])
    (mo_BadRing : mroL K C_BadRing = some [.ref C_BadRing, .ref C_BridgeError, .type "ValueError", .type "Exception", .type "BaseException", .type "object"])
    (mo_BadCut : mroL K C_BadCut = some [.ref C_BadCut, .ref C_BridgeError, .type "ValueError", .type "Exception", .type "BaseException", .type "object"])
    (mo_BadThrust : mroL K C_BadThrust = some [.ref C_BadThrust, .ref C_BridgeError, .type "ValueError", .type "Exception", .type "BaseException", .type "object"])
    (mo_BadCorners : mroL K C_BadCorners = some [.ref C_BadCorners, .ref C_BridgeError, .type "ValueError", .type "Exception", .type "BaseException", .type "object"])
    (mo_InLine : mroL K C_InLine = some [.ref C_InLine, .ref C_BridgeError, .type "ValueError", .type "Exception", .type "BaseException", .type "object"])
    (mo_BadMotion : mroL K C_BadMotion = some [.ref C_BadMotion, .ref C_BridgeError, .type "ValueError", .type "Exception", .type "BaseException", .type "object"])
    (mo_BadWeights : mroL K C_BadWeights = some [.ref C_BadWeights, .ref C_BridgeError, .type "ValueError", .type "Exception", .type "BaseException", .type "object"])
    (mo_Unbalanced : mroL K C_Unbalanced = some [.ref C_Unbalanced, .ref C_BridgeError, .type "ValueError", .type "Exception", .type "BaseException", .type "object"])
    (mo_NotStanding : mroL K C_NotStanding = some [.ref C_NotStanding, .ref C_BridgeError, .type "ValueError", .type "Exception", .type "BaseException", .type "object"])
    (mo_BadPalette : mroL K C_BadPalette = some [.ref C_BadPalette, .ref C_BridgeError, .type "ValueError", .type "Exception", .type "BaseException", .type "object"])
    (mo_BadMix : mroL K C_BadMix = some [.ref C_BadMix, .ref C_BridgeError, .type "ValueError", .type "Exception", .type "BaseException", .type "object"])
    (mo_BadRows : mroL K C_BadRows = some [.ref C_BadRows, .ref C_BridgeError, .type "ValueError", .type "Exception", .type "BaseException", .type "object"])
    (mo_BadCart : mroL K C_BadCart = some [.ref C_BadCart, .ref C_BridgeError, .type "ValueError", .type "Exception", .type "BaseException", .type "object"])
    (mo_BadRule : mroL K C_BadRule = some [.ref C_BadRule, .ref C_BridgeError, .type "ValueError", .type "Exception", .type "BaseException", .type "object"])
    (mo_NoCart : mroL K C_NoCart = some [.ref C_NoCart, .ref C_BridgeError, .type "ValueError", .type "Exception", .type "BaseException", .type "object"])
    (mo_BadRoad : mroL K C_BadRoad = some [.ref C_BadRoad, .ref C_BridgeError, .type "ValueError", .type "Exception", .type "BaseException", .type "object"])
    (mo_NoLane : mroL K C_NoLane = some [.ref C_NoLane, .ref C_BridgeError, .type "ValueError", .type "Exception", .type "BaseException", .type "object"])
    (mo_BadLimit : mroL K C_BadLimit = some [.ref C_BadLimit, .ref C_BridgeError, .type "ValueError", .type "Exception", .type "BaseException", .type "object"])
    (mo_NotSafe : mroL K C_NotSafe = some [.ref C_NotSafe, .ref C_BridgeError, .type "ValueError", .type "Exception", .type "BaseException", .type "object"])
    (mo_BadYard : mroL K C_BadYard = some [.ref C_BadYard, .ref C_BridgeError, .type "ValueError", .type "Exception", .type "BaseException", .type "object"])
    (mo_BadStage : mroL K C_BadStage = some [.ref C_BadStage, .ref C_BridgeError, .type "ValueError", .type "Exception", .type "BaseException", .type "object"])
    (mo_BadChange : mroL K C_BadChange = some [.ref C_BadChange, .ref C_BridgeError, .type "ValueError", .type "Exception", .type "BaseException", .type "object"])
    (mo_NoChange : mroL K C_NoChange = some [.ref C_NoChange, .ref C_BridgeError, .type "ValueError", .type "Exception", .type "BaseException", .type "object"])
    (mo_BadRow : mroL K C_BadRow = some [.ref C_BadRow, .ref C_BridgeError, .type "ValueError", .type "Exception", .type "BaseException", .type "object"])
    (xnd : [C_BridgeError, C_BadRatio, C_BadForce, C_BadLoad, C_OtherSize, C_NoStone, C_NoJoint, C_NoCorner, C_BadBridge, C_NoPart, C_BadRing, C_BadCut, C_BadThrust, C_BadCorners, C_InLine, C_BadMotion, C_BadWeights, C_Unbalanced, C_NotStanding, C_BadPalette, C_BadMix, C_BadRows, C_BadCart, C_BadRule, C_NoCart, C_BadRoad, C_NoLane, C_BadLimit, C_NotSafe, C_BadYard, C_BadStage, C_BadChange, C_NoChange, C_BadRow].Nodup)
    (y1_BridgeError : PySem.W.findIn K (.ref C_BridgeError) "__getattribute__" = some (some (.builtin "BaseException.__getattribute__")))
    (y2_BridgeError : PySem.W.findIn K (.ref C_BridgeError) "__getattr__" = some none)
    (y3_BridgeError : PySem.W.subIn K (.ref C_BridgeError) (.type "BaseException") = some true)
    (y4_BridgeError : PySem.W.hasDictIn K C_BridgeError = true)
    (y5_BridgeError : PySem.W.findIn K (.ref C_BridgeError) "__class__" = some (some (.builtin "object.__class__")))
    (y6_BridgeError : PySem.W.specialIn K (.builtin "object.__class__") "__get__" = some (some (.builtin "getset_descriptor.__get__")))
    (y7_BridgeError : PySem.W.takesIn K (.builtin "object.__class__") = some true)
    (y8_BridgeError : PySem.W.mroIn K C_BridgeError (.type "object") = some true)
    (y1_BadRatio : PySem.W.findIn K (.ref C_BadRatio) "__getattribute__" = some (some (.builtin "BaseException.__getattribute__")))
    (y2_BadRatio : PySem.W.findIn K (.ref C_BadRatio) "__getattr__" = some none)
    (y3_BadRatio : PySem.W.subIn K (.ref C_BadRatio) (.type "BaseException") = some true)
    (y4_BadRatio : PySem.W.hasDictIn K C_BadRatio = true)
    (y5_BadRatio : PySem.W.findIn K (.ref C_BadRatio) "__class__" = some (some (.builtin "object.__class__")))
    (y6_BadRatio : PySem.W.specialIn K (.builtin "object.__class__") "__get__" = some (some (.builtin "getset_descriptor.__get__")))
    (y7_BadRatio : PySem.W.takesIn K (.builtin "object.__class__") = some true)
    (y8_BadRatio : PySem.W.mroIn K C_BadRatio (.type "object") = some true)
    (y1_BadForce : PySem.W.findIn K (.ref C_BadForce) "__getattribute__" = some (some (.builtin "BaseException.__getattribute__")))
    (y2_BadForce : PySem.W.findIn K (.ref C_BadForce) "__getattr__" = some none)
    (y3_BadForce : PySem.W.subIn K (.ref C_BadForce) (.type "BaseException") = some true)
    (y4_BadForce : PySem.W.hasDictIn K C_BadForce = true)
    (y5_BadForce : PySem.W.findIn K (.ref C_BadForce) "__class__" = some (some (.builtin "object.__class__")))
    (y6_BadForce : PySem.W.specialIn K (.builtin "object.__class__") "__get__" = some (some (.builtin "getset_descriptor.__get__")))
    (y7_BadForce : PySem.W.takesIn K (.builtin "object.__class__") = some true)
    (y8_BadForce : PySem.W.mroIn K C_BadForce (.type "object") = some true)
    (y1_BadLoad : PySem.W.findIn K (.ref C_BadLoad) "__getattribute__" = some (some (.builtin "BaseException.__getattribute__")))
    (y2_BadLoad : PySem.W.findIn K (.ref C_BadLoad) "__getattr__" = some none)
    (y3_BadLoad : PySem.W.subIn K (.ref C_BadLoad) (.type "BaseException") = some true)
    (y4_BadLoad : PySem.W.hasDictIn K C_BadLoad = true)
    (y5_BadLoad : PySem.W.findIn K (.ref C_BadLoad) "__class__" = some (some (.builtin "object.__class__")))
    (y6_BadLoad : PySem.W.specialIn K (.builtin "object.__class__") "__get__" = some (some (.builtin "getset_descriptor.__get__")))
    (y7_BadLoad : PySem.W.takesIn K (.builtin "object.__class__") = some true)
    (y8_BadLoad : PySem.W.mroIn K C_BadLoad (.type "object") = some true)
    (y1_OtherSize : PySem.W.findIn K (.ref C_OtherSize) "__getattribute__" = some (some (.builtin "BaseException.__getattribute__")))
    (y2_OtherSize : PySem.W.findIn K (.ref C_OtherSize) "__getattr__" = some none)
    (y3_OtherSize : PySem.W.subIn K (.ref C_OtherSize) (.type "BaseException") = some true)
    (y4_OtherSize : PySem.W.hasDictIn K C_OtherSize = true)
    (y5_OtherSize : PySem.W.findIn K (.ref C_OtherSize) "__class__" = some (some (.builtin "object.__class__")))
    (y6_OtherSize : PySem.W.specialIn K (.builtin "object.__class__") "__get__" = some (some (.builtin "getset_descriptor.__get__")))
    (y7_OtherSize : PySem.W.takesIn K (.builtin "object.__class__") = some true)
    (y8_OtherSize : PySem.W.mroIn K C_OtherSize (.type "object") = some true)
    (y1_NoStone : PySem.W.findIn K (.ref C_NoStone) "__getattribute__" = some (some (.builtin "BaseException.__getattribute__")))
    (y2_NoStone : PySem.W.findIn K (.ref C_NoStone) "__getattr__" = some none)
    (y3_NoStone : PySem.W.subIn K (.ref C_NoStone) (.type "BaseException") = some true)
    (y4_NoStone : PySem.W.hasDictIn K C_NoStone = true)
    (y5_NoStone : PySem.W.findIn K (.ref C_NoStone) "__class__" = some (some (.builtin "object.__class__")))
    (y6_NoStone : PySem.W.specialIn K (.builtin "object.__class__") "__get__" = some (some (.builtin "getset_descriptor.__get__")))
    (y7_NoStone : PySem.W.takesIn K (.builtin "object.__class__") = some true)
    (y8_NoStone : PySem.W.mroIn K C_NoStone (.type "object") = some true)
    (y1_NoJoint : PySem.W.findIn K (.ref C_NoJoint) "__getattribute__" = some (some (.builtin "BaseException.__getattribute__")))
    (y2_NoJoint : PySem.W.findIn K (.ref C_NoJoint) "__getattr__" = some none)
    (y3_NoJoint : PySem.W.subIn K (.ref C_NoJoint) (.type "BaseException") = some true)
    (y4_NoJoint : PySem.W.hasDictIn K C_NoJoint = true)
    (y5_NoJoint : PySem.W.findIn K (.ref C_NoJoint) "__class__" = some (some (.builtin "object.__class__")))
    (y6_NoJoint : PySem.W.specialIn K (.builtin "object.__class__") "__get__" = some (some (.builtin "getset_descriptor.__get__")))
    (y7_NoJoint : PySem.W.takesIn K (.builtin "object.__class__") = some true)
    (y8_NoJoint : PySem.W.mroIn K C_NoJoint (.type "object") = some true)
    (y1_NoCorner : PySem.W.findIn K (.ref C_NoCorner) "__getattribute__" = some (some (.builtin "BaseException.__getattribute__")))
    (y2_NoCorner : PySem.W.findIn K (.ref C_NoCorner) "__getattr__" = some none)
    (y3_NoCorner : PySem.W.subIn K (.ref C_NoCorner) (.type "BaseException") = some true)
    (y4_NoCorner : PySem.W.hasDictIn K C_NoCorner = true)
    (y5_NoCorner : PySem.W.findIn K (.ref C_NoCorner) "__class__" = some (some (.builtin "object.__class__")))
    (y6_NoCorner : PySem.W.specialIn K (.builtin "object.__class__") "__get__" = some (some (.builtin "getset_descriptor.__get__")))
    (y7_NoCorner : PySem.W.takesIn K (.builtin "object.__class__") = some true)
    (y8_NoCorner : PySem.W.mroIn K C_NoCorner (.type "object") = some true)
    (y1_BadBridge : PySem.W.findIn K (.ref C_BadBridge) "__getattribute__" = some (some (.builtin "BaseException.__getattribute__")))
    (y2_BadBridge : PySem.W.findIn K (.ref C_BadBridge) "__getattr__" = some none)
    (y3_BadBridge : PySem.W.subIn K (.ref C_BadBridge) (.type "BaseException") = some true)
    (y4_BadBridge : PySem.W.hasDictIn K C_BadBridge = true)
    (y5_BadBridge : PySem.W.findIn K (.ref C_BadBridge) "__class__" = some (some (.builtin "object.__class__")))
    (y6_BadBridge : PySem.W.specialIn K (.builtin "object.__class__") "__get__" = some (some (.builtin "getset_descriptor.__get__")))
    (y7_BadBridge : PySem.W.takesIn K (.builtin "object.__class__") = some true)
    (y8_BadBridge : PySem.W.mroIn K C_BadBridge (.type "object") = some true)
    (y1_NoPart : PySem.W.findIn K (.ref C_NoPart) "__getattribute__" = some (some (.builtin "BaseException.__getattribute__")))
    (y2_NoPart : PySem.W.findIn K (.ref C_NoPart) "__getattr__" = some none)
    (y3_NoPart : PySem.W.subIn K (.ref C_NoPart) (.type "BaseException") = some true)
    (y4_NoPart : PySem.W.hasDictIn K C_NoPart = true)
    (y5_NoPart : PySem.W.findIn K (.ref C_NoPart) "__class__" = some (some (.builtin "object.__class__")))
    (y6_NoPart : PySem.W.specialIn K (.builtin "object.__class__") "__get__" = some (some (.builtin "getset_descriptor.__get__")))
    (y7_NoPart : PySem.W.takesIn K (.builtin "object.__class__") = some true)
    (y8_NoPart : PySem.W.mroIn K C_NoPart (.type "object") = some true)
    (y1_BadRing : PySem.W.findIn K (.ref C_BadRing) "__getattribute__" = some (some (.builtin "BaseException.__getattribute__")))
    (y2_BadRing : PySem.W.findIn K (.ref C_BadRing) "__getattr__" = some none)
    (y3_BadRing : PySem.W.subIn K (.ref C_BadRing) (.type "BaseException") = some true)
    (y4_BadRing : PySem.W.hasDictIn K C_BadRing = true)
    (y5_BadRing : PySem.W.findIn K (.ref C_BadRing) "__class__" = some (some (.builtin "object.__class__")))
    (y6_BadRing : PySem.W.specialIn K (.builtin "object.__class__") "__get__" = some (some (.builtin "getset_descriptor.__get__")))
    (y7_BadRing : PySem.W.takesIn K (.builtin "object.__class__") = some true)
    (y8_BadRing : PySem.W.mroIn K C_BadRing (.type "object") = some true)
    (y1_BadCut : PySem.W.findIn K (.ref C_BadCut) "__getattribute__" = some (some (.builtin "BaseException.__getattribute__")))
    (y2_BadCut : PySem.W.findIn K (.ref C_BadCut) "__getattr__" = some none)
    (y3_BadCut : PySem.W.subIn K (.ref C_BadCut) (.type "BaseException") = some true)
    (y4_BadCut : PySem.W.hasDictIn K C_BadCut = true)
    (y5_BadCut : PySem.W.findIn K (.ref C_BadCut) "__class__" = some (some (.builtin "object.__class__")))
    (y6_BadCut : PySem.W.specialIn K (.builtin "object.__class__") "__get__" = some (some (.builtin "getset_descriptor.__get__")))
    (y7_BadCut : PySem.W.takesIn K (.builtin "object.__class__") = some true)
    (y8_BadCut : PySem.W.mroIn K C_BadCut (.type "object") = some true)
    (y1_BadThrust : PySem.W.findIn K (.ref C_BadThrust) "__getattribute__" = some (some (.builtin "BaseException.__getattribute__")))
    (y2_BadThrust : PySem.W.findIn K (.ref C_BadThrust) "__getattr__" = some none)
    (y3_BadThrust : PySem.W.subIn K (.ref C_BadThrust) (.type "BaseException") = some true)
    (y4_BadThrust : PySem.W.hasDictIn K C_BadThrust = true)
    (y5_BadThrust : PySem.W.findIn K (.ref C_BadThrust) "__class__" = some (some (.builtin "object.__class__")))
    (y6_BadThrust : PySem.W.specialIn K (.builtin "object.__class__") "__get__" = some (some (.builtin "getset_descriptor.__get__")))
    (y7_BadThrust : PySem.W.takesIn K (.builtin "object.__class__") = some true)
    (y8_BadThrust : PySem.W.mroIn K C_BadThrust (.type "object") = some true)
    (y1_BadCorners : PySem.W.findIn K (.ref C_BadCorners) "__getattribute__" = some (some (.builtin "BaseException.__getattribute__")))
    (y2_BadCorners : PySem.W.findIn K (.ref C_BadCorners) "__getattr__" = some none)
    (y3_BadCorners : PySem.W.subIn K (.ref C_BadCorners) (.type "BaseException") = some true)
    (y4_BadCorners : PySem.W.hasDictIn K C_BadCorners = true)
    (y5_BadCorners : PySem.W.findIn K (.ref C_BadCorners) "__class__" = some (some (.builtin "object.__class__")))
    (y6_BadCorners : PySem.W.specialIn K (.builtin "object.__class__") "__get__" = some (some (.builtin "getset_descriptor.__get__")))
    (y7_BadCorners : PySem.W.takesIn K (.builtin "object.__class__") = some true)
    (y8_BadCorners : PySem.W.mroIn K C_BadCorners (.type "object") = some true)
    (y1_InLine : PySem.W.findIn K (.ref C_InLine) "__getattribute__" = some (some (.builtin "BaseException.__getattribute__")))
    (y2_InLine : PySem.W.findIn K (.ref C_InLine) "__getattr__" = some none)
    (y3_InLine : PySem.W.subIn K (.ref C_InLine) (.type "BaseException") = some true)
    (y4_InLine : PySem.W.hasDictIn K C_InLine = true)
    (y5_InLine : PySem.W.findIn K (.ref C_InLine) "__class__" = some (some (.builtin "object.__class__")))
    (y6_InLine : PySem.W.specialIn K (.builtin "object.__class__") "__get__" = some (some (.builtin "getset_descriptor.__get__")))
    (y7_InLine : PySem.W.takesIn K (.builtin "object.__class__") = some true)
    (y8_InLine : PySem.W.mroIn K C_InLine (.type "object") = some true)
    (y1_BadMotion : PySem.W.findIn K (.ref C_BadMotion) "__getattribute__" = some (some (.builtin "BaseException.__getattribute__")))
    (y2_BadMotion : PySem.W.findIn K (.ref C_BadMotion) "__getattr__" = some none)
    (y3_BadMotion : PySem.W.subIn K (.ref C_BadMotion) (.type "BaseException") = some true)
    (y4_BadMotion : PySem.W.hasDictIn K C_BadMotion = true)
    (y5_BadMotion : PySem.W.findIn K (.ref C_BadMotion) "__class__" = some (some (.builtin "object.__class__")))
    (y6_BadMotion : PySem.W.specialIn K (.builtin "object.__class__") "__get__" = some (some (.builtin "getset_descriptor.__get__")))
    (y7_BadMotion : PySem.W.takesIn K (.builtin "object.__class__") = some true)
    (y8_BadMotion : PySem.W.mroIn K C_BadMotion (.type "object") = some true)
    (y1_BadWeights : PySem.W.findIn K (.ref C_BadWeights) "__getattribute__" = some (some (.builtin "BaseException.__getattribute__")))
    (y2_BadWeights : PySem.W.findIn K (.ref C_BadWeights) "__getattr__" = some none)
    (y3_BadWeights : PySem.W.subIn K (.ref C_BadWeights) (.type "BaseException") = some true)
    (y4_BadWeights : PySem.W.hasDictIn K C_BadWeights = true)
    (y5_BadWeights : PySem.W.findIn K (.ref C_BadWeights) "__class__" = some (some (.builtin "object.__class__")))
    (y6_BadWeights : PySem.W.specialIn K (.builtin "object.__class__") "__get__" = some (some (.builtin "getset_descriptor.__get__")))
    (y7_BadWeights : PySem.W.takesIn K (.builtin "object.__class__") = some true)
    (y8_BadWeights : PySem.W.mroIn K C_BadWeights (.type "object") = some true)
    (y1_Unbalanced : PySem.W.findIn K (.ref C_Unbalanced) "__getattribute__" = some (some (.builtin "BaseException.__getattribute__")))
    (y2_Unbalanced : PySem.W.findIn K (.ref C_Unbalanced) "__getattr__" = some none)
    (y3_Unbalanced : PySem.W.subIn K (.ref C_Unbalanced) (.type "BaseException") = some true)
    (y4_Unbalanced : PySem.W.hasDictIn K C_Unbalanced = true)
    (y5_Unbalanced : PySem.W.findIn K (.ref C_Unbalanced) "__class__" = some (some (.builtin "object.__class__")))
    (y6_Unbalanced : PySem.W.specialIn K (.builtin "object.__class__") "__get__" = some (some (.builtin "getset_descriptor.__get__")))
    (y7_Unbalanced : PySem.W.takesIn K (.builtin "object.__class__") = some true)
    (y8_Unbalanced : PySem.W.mroIn K C_Unbalanced (.type "object") = some true)
    (y1_NotStanding : PySem.W.findIn K (.ref C_NotStanding) "__getattribute__" = some (some (.builtin "BaseException.__getattribute__")))
    (y2_NotStanding : PySem.W.findIn K (.ref C_NotStanding) "__getattr__" = some none)
    (y3_NotStanding : PySem.W.subIn K (.ref C_NotStanding) (.type "BaseException") = some true)
    (y4_NotStanding : PySem.W.hasDictIn K C_NotStanding = true)
    (y5_NotStanding : PySem.W.findIn K (.ref C_NotStanding) "__class__" = some (some (.builtin "object.__class__")))
    (y6_NotStanding : PySem.W.specialIn K (.builtin "object.__class__") "__get__" = some (some (.builtin "getset_descriptor.__get__")))
    (y7_NotStanding : PySem.W.takesIn K (.builtin "object.__class__") = some true)
    (y8_NotStanding : PySem.W.mroIn K C_NotStanding (.type "object") = some true)
    (y1_BadPalette : PySem.W.findIn K (.ref C_BadPalette) "__getattribute__" = some (some (.builtin "BaseException.__getattribute__")))
    (y2_BadPalette : PySem.W.findIn K (.ref C_BadPalette) "__getattr__" = some none)
    (y3_BadPalette : PySem.W.subIn K (.ref C_BadPalette) (.type "BaseException") = some true)
    (y4_BadPalette : PySem.W.hasDictIn K C_BadPalette = true)
    (y5_BadPalette : PySem.W.findIn K (.ref C_BadPalette) "__class__" = some (some (.builtin "object.__class__")))
    (y6_BadPalette : PySem.W.specialIn K (.builtin "object.__class__") "__get__" = some (some (.builtin "getset_descriptor.__get__")))
    (y7_BadPalette : PySem.W.takesIn K (.builtin "object.__class__") = some true)
    (y8_BadPalette : PySem.W.mroIn K C_BadPalette (.type "object") = some true)
    (y1_BadMix : PySem.W.findIn K (.ref C_BadMix) "__getattribute__" = some (some (.builtin "BaseException.__getattribute__")))
    (y2_BadMix : PySem.W.findIn K (.ref C_BadMix) "__getattr__" = some none)
    (y3_BadMix : PySem.W.subIn K (.ref C_BadMix) (.type "BaseException") = some true)
    (y4_BadMix : PySem.W.hasDictIn K C_BadMix = true)
    (y5_BadMix : PySem.W.findIn K (.ref C_BadMix) "__class__" = some (some (.builtin "object.__class__")))
    (y6_BadMix : PySem.W.specialIn K (.builtin "object.__class__") "__get__" = some (some (.builtin "getset_descriptor.__get__")))
    (y7_BadMix : PySem.W.takesIn K (.builtin "object.__class__") = some true)
    (y8_BadMix : PySem.W.mroIn K C_BadMix (.type "object") = some true)
    (y1_BadRows : PySem.W.findIn K (.ref C_BadRows) "__getattribute__" = some (some (.builtin "BaseException.__getattribute__")))
    (y2_BadRows : PySem.W.findIn K (.ref C_BadRows) "__getattr__" = some none)
    (y3_BadRows : PySem.W.subIn K (.ref C_BadRows) (.type "BaseException") = some true)
    (y4_BadRows : PySem.W.hasDictIn K C_BadRows = true)
    (y5_BadRows : PySem.W.findIn K (.ref C_BadRows) "__class__" = some (some (.builtin "object.__class__")))
    (y6_BadRows : PySem.W.specialIn K (.builtin "object.__class__") "__get__" = some (some (.builtin "getset_descriptor.__get__")))
    (y7_BadRows : PySem.W.takesIn K (.builtin "object.__class__") = some true)
    (y8_BadRows : PySem.W.mroIn K C_BadRows (.type "object") = some true)
    (y1_BadCart : PySem.W.findIn K (.ref C_BadCart) "__getattribute__" = some (some (.builtin "BaseException.__getattribute__")))
    (y2_BadCart : PySem.W.findIn K (.ref C_BadCart) "__getattr__" = some none)
    (y3_BadCart : PySem.W.subIn K (.ref C_BadCart) (.type "BaseException") = some true)
    (y4_BadCart : PySem.W.hasDictIn K C_BadCart = true)
    (y5_BadCart : PySem.W.findIn K (.ref C_BadCart) "__class__" = some (some (.builtin "object.__class__")))
    (y6_BadCart : PySem.W.specialIn K (.builtin "object.__class__") "__get__" = some (some (.builtin "getset_descriptor.__get__")))
    (y7_BadCart : PySem.W.takesIn K (.builtin "object.__class__") = some true)
    (y8_BadCart : PySem.W.mroIn K C_BadCart (.type "object") = some true)
    (y1_BadRule : PySem.W.findIn K (.ref C_BadRule) "__getattribute__" = some (some (.builtin "BaseException.__getattribute__")))
    (y2_BadRule : PySem.W.findIn K (.ref C_BadRule) "__getattr__" = some none)
    (y3_BadRule : PySem.W.subIn K (.ref C_BadRule) (.type "BaseException") = some true)
    (y4_BadRule : PySem.W.hasDictIn K C_BadRule = true)
    (y5_BadRule : PySem.W.findIn K (.ref C_BadRule) "__class__" = some (some (.builtin "object.__class__")))
    (y6_BadRule : PySem.W.specialIn K (.builtin "object.__class__") "__get__" = some (some (.builtin "getset_descriptor.__get__")))
    (y7_BadRule : PySem.W.takesIn K (.builtin "object.__class__") = some true)
    (y8_BadRule : PySem.W.mroIn K C_BadRule (.type "object") = some true)
    (y1_NoCart : PySem.W.findIn K (.ref C_NoCart) "__getattribute__" = some (some (.builtin "BaseException.__getattribute__")))
    (y2_NoCart : PySem.W.findIn K (.ref C_NoCart) "__getattr__" = some none)
    (y3_NoCart : PySem.W.subIn K (.ref C_NoCart) (.type "BaseException") = some true)
    (y4_NoCart : PySem.W.hasDictIn K C_NoCart = true)
    (y5_NoCart : PySem.W.findIn K (.ref C_NoCart) "__class__" = some (some (.builtin "object.__class__")))
    (y6_NoCart : PySem.W.specialIn K (.builtin "object.__class__") "__get__" = some (some (.builtin "getset_descriptor.__get__")))
    (y7_NoCart : PySem.W.takesIn K (.builtin "object.__class__") = some true)
    (y8_NoCart : PySem.W.mroIn K C_NoCart (.type "object") = some true)
    (y1_BadRoad : PySem.W.findIn K (.ref C_BadRoad) "__getattribute__" = some (some (.builtin "BaseException.__getattribute__")))
    (y2_BadRoad : PySem.W.findIn K (.ref C_BadRoad) "__getattr__" = some none)
    (y3_BadRoad : PySem.W.subIn K (.ref C_BadRoad) (.type "BaseException") = some true)
    (y4_BadRoad : PySem.W.hasDictIn K C_BadRoad = true)
    (y5_BadRoad : PySem.W.findIn K (.ref C_BadRoad) "__class__" = some (some (.builtin "object.__class__")))
    (y6_BadRoad : PySem.W.specialIn K (.builtin "object.__class__") "__get__" = some (some (.builtin "getset_descriptor.__get__")))
    (y7_BadRoad : PySem.W.takesIn K (.builtin "object.__class__") = some true)
    (y8_BadRoad : PySem.W.mroIn K C_BadRoad (.type "object") = some true)
    (y1_NoLane : PySem.W.findIn K (.ref C_NoLane) "__getattribute__" = some (some (.builtin "BaseException.__getattribute__")))
    (y2_NoLane : PySem.W.findIn K (.ref C_NoLane) "__getattr__" = some none)
    (y3_NoLane : PySem.W.subIn K (.ref C_NoLane) (.type "BaseException") = some true)
    (y4_NoLane : PySem.W.hasDictIn K C_NoLane = true)
    (y5_NoLane : PySem.W.findIn K (.ref C_NoLane) "__class__" = some (some (.builtin "object.__class__")))
    (y6_NoLane : PySem.W.specialIn K (.builtin "object.__class__") "__get__" = some (some (.builtin "getset_descriptor.__get__")))
    (y7_NoLane : PySem.W.takesIn K (.builtin "object.__class__") = some true)
    (y8_NoLane : PySem.W.mroIn K C_NoLane (.type "object") = some true)
    (y1_BadLimit : PySem.W.findIn K (.ref C_BadLimit) "__getattribute__" = some (some (.builtin "BaseException.__getattribute__")))
    (y2_BadLimit : PySem.W.findIn K (.ref C_BadLimit) "__getattr__" = some none)
    (y3_BadLimit : PySem.W.subIn K (.ref C_BadLimit) (.type "BaseException") = some true)
    (y4_BadLimit : PySem.W.hasDictIn K C_BadLimit = true)
    (y5_BadLimit : PySem.W.findIn K (.ref C_BadLimit) "__class__" = some (some (.builtin "object.__class__")))
    (y6_BadLimit : PySem.W.specialIn K (.builtin "object.__class__") "__get__" = some (some (.builtin "getset_descriptor.__get__")))
    (y7_BadLimit : PySem.W.takesIn K (.builtin "object.__class__") = some true)
    (y8_BadLimit : PySem.W.mroIn K C_BadLimit (.type "object") = some true)
    (y1_NotSafe : PySem.W.findIn K (.ref C_NotSafe) "__getattribute__" = some (some (.builtin "BaseException.__getattribute__")))
    (y2_NotSafe : PySem.W.findIn K (.ref C_NotSafe) "__getattr__" = some none)
    (y3_NotSafe : PySem.W.subIn K (.ref C_NotSafe) (.type "BaseException") = some true)
    (y4_NotSafe : PySem.W.hasDictIn K C_NotSafe = true)
    (y5_NotSafe : PySem.W.findIn K (.ref C_NotSafe) "__class__" = some (some (.builtin "object.__class__")))
    (y6_NotSafe : PySem.W.specialIn K (.builtin "object.__class__") "__get__" = some (some (.builtin "getset_descriptor.__get__")))
    (y7_NotSafe : PySem.W.takesIn K (.builtin "object.__class__") = some true)
    (y8_NotSafe : PySem.W.mroIn K C_NotSafe (.type "object") = some true)
    (y1_BadYard : PySem.W.findIn K (.ref C_BadYard) "__getattribute__" = some (some (.builtin "BaseException.__getattribute__")))
    (y2_BadYard : PySem.W.findIn K (.ref C_BadYard) "__getattr__" = some none)
    (y3_BadYard : PySem.W.subIn K (.ref C_BadYard) (.type "BaseException") = some true)
    (y4_BadYard : PySem.W.hasDictIn K C_BadYard = true)
    (y5_BadYard : PySem.W.findIn K (.ref C_BadYard) "__class__" = some (some (.builtin "object.__class__")))
    (y6_BadYard : PySem.W.specialIn K (.builtin "object.__class__") "__get__" = some (some (.builtin "getset_descriptor.__get__")))
    (y7_BadYard : PySem.W.takesIn K (.builtin "object.__class__") = some true)
    (y8_BadYard : PySem.W.mroIn K C_BadYard (.type "object") = some true)
    (y1_BadStage : PySem.W.findIn K (.ref C_BadStage) "__getattribute__" = some (some (.builtin "BaseException.__getattribute__")))
    (y2_BadStage : PySem.W.findIn K (.ref C_BadStage) "__getattr__" = some none)
    (y3_BadStage : PySem.W.subIn K (.ref C_BadStage) (.type "BaseException") = some true)
    (y4_BadStage : PySem.W.hasDictIn K C_BadStage = true)
    (y5_BadStage : PySem.W.findIn K (.ref C_BadStage) "__class__" = some (some (.builtin "object.__class__")))
    (y6_BadStage : PySem.W.specialIn K (.builtin "object.__class__") "__get__" = some (some (.builtin "getset_descriptor.__get__")))
    (y7_BadStage : PySem.W.takesIn K (.builtin "object.__class__") = some true)
    (y8_BadStage : PySem.W.mroIn K C_BadStage (.type "object") = some true)
    (y1_BadChange : PySem.W.findIn K (.ref C_BadChange) "__getattribute__" = some (some (.builtin "BaseException.__getattribute__")))
    (y2_BadChange : PySem.W.findIn K (.ref C_BadChange) "__getattr__" = some none)
    (y3_BadChange : PySem.W.subIn K (.ref C_BadChange) (.type "BaseException") = some true)
    (y4_BadChange : PySem.W.hasDictIn K C_BadChange = true)
    (y5_BadChange : PySem.W.findIn K (.ref C_BadChange) "__class__" = some (some (.builtin "object.__class__")))
    (y6_BadChange : PySem.W.specialIn K (.builtin "object.__class__") "__get__" = some (some (.builtin "getset_descriptor.__get__")))
    (y7_BadChange : PySem.W.takesIn K (.builtin "object.__class__") = some true)
    (y8_BadChange : PySem.W.mroIn K C_BadChange (.type "object") = some true)
    (y1_NoChange : PySem.W.findIn K (.ref C_NoChange) "__getattribute__" = some (some (.builtin "BaseException.__getattribute__")))
    (y2_NoChange : PySem.W.findIn K (.ref C_NoChange) "__getattr__" = some none)
    (y3_NoChange : PySem.W.subIn K (.ref C_NoChange) (.type "BaseException") = some true)
    (y4_NoChange : PySem.W.hasDictIn K C_NoChange = true)
    (y5_NoChange : PySem.W.findIn K (.ref C_NoChange) "__class__" = some (some (.builtin "object.__class__")))
    (y6_NoChange : PySem.W.specialIn K (.builtin "object.__class__") "__get__" = some (some (.builtin "getset_descriptor.__get__")))
    (y7_NoChange : PySem.W.takesIn K (.builtin "object.__class__") = some true)
    (y8_NoChange : PySem.W.mroIn K C_NoChange (.type "object") = some true)
    (y1_BadRow : PySem.W.findIn K (.ref C_BadRow) "__getattribute__" = some (some (.builtin "BaseException.__getattribute__")))
    (y2_BadRow : PySem.W.findIn K (.ref C_BadRow) "__getattr__" = some none)
    (y3_BadRow : PySem.W.subIn K (.ref C_BadRow) (.type "BaseException") = some true)
    (y4_BadRow : PySem.W.hasDictIn K C_BadRow = true)
    (y5_BadRow : PySem.W.findIn K (.ref C_BadRow) "__class__" = some (some (.builtin "object.__class__")))
    (y6_BadRow : PySem.W.specialIn K (.builtin "object.__class__") "__get__" = some (some (.builtin "getset_descriptor.__get__")))
    (y7_BadRow : PySem.W.takesIn K (.builtin "object.__class__") = some true)
    (y8_BadRow : PySem.W.mroIn K C_BadRow (.type "object") = some true)
    (z_ValueError : PySem.W.nsIn K mainGlobals "ValueError" = some none)
    (z_int : PySem.W.nsIn K mainGlobals "int" = some none)
    (z_isinstance : PySem.W.nsIn K mainGlobals "isinstance" = some none)
    (z_len : PySem.W.nsIn K mainGlobals "len" = some none)
    (z_list : PySem.W.nsIn K mainGlobals "list" = some none)
    (z_range : PySem.W.nsIn K mainGlobals "range" = some none)
    (z_repr : PySem.W.nsIn K mainGlobals "repr" = some none)
    (z_str : PySem.W.nsIn K mainGlobals "str" = some none) :
    ∃ fd : FuncData, (∀ (s : Shared) (v : Value), BindsTo s fd ⟨[v], []⟩ [("_law_script", v)]) ∧ ∀ base : Heap, K.In base → base.Ns mainGlobals mg → FnG l.prog w K mg base (L2.CX l.prog w) 4 fa fd ["_law_script"] (spLaw K) := by
  have e : fa = f_law := by
    have z := hfa.symm.trans (PySem.W.mg_of X G a_law)
    cases z
    rfl
  rw [e]
  have T : Txt K mg ⟨f__law_take, (PySem.W.fnOf "_law_take" "_law_take" (defArgs s__law_take) (defBody s__law_take) (defScope s__law_take) .none kV__law_take dc__law_take pm__law_take an__law_take cd__law_take ct__law_take), f__law_of, (PySem.W.fnOf "_law_of" "_law_of" (defArgs s__law_of) (defBody s__law_of) (defScope s__law_of) .none kV__law_of dc__law_of pm__law_of an__law_of cd__law_of ct__law_of), f__law_value, (PySem.W.fnOf "_law_value" "_law_value" (defArgs s__law_value) (defBody s__law_value) (defScope s__law_value) .none kV__law_value dc__law_value pm__law_value an__law_value cd__law_value ct__law_value), f__law_pen, (PySem.W.fnOf "_law_pen" "_law_pen" (defArgs s__law_pen) (defBody s__law_pen) (defScope s__law_pen) .none kV__law_pen dc__law_pen pm__law_pen an__law_pen cd__law_pen ct__law_pen), f__law_first, (PySem.W.fnOf "_law_first" "_law_first" (defArgs s__law_first) (defBody s__law_first) (defScope s__law_first) .none kV__law_first dc__law_first pm__law_first an__law_first cd__law_first ct__law_first), f__law_second, (PySem.W.fnOf "_law_second" "_law_second" (defArgs s__law_second) (defBody s__law_second) (defScope s__law_second) .none kV__law_second dc__law_second pm__law_second an__law_second cd__law_second ct__law_second), f__law_third, (PySem.W.fnOf "_law_third" "_law_third" (defArgs s__law_third) (defBody s__law_third) (defScope s__law_third) .none kV__law_third dc__law_third pm__law_third an__law_third cd__law_third ct__law_third), f__law_classes, (PySem.W.fnOf "_law_classes" "_law_classes" (defArgs s__law_classes) (defBody s__law_classes) (defScope s__law_classes) .none kV__law_classes dc__law_classes pm__law_classes an__law_classes cd__law_classes ct__law_classes), f__law_by_names, (PySem.W.fnOf "_law_by_names" "_law_by_names" (defArgs s__law_by_names) (defBody s__law_by_names) (defScope s__law_by_names) .none kV__law_by_names dc__law_by_names pm__law_by_names an__law_by_names cd__law_by_names ct__law_by_names), f__law_caught, (PySem.W.fnOf "_law_caught" "_law_caught" (defArgs s__law_caught) (defBody s__law_caught) (defScope s__law_caught) .none kV__law_caught dc__law_caught pm__law_caught an__law_caught cd__law_caught ct__law_caught), f_law, (PySem.W.fnOf "law" "law" (defArgs s_law) (defBody s_law) (defScope s_law) .none kV_law dc_law pm_law an_law cd_law ct_law), C_BridgeError, I_BridgeError, (PySem.W.fnOf "__init__" "BridgeError.__init__" (defArgs si_BridgeError) (defBody si_BridgeError) (defScope si_BridgeError) .none kVi_BridgeError dci_BridgeError pmi_BridgeError ani_BridgeError cdi_BridgeError cti_BridgeError), C_BadRatio, I_BadRatio, (PySem.W.fnOf "__init__" "BadRatio.__init__" (defArgs si_BadRatio) (defBody si_BadRatio) (defScope si_BadRatio) .none kVi_BadRatio dci_BadRatio pmi_BadRatio ani_BadRatio cdi_BadRatio cti_BadRatio), C_BadForce, I_BadForce, (PySem.W.fnOf "__init__" "BadForce.__init__" (defArgs si_BadForce) (defBody si_BadForce) (defScope si_BadForce) .none kVi_BadForce dci_BadForce pmi_BadForce ani_BadForce cdi_BadForce cti_BadForce), C_BadLoad, I_BadLoad, (PySem.W.fnOf "__init__" "BadLoad.__init__" (defArgs si_BadLoad) (defBody si_BadLoad) (defScope si_BadLoad) .none kVi_BadLoad dci_BadLoad pmi_BadLoad ani_BadLoad cdi_BadLoad cti_BadLoad), C_OtherSize, I_OtherSize, (PySem.W.fnOf "__init__" "OtherSize.__init__" (defArgs si_OtherSize) (defBody si_OtherSize) (defScope si_OtherSize) .none kVi_OtherSize dci_OtherSize pmi_OtherSize ani_OtherSize cdi_OtherSize cti_OtherSize), C_NoStone, I_NoStone, (PySem.W.fnOf "__init__" "NoStone.__init__" (defArgs si_NoStone) (defBody si_NoStone) (defScope si_NoStone) .none kVi_NoStone dci_NoStone pmi_NoStone ani_NoStone cdi_NoStone cti_NoStone), C_NoJoint, I_NoJoint, (PySem.W.fnOf "__init__" "NoJoint.__init__" (defArgs si_NoJoint) (defBody si_NoJoint) (defScope si_NoJoint) .none kVi_NoJoint dci_NoJoint pmi_NoJoint ani_NoJoint cdi_NoJoint cti_NoJoint), C_NoCorner, I_NoCorner, (PySem.W.fnOf "__init__" "NoCorner.__init__" (defArgs si_NoCorner) (defBody si_NoCorner) (defScope si_NoCorner) .none kVi_NoCorner dci_NoCorner pmi_NoCorner ani_NoCorner cdi_NoCorner cti_NoCorner), C_BadBridge, I_BadBridge, (PySem.W.fnOf "__init__" "BadBridge.__init__" (defArgs si_BadBridge) (defBody si_BadBridge) (defScope si_BadBridge) .none kVi_BadBridge dci_BadBridge pmi_BadBridge ani_BadBridge cdi_BadBridge cti_BadBridge), C_NoPart, I_NoPart, (PySem.W.fnOf "__init__" "NoPart.__init__" (defArgs si_NoPart) (defBody si_NoPart) (defScope si_NoPart) .none kVi_NoPart dci_NoPart pmi_NoPart ani_NoPart cdi_NoPart cti_NoPart), C_BadRing, I_BadRing, (PySem.W.fnOf "__init__" "BadRing.__init__" (defArgs si_BadRing) (defBody si_BadRing) (defScope si_BadRing) .none kVi_BadRing dci_BadRing pmi_BadRing ani_BadRing cdi_BadRing cti_BadRing), C_BadCut, I_BadCut, (PySem.W.fnOf "__init__" "BadCut.__init__" (defArgs si_BadCut) (defBody si_BadCut) (defScope si_BadCut) .none kVi_BadCut dci_BadCut pmi_BadCut ani_BadCut cdi_BadCut cti_BadCut), C_BadThrust, I_BadThrust, (PySem.W.fnOf "__init__" "BadThrust.__init__" (defArgs si_BadThrust) (defBody si_BadThrust) (defScope si_BadThrust) .none kVi_BadThrust dci_BadThrust pmi_BadThrust ani_BadThrust cdi_BadThrust cti_BadThrust), C_BadCorners, I_BadCorners, (PySem.W.fnOf "__init__" "BadCorners.__init__" (defArgs si_BadCorners) (defBody si_BadCorners) (defScope si_BadCorners) .none kVi_BadCorners dci_BadCorners pmi_BadCorners ani_BadCorners cdi_BadCorners cti_BadCorners), C_InLine, I_InLine, (PySem.W.fnOf "__init__" "InLine.__init__" (defArgs si_InLine) (defBody si_InLine) (defScope si_InLine) .none kVi_InLine dci_InLine pmi_InLine ani_InLine cdi_InLine cti_InLine), C_BadMotion, I_BadMotion, (PySem.W.fnOf "__init__" "BadMotion.__init__" (defArgs si_BadMotion) (defBody si_BadMotion) (defScope si_BadMotion) .none kVi_BadMotion dci_BadMotion pmi_BadMotion ani_BadMotion cdi_BadMotion cti_BadMotion), C_BadWeights, I_BadWeights, (PySem.W.fnOf "__init__" "BadWeights.__init__" (defArgs si_BadWeights) (defBody si_BadWeights) (defScope si_BadWeights) .none kVi_BadWeights dci_BadWeights pmi_BadWeights ani_BadWeights cdi_BadWeights cti_BadWeights), C_Unbalanced, I_Unbalanced, (PySem.W.fnOf "__init__" "Unbalanced.__init__" (defArgs si_Unbalanced) (defBody si_Unbalanced) (defScope si_Unbalanced) .none kVi_Unbalanced dci_Unbalanced pmi_Unbalanced ani_Unbalanced cdi_Unbalanced cti_Unbalanced), C_NotStanding, I_NotStanding, (PySem.W.fnOf "__init__" "NotStanding.__init__" (defArgs si_NotStanding) (defBody si_NotStanding) (defScope si_NotStanding) .none kVi_NotStanding dci_NotStanding pmi_NotStanding ani_NotStanding cdi_NotStanding cti_NotStanding), C_BadPalette, I_BadPalette, (PySem.W.fnOf "__init__" "BadPalette.__init__" (defArgs si_BadPalette) (defBody si_BadPalette) (defScope si_BadPalette) .none kVi_BadPalette dci_BadPalette pmi_BadPalette ani_BadPalette cdi_BadPalette cti_BadPalette), C_BadMix, I_BadMix, (PySem.W.fnOf "__init__" "BadMix.__init__" (defArgs si_BadMix) (defBody si_BadMix) (defScope si_BadMix) .none kVi_BadMix dci_BadMix pmi_BadMix ani_BadMix cdi_BadMix cti_BadMix), C_BadRows, I_BadRows, (PySem.W.fnOf "__init__" "BadRows.__init__" (defArgs si_BadRows) (defBody si_BadRows) (defScope si_BadRows) .none kVi_BadRows dci_BadRows pmi_BadRows ani_BadRows cdi_BadRows cti_BadRows), C_BadCart, I_BadCart, (PySem.W.fnOf "__init__" "BadCart.__init__" (defArgs si_BadCart) (defBody si_BadCart) (defScope si_BadCart) .none kVi_BadCart dci_BadCart pmi_BadCart ani_BadCart cdi_BadCart cti_BadCart), C_BadRule, I_BadRule, (PySem.W.fnOf "__init__" "BadRule.__init__" (defArgs si_BadRule) (defBody si_BadRule) (defScope si_BadRule) .none kVi_BadRule dci_BadRule pmi_BadRule ani_BadRule cdi_BadRule cti_BadRule), C_NoCart, I_NoCart, (PySem.W.fnOf "__init__" "NoCart.__init__" (defArgs si_NoCart) (defBody si_NoCart) (defScope si_NoCart) .none kVi_NoCart dci_NoCart pmi_NoCart ani_NoCart cdi_NoCart cti_NoCart), C_BadRoad, I_BadRoad, (PySem.W.fnOf "__init__" "BadRoad.__init__" (defArgs si_BadRoad) (defBody si_BadRoad) (defScope si_BadRoad) .none kVi_BadRoad dci_BadRoad pmi_BadRoad ani_BadRoad cdi_BadRoad cti_BadRoad), C_NoLane, I_NoLane, (PySem.W.fnOf "__init__" "NoLane.__init__" (defArgs si_NoLane) (defBody si_NoLane) (defScope si_NoLane) .none kVi_NoLane dci_NoLane pmi_NoLane ani_NoLane cdi_NoLane cti_NoLane), C_BadLimit, I_BadLimit, (PySem.W.fnOf "__init__" "BadLimit.__init__" (defArgs si_BadLimit) (defBody si_BadLimit) (defScope si_BadLimit) .none kVi_BadLimit dci_BadLimit pmi_BadLimit ani_BadLimit cdi_BadLimit cti_BadLimit), C_NotSafe, I_NotSafe, (PySem.W.fnOf "__init__" "NotSafe.__init__" (defArgs si_NotSafe) (defBody si_NotSafe) (defScope si_NotSafe) .none kVi_NotSafe dci_NotSafe pmi_NotSafe ani_NotSafe cdi_NotSafe cti_NotSafe), C_BadYard, I_BadYard, (PySem.W.fnOf "__init__" "BadYard.__init__" (defArgs si_BadYard) (defBody si_BadYard) (defScope si_BadYard) .none kVi_BadYard dci_BadYard pmi_BadYard ani_BadYard cdi_BadYard cti_BadYard), C_BadStage, I_BadStage, (PySem.W.fnOf "__init__" "BadStage.__init__" (defArgs si_BadStage) (defBody si_BadStage) (defScope si_BadStage) .none kVi_BadStage dci_BadStage pmi_BadStage ani_BadStage cdi_BadStage cti_BadStage), C_BadChange, I_BadChange, (PySem.W.fnOf "__init__" "BadChange.__init__" (defArgs si_BadChange) (defBody si_BadChange) (defScope si_BadChange) .none kVi_BadChange dci_BadChange pmi_BadChange ani_BadChange cdi_BadChange cti_BadChange), C_NoChange, I_NoChange, (PySem.W.fnOf "__init__" "NoChange.__init__" (defArgs si_NoChange) (defBody si_NoChange) (defScope si_NoChange) .none kVi_NoChange dci_NoChange pmi_NoChange ani_NoChange cdi_NoChange cti_NoChange), C_BadRow, I_BadRow, (PySem.W.fnOf "__init__" "BadRow.__init__" (defArgs si_BadRow) (defBody si_BadRow) (defScope si_BadRow) .none kVi_BadRow dci_BadRow pmi_BadRow ani_BadRow cdi_BadRow cti_BadRow)⟩ := {
    t__law_take := fund_mk l__law_take c__law_take k__law_take
    m__law_take := PySem.W.mg_of X G a__law_take
    b__law_take := (fund_mk l__law_take c__law_take k__law_take).bindsN (ps := ["_law_pen_here", "_law_many"]) fun _ _ _ _ _ _ us hl => match us, hl with | [_, _], _ => rfl
    t__law_of := fund_mk l__law_of c__law_of k__law_of
    m__law_of := PySem.W.mg_of X G a__law_of
    b__law_of := (fund_mk l__law_of c__law_of k__law_of).bindsN (ps := ["_law_pen_here", "_law_some"]) fun _ _ _ _ _ _ us hl => match us, hl with | [_, _], _ => rfl
    t__law_value := fund_mk l__law_value c__law_value k__law_value
    m__law_value := PySem.W.mg_of X G a__law_value
    b__law_value := (fund_mk l__law_value c__law_value k__law_value).bindsN (ps := ["_law_pen_here"]) fun _ _ _ _ _ _ us hl => match us, hl with | [_], _ => rfl
    t__law_pen := fund_mk l__law_pen c__law_pen k__law_pen
    m__law_pen := PySem.W.mg_of X G a__law_pen
    b__law_pen := (fund_mk l__law_pen c__law_pen k__law_pen).bindsN (ps := ["_law_script"]) fun _ _ _ _ _ _ us hl => match us, hl with | [_], _ => rfl
    t__law_first := fund_mk l__law_first c__law_first k__law_first
    m__law_first := PySem.W.mg_of X G a__law_first
    b__law_first := (fund_mk l__law_first c__law_first k__law_first).bindsN (ps := ["_law_value_here", "_law_twin"]) fun _ _ _ _ _ _ us hl => match us, hl with | [_, _], _ => rfl
    t__law_second := fund_mk l__law_second c__law_second k__law_second
    m__law_second := PySem.W.mg_of X G a__law_second
    b__law_second := (fund_mk l__law_second c__law_second k__law_second).bindsN (ps := ["_law_value_here", "_law_twin"]) fun _ _ _ _ _ _ us hl => match us, hl with | [_, _], _ => rfl
    t__law_third := fund_mk l__law_third c__law_third k__law_third
    m__law_third := PySem.W.mg_of X G a__law_third
    b__law_third := (fund_mk l__law_third c__law_third k__law_third).bindsN (ps := ["_law_value_here", "_law_twin"]) fun _ _ _ _ _ _ us hl => match us, hl with | [_, _], _ => rfl
    t__law_classes := fund_mk l__law_classes c__law_classes k__law_classes
    m__law_classes := PySem.W.mg_of X G a__law_classes
    b__law_classes := (fund_mk l__law_classes c__law_classes k__law_classes).bindsN (ps := ["_law_error"]) fun _ _ _ _ _ _ us hl => match us, hl with | [_], _ => rfl
    t__law_by_names := fund_mk l__law_by_names c__law_by_names k__law_by_names
    m__law_by_names := PySem.W.mg_of X G a__law_by_names
    b__law_by_names := (fund_mk l__law_by_names c__law_by_names k__law_by_names).bindsN (ps := ["_law_value_here", "_law_twin"]) fun _ _ _ _ _ _ us hl => match us, hl with | [_, _], _ => rfl
    t__law_caught := fund_mk l__law_caught c__law_caught k__law_caught
    m__law_caught := PySem.W.mg_of X G a__law_caught
    b__law_caught := (fund_mk l__law_caught c__law_caught k__law_caught).bindsN (ps := ["_law_value_here", "_law_twin"]) fun _ _ _ _ _ _ us hl => match us, hl with | [_, _], _ => rfl
    t_law := fund_mk l_law c_law k_law
    m_law := PySem.W.mg_of X G a_law
    b_law := (fund_mk l_law c_law k_law).bindsN (ps := ["_law_script"]) fun _ _ _ _ _ _ us hl => match us, hl with | [_], _ => rfl
    m_BridgeError := PySem.W.mg_of X G ac_BridgeError
    m_BadRatio := PySem.W.mg_of X G ac_BadRatio
    m_BadForce := PySem.W.mg_of X G ac_BadForce
    m_BadLoad := PySem.W.mg_of X G ac_BadLoad
    m_OtherSize := PySem.W.mg_of X G ac_OtherSize
    m_NoStone := PySem.W.mg_of X G ac_NoStone
    m_NoJoint := PySem.W.mg_of X G ac_NoJoint
    m_NoCorner := PySem.W.mg_of X G ac_NoCorner
    m_BadBridge := PySem.W.mg_of X G ac_BadBridge
    m_NoPart := PySem.W.mg_of X G ac_NoPart
    m_BadRing := PySem.W.mg_of X G ac_BadRing
    m_BadCut := PySem.W.mg_of X G ac_BadCut
    m_BadThrust := PySem.W.mg_of X G ac_BadThrust
    m_BadCorners := PySem.W.mg_of X G ac_BadCorners
    m_InLine := PySem.W.mg_of X G ac_InLine
    m_BadMotion := PySem.W.mg_of X G ac_BadMotion
    m_BadWeights := PySem.W.mg_of X G ac_BadWeights
    m_Unbalanced := PySem.W.mg_of X G ac_Unbalanced
    m_NotStanding := PySem.W.mg_of X G ac_NotStanding
    m_BadPalette := PySem.W.mg_of X G ac_BadPalette
    m_BadMix := PySem.W.mg_of X G ac_BadMix
    m_BadRows := PySem.W.mg_of X G ac_BadRows
    m_BadCart := PySem.W.mg_of X G ac_BadCart
    m_BadRule := PySem.W.mg_of X G ac_BadRule
    m_NoCart := PySem.W.mg_of X G ac_NoCart
    m_BadRoad := PySem.W.mg_of X G ac_BadRoad
    m_NoLane := PySem.W.mg_of X G ac_NoLane
    m_BadLimit := PySem.W.mg_of X G ac_BadLimit
    m_NotSafe := PySem.W.mg_of X G ac_NotSafe
    m_BadYard := PySem.W.mg_of X G ac_BadYard
    m_BadStage := PySem.W.mg_of X G ac_BadStage
    m_BadChange := PySem.W.mg_of X G ac_BadChange
    m_NoChange := PySem.W.mg_of X G ac_NoChange
    m_BadRow := PySem.W.mg_of X G ac_BadRow
    e_BridgeError := ⟨⟨⟨_, _, _, _, _, _, _, _, _, _, _, _, _, _, _, x1_BridgeError, x2_BridgeError⟩, x3_BridgeError, x4_BridgeError, x5_BridgeError, x6_BridgeError⟩, x7_BridgeError, x8_BridgeError, fun_mk (st := si_BridgeError) li_BridgeError cdi_BridgeError_ ki_BridgeError, (fun_mk (st := si_BridgeError) li_BridgeError cdi_BridgeError_ ki_BridgeError).binds (ps := ["self"]) fun _ _ _ _ _ _ us hl => match us, hl with | [_], _ => rfl, PySem.W.mg_of X G ac_BridgeError⟩
    e_BadRatio := ⟨⟨⟨_, _, _, _, _, _, _, _, _, _, _, _, _, _, _, x1_BadRatio, x2_BadRatio⟩, x3_BadRatio, x4_BadRatio, x5_BadRatio, x6_BadRatio⟩, x7_BadRatio, x8_BadRatio, fun_mk (st := si_BadRatio) li_BadRatio cdi_BadRatio_ ki_BadRatio, (fun_mk (st := si_BadRatio) li_BadRatio cdi_BadRatio_ ki_BadRatio).binds (ps := ["self"]) fun _ _ _ _ _ _ us hl => match us, hl with | [_], _ => rfl, PySem.W.mg_of X G ac_BadRatio⟩
    e_BadForce := ⟨⟨⟨_, _, _, _, _, _, _, _, _, _, _, _, _, _, _, x1_BadForce, x2_BadForce⟩, x3_BadForce, x4_BadForce, x5_BadForce, x6_BadForce⟩, x7_BadForce, x8_BadForce, fun_mk (st := si_BadForce) li_BadForce cdi_BadForce_ ki_BadForce, (fun_mk (st := si_BadForce) li_BadForce cdi_BadForce_ ki_BadForce).binds (ps := ["self", "what"]) fun _ _ _ _ _ _ us hl => match us, hl with | [_, _], _ => rfl, PySem.W.mg_of X G ac_BadForce⟩
    xn_BadForce_what := xn_BadForce_what
    e_BadLoad := ⟨⟨⟨_, _, _, _, _, _, _, _, _, _, _, _, _, _, _, x1_BadLoad, x2_BadLoad⟩, x3_BadLoad, x4_BadLoad, x5_BadLoad, x6_BadLoad⟩, x7_BadLoad, x8_BadLoad, fun_mk (st := si_BadLoad) li_BadLoad cdi_BadLoad_ ki_BadLoad, (fun_mk (st := si_BadLoad) li_BadLoad cdi_BadLoad_ ki_BadLoad).binds (ps := ["self", "what"]) fun _ _ _ _ _ _ us hl => match us, hl with | [_, _], _ => rfl, PySem.W.mg_of X G ac_BadLoad⟩
    xn_BadLoad_what := xn_BadLoad_what
    e_OtherSize := ⟨⟨⟨_, _, _, _, _, _, _, _, _, _, _, _, _, _, _, x1_OtherSize, x2_OtherSize⟩, x3_OtherSize, x4_OtherSize, x5_OtherSize, x6_OtherSize⟩, x7_OtherSize, x8_OtherSize, fun_mk (st := si_OtherSize) li_OtherSize cdi_OtherSize_ ki_OtherSize, (fun_mk (st := si_OtherSize) li_OtherSize cdi_OtherSize_ ki_OtherSize).binds (ps := ["self"]) fun _ _ _ _ _ _ us hl => match us, hl with | [_], _ => rfl, PySem.W.mg_of X G ac_OtherSize⟩
    e_NoStone := ⟨⟨⟨_, _, _, _, _, _, _, _, _, _, _, _, _, _, _, x1_NoStone, x2_NoStone⟩, x3_NoStone, x4_NoStone, x5_NoStone, x6_NoStone⟩, x7_NoStone, x8_NoStone, fun_mk (st := si_NoStone) li_NoStone cdi_NoStone_ ki_NoStone, (fun_mk (st := si_NoStone) li_NoStone cdi_NoStone_ ki_NoStone).binds (ps := ["self", "stone"]) fun _ _ _ _ _ _ us hl => match us, hl with | [_, _], _ => rfl, PySem.W.mg_of X G ac_NoStone⟩
    xn_NoStone_stone := xn_NoStone_stone
    e_NoJoint := ⟨⟨⟨_, _, _, _, _, _, _, _, _, _, _, _, _, _, _, x1_NoJoint, x2_NoJoint⟩, x3_NoJoint, x4_NoJoint, x5_NoJoint, x6_NoJoint⟩, x7_NoJoint, x8_NoJoint, fun_mk (st := si_NoJoint) li_NoJoint cdi_NoJoint_ ki_NoJoint, (fun_mk (st := si_NoJoint) li_NoJoint cdi_NoJoint_ ki_NoJoint).binds (ps := ["self", "joint"]) fun _ _ _ _ _ _ us hl => match us, hl with | [_, _], _ => rfl, PySem.W.mg_of X G ac_NoJoint⟩
    xn_NoJoint_joint := xn_NoJoint_joint
    e_NoCorner := ⟨⟨⟨_, _, _, _, _, _, _, _, _, _, _, _, _, _, _, x1_NoCorner, x2_NoCorner⟩, x3_NoCorner, x4_NoCorner, x5_NoCorner, x6_NoCorner⟩, x7_NoCorner, x8_NoCorner, fun_mk (st := si_NoCorner) li_NoCorner cdi_NoCorner_ ki_NoCorner, (fun_mk (st := si_NoCorner) li_NoCorner cdi_NoCorner_ ki_NoCorner).binds (ps := ["self", "corner"]) fun _ _ _ _ _ _ us hl => match us, hl with | [_, _], _ => rfl, PySem.W.mg_of X G ac_NoCorner⟩
    xn_NoCorner_corner := xn_NoCorner_corner
    e_BadBridge := ⟨⟨⟨_, _, _, _, _, _, _, _, _, _, _, _, _, _, _, x1_BadBridge, x2_BadBridge⟩, x3_BadBridge, x4_BadBridge, x5_BadBridge, x6_BadBridge⟩, x7_BadBridge, x8_BadBridge, fun_mk (st := si_BadBridge) li_BadBridge cdi_BadBridge_ ki_BadBridge, (fun_mk (st := si_BadBridge) li_BadBridge cdi_BadBridge_ ki_BadBridge).binds (ps := ["self", "what", "joint"]) fun _ _ _ _ _ _ us hl => match us, hl with | [_, _, _], _ => rfl, PySem.W.mg_of X G ac_BadBridge⟩
    xn_BadBridge_what := xn_BadBridge_what
    xn_BadBridge_joint := xn_BadBridge_joint
    e_NoPart := ⟨⟨⟨_, _, _, _, _, _, _, _, _, _, _, _, _, _, _, x1_NoPart, x2_NoPart⟩, x3_NoPart, x4_NoPart, x5_NoPart, x6_NoPart⟩, x7_NoPart, x8_NoPart, fun_mk (st := si_NoPart) li_NoPart cdi_NoPart_ ki_NoPart, (fun_mk (st := si_NoPart) li_NoPart cdi_NoPart_ ki_NoPart).binds (ps := ["self", "first", "last"]) fun _ _ _ _ _ _ us hl => match us, hl with | [_, _, _], _ => rfl, PySem.W.mg_of X G ac_NoPart⟩
    xn_NoPart_first := xn_NoPart_first
    xn_NoPart_last := xn_NoPart_last
    e_BadRing := ⟨⟨⟨_, _, _, _, _, _, _, _, _, _, _, _, _, _, _, x1_BadRing, x2_BadRing⟩, x3_BadRing, x4_BadRing, x5_BadRing, x6_BadRing⟩, x7_BadRing, x8_BadRing, fun_mk (st := si_BadRing) li_BadRing cdi_BadRing_ ki_BadRing, (fun_mk (st := si_BadRing) li_BadRing cdi_BadRing_ ki_BadRing).binds (ps := ["self", "what", "stone"]) fun _ _ _ _ _ _ us hl => match us, hl with | [_, _, _], _ => rfl, PySem.W.mg_of X G ac_BadRing⟩
    xn_BadRing_what := xn_BadRing_what
    xn_BadRing_stone := xn_BadRing_stone
    e_BadCut := ⟨⟨⟨_, _, _, _, _, _, _, _, _, _, _, _, _, _, _, x1_BadCut, x2_BadCut⟩, x3_BadCut, x4_BadCut, x5_BadCut, x6_BadCut⟩, x7_BadCut, x8_BadCut, fun_mk (st := si_BadCut) li_BadCut cdi_BadCut_ ki_BadCut, (fun_mk (st := si_BadCut) li_BadCut cdi_BadCut_ ki_BadCut).binds (ps := ["self", "one", "other"]) fun _ _ _ _ _ _ us hl => match us, hl with | [_, _, _], _ => rfl, PySem.W.mg_of X G ac_BadCut⟩
    xn_BadCut_one := xn_BadCut_one
    xn_BadCut_other := xn_BadCut_other
    e_BadThrust := ⟨⟨⟨_, _, _, _, _, _, _, _, _, _, _, _, _, _, _, x1_BadThrust, x2_BadThrust⟩, x3_BadThrust, x4_BadThrust, x5_BadThrust, x6_BadThrust⟩, x7_BadThrust, x8_BadThrust, fun_mk (st := si_BadThrust) li_BadThrust cdi_BadThrust_ ki_BadThrust, (fun_mk (st := si_BadThrust) li_BadThrust cdi_BadThrust_ ki_BadThrust).binds (ps := ["self"]) fun _ _ _ _ _ _ us hl => match us, hl with | [_], _ => rfl, PySem.W.mg_of X G ac_BadThrust⟩
    e_BadCorners := ⟨⟨⟨_, _, _, _, _, _, _, _, _, _, _, _, _, _, _, x1_BadCorners, x2_BadCorners⟩, x3_BadCorners, x4_BadCorners, x5_BadCorners, x6_BadCorners⟩, x7_BadCorners, x8_BadCorners, fun_mk (st := si_BadCorners) li_BadCorners cdi_BadCorners_ ki_BadCorners, (fun_mk (st := si_BadCorners) li_BadCorners cdi_BadCorners_ ki_BadCorners).binds (ps := ["self"]) fun _ _ _ _ _ _ us hl => match us, hl with | [_], _ => rfl, PySem.W.mg_of X G ac_BadCorners⟩
    e_InLine := ⟨⟨⟨_, _, _, _, _, _, _, _, _, _, _, _, _, _, _, x1_InLine, x2_InLine⟩, x3_InLine, x4_InLine, x5_InLine, x6_InLine⟩, x7_InLine, x8_InLine, fun_mk (st := si_InLine) li_InLine cdi_InLine_ ki_InLine, (fun_mk (st := si_InLine) li_InLine cdi_InLine_ ki_InLine).binds (ps := ["self", "corners"]) fun _ _ _ _ _ _ us hl => match us, hl with | [_, _], _ => rfl, PySem.W.mg_of X G ac_InLine⟩
    xn_InLine_corners := xn_InLine_corners
    e_BadMotion := ⟨⟨⟨_, _, _, _, _, _, _, _, _, _, _, _, _, _, _, x1_BadMotion, x2_BadMotion⟩, x3_BadMotion, x4_BadMotion, x5_BadMotion, x6_BadMotion⟩, x7_BadMotion, x8_BadMotion, fun_mk (st := si_BadMotion) li_BadMotion cdi_BadMotion_ ki_BadMotion, (fun_mk (st := si_BadMotion) li_BadMotion cdi_BadMotion_ ki_BadMotion).binds (ps := ["self"]) fun _ _ _ _ _ _ us hl => match us, hl with | [_], _ => rfl, PySem.W.mg_of X G ac_BadMotion⟩
    e_BadWeights := ⟨⟨⟨_, _, _, _, _, _, _, _, _, _, _, _, _, _, _, x1_BadWeights, x2_BadWeights⟩, x3_BadWeights, x4_BadWeights, x5_BadWeights, x6_BadWeights⟩, x7_BadWeights, x8_BadWeights, fun_mk (st := si_BadWeights) li_BadWeights cdi_BadWeights_ ki_BadWeights, (fun_mk (st := si_BadWeights) li_BadWeights cdi_BadWeights_ ki_BadWeights).binds (ps := ["self", "what"]) fun _ _ _ _ _ _ us hl => match us, hl with | [_, _], _ => rfl, PySem.W.mg_of X G ac_BadWeights⟩
    xn_BadWeights_what := xn_BadWeights_what
    e_Unbalanced := ⟨⟨⟨_, _, _, _, _, _, _, _, _, _, _, _, _, _, _, x1_Unbalanced, x2_Unbalanced⟩, x3_Unbalanced, x4_Unbalanced, x5_Unbalanced, x6_Unbalanced⟩, x7_Unbalanced, x8_Unbalanced, fun_mk (st := si_Unbalanced) li_Unbalanced cdi_Unbalanced_ ki_Unbalanced, (fun_mk (st := si_Unbalanced) li_Unbalanced cdi_Unbalanced_ ki_Unbalanced).binds (ps := ["self"]) fun _ _ _ _ _ _ us hl => match us, hl with | [_], _ => rfl, PySem.W.mg_of X G ac_Unbalanced⟩
    e_NotStanding := ⟨⟨⟨_, _, _, _, _, _, _, _, _, _, _, _, _, _, _, x1_NotStanding, x2_NotStanding⟩, x3_NotStanding, x4_NotStanding, x5_NotStanding, x6_NotStanding⟩, x7_NotStanding, x8_NotStanding, fun_mk (st := si_NotStanding) li_NotStanding cdi_NotStanding_ ki_NotStanding, (fun_mk (st := si_NotStanding) li_NotStanding cdi_NotStanding_ ki_NotStanding).binds (ps := ["self", "mechanism"]) fun _ _ _ _ _ _ us hl => match us, hl with | [_, _], _ => rfl, PySem.W.mg_of X G ac_NotStanding⟩
    xn_NotStanding_mechanism := xn_NotStanding_mechanism
    e_BadPalette := ⟨⟨⟨_, _, _, _, _, _, _, _, _, _, _, _, _, _, _, x1_BadPalette, x2_BadPalette⟩, x3_BadPalette, x4_BadPalette, x5_BadPalette, x6_BadPalette⟩, x7_BadPalette, x8_BadPalette, fun_mk (st := si_BadPalette) li_BadPalette cdi_BadPalette_ ki_BadPalette, (fun_mk (st := si_BadPalette) li_BadPalette cdi_BadPalette_ ki_BadPalette).binds (ps := ["self", "what"]) fun _ _ _ _ _ _ us hl => match us, hl with | [_, _], _ => rfl, PySem.W.mg_of X G ac_BadPalette⟩
    xn_BadPalette_what := xn_BadPalette_what
    e_BadMix := ⟨⟨⟨_, _, _, _, _, _, _, _, _, _, _, _, _, _, _, x1_BadMix, x2_BadMix⟩, x3_BadMix, x4_BadMix, x5_BadMix, x6_BadMix⟩, x7_BadMix, x8_BadMix, fun_mk (st := si_BadMix) li_BadMix cdi_BadMix_ ki_BadMix, (fun_mk (st := si_BadMix) li_BadMix cdi_BadMix_ ki_BadMix).binds (ps := ["self"]) fun _ _ _ _ _ _ us hl => match us, hl with | [_], _ => rfl, PySem.W.mg_of X G ac_BadMix⟩
    e_BadRows := ⟨⟨⟨_, _, _, _, _, _, _, _, _, _, _, _, _, _, _, x1_BadRows, x2_BadRows⟩, x3_BadRows, x4_BadRows, x5_BadRows, x6_BadRows⟩, x7_BadRows, x8_BadRows, fun_mk (st := si_BadRows) li_BadRows cdi_BadRows_ ki_BadRows, (fun_mk (st := si_BadRows) li_BadRows cdi_BadRows_ ki_BadRows).binds (ps := ["self"]) fun _ _ _ _ _ _ us hl => match us, hl with | [_], _ => rfl, PySem.W.mg_of X G ac_BadRows⟩
    e_BadCart := ⟨⟨⟨_, _, _, _, _, _, _, _, _, _, _, _, _, _, _, x1_BadCart, x2_BadCart⟩, x3_BadCart, x4_BadCart, x5_BadCart, x6_BadCart⟩, x7_BadCart, x8_BadCart, fun_mk (st := si_BadCart) li_BadCart cdi_BadCart_ ki_BadCart, (fun_mk (st := si_BadCart) li_BadCart cdi_BadCart_ ki_BadCart).binds (ps := ["self", "what"]) fun _ _ _ _ _ _ us hl => match us, hl with | [_, _], _ => rfl, PySem.W.mg_of X G ac_BadCart⟩
    xn_BadCart_what := xn_BadCart_what
    e_BadRule := ⟨⟨⟨_, _, _, _, _, _, _, _, _, _, _, _, _, _, _, x1_BadRule, x2_BadRule⟩, x3_BadRule, x4_BadRule, x5_BadRule, x6_BadRule⟩, x7_BadRule, x8_BadRule, fun_mk (st := si_BadRule) li_BadRule cdi_BadRule_ ki_BadRule, (fun_mk (st := si_BadRule) li_BadRule cdi_BadRule_ ki_BadRule).binds (ps := ["self", "what", "index"]) fun _ _ _ _ _ _ us hl => match us, hl with | [_, _, _], _ => rfl, PySem.W.mg_of X G ac_BadRule⟩
    xn_BadRule_what := xn_BadRule_what
    xn_BadRule_index := xn_BadRule_index
    e_NoCart := ⟨⟨⟨_, _, _, _, _, _, _, _, _, _, _, _, _, _, _, x1_NoCart, x2_NoCart⟩, x3_NoCart, x4_NoCart, x5_NoCart, x6_NoCart⟩, x7_NoCart, x8_NoCart, fun_mk (st := si_NoCart) li_NoCart cdi_NoCart_ ki_NoCart, (fun_mk (st := si_NoCart) li_NoCart cdi_NoCart_ ki_NoCart).binds (ps := ["self", "name"]) fun _ _ _ _ _ _ us hl => match us, hl with | [_, _], _ => rfl, PySem.W.mg_of X G ac_NoCart⟩
    xn_NoCart_name := xn_NoCart_name
    e_BadRoad := ⟨⟨⟨_, _, _, _, _, _, _, _, _, _, _, _, _, _, _, x1_BadRoad, x2_BadRoad⟩, x3_BadRoad, x4_BadRoad, x5_BadRoad, x6_BadRoad⟩, x7_BadRoad, x8_BadRoad, fun_mk (st := si_BadRoad) li_BadRoad cdi_BadRoad_ ki_BadRoad, (fun_mk (st := si_BadRoad) li_BadRoad cdi_BadRoad_ ki_BadRoad).binds (ps := ["self", "what"]) fun _ _ _ _ _ _ us hl => match us, hl with | [_, _], _ => rfl, PySem.W.mg_of X G ac_BadRoad⟩
    xn_BadRoad_what := xn_BadRoad_what
    e_NoLane := ⟨⟨⟨_, _, _, _, _, _, _, _, _, _, _, _, _, _, _, x1_NoLane, x2_NoLane⟩, x3_NoLane, x4_NoLane, x5_NoLane, x6_NoLane⟩, x7_NoLane, x8_NoLane, fun_mk (st := si_NoLane) li_NoLane cdi_NoLane_ ki_NoLane, (fun_mk (st := si_NoLane) li_NoLane cdi_NoLane_ ki_NoLane).binds (ps := ["self", "lane"]) fun _ _ _ _ _ _ us hl => match us, hl with | [_, _], _ => rfl, PySem.W.mg_of X G ac_NoLane⟩
    xn_NoLane_lane := xn_NoLane_lane
    e_BadLimit := ⟨⟨⟨_, _, _, _, _, _, _, _, _, _, _, _, _, _, _, x1_BadLimit, x2_BadLimit⟩, x3_BadLimit, x4_BadLimit, x5_BadLimit, x6_BadLimit⟩, x7_BadLimit, x8_BadLimit, fun_mk (st := si_BadLimit) li_BadLimit cdi_BadLimit_ ki_BadLimit, (fun_mk (st := si_BadLimit) li_BadLimit cdi_BadLimit_ ki_BadLimit).binds (ps := ["self", "what"]) fun _ _ _ _ _ _ us hl => match us, hl with | [_, _], _ => rfl, PySem.W.mg_of X G ac_BadLimit⟩
    xn_BadLimit_what := xn_BadLimit_what
    e_NotSafe := ⟨⟨⟨_, _, _, _, _, _, _, _, _, _, _, _, _, _, _, x1_NotSafe, x2_NotSafe⟩, x3_NotSafe, x4_NotSafe, x5_NotSafe, x6_NotSafe⟩, x7_NotSafe, x8_NotSafe, fun_mk (st := si_NotSafe) li_NotSafe cdi_NotSafe_ ki_NotSafe, (fun_mk (st := si_NotSafe) li_NotSafe cdi_NotSafe_ ki_NotSafe).binds (ps := ["self", "mechanism"]) fun _ _ _ _ _ _ us hl => match us, hl with | [_, _], _ => rfl, PySem.W.mg_of X G ac_NotSafe⟩
    xn_NotSafe_mechanism := xn_NotSafe_mechanism
    e_BadYard := ⟨⟨⟨_, _, _, _, _, _, _, _, _, _, _, _, _, _, _, x1_BadYard, x2_BadYard⟩, x3_BadYard, x4_BadYard, x5_BadYard, x6_BadYard⟩, x7_BadYard, x8_BadYard, fun_mk (st := si_BadYard) li_BadYard cdi_BadYard_ ki_BadYard, (fun_mk (st := si_BadYard) li_BadYard cdi_BadYard_ ki_BadYard).binds (ps := ["self", "what"]) fun _ _ _ _ _ _ us hl => match us, hl with | [_, _], _ => rfl, PySem.W.mg_of X G ac_BadYard⟩
    xn_BadYard_what := xn_BadYard_what
    e_BadStage := ⟨⟨⟨_, _, _, _, _, _, _, _, _, _, _, _, _, _, _, x1_BadStage, x2_BadStage⟩, x3_BadStage, x4_BadStage, x5_BadStage, x6_BadStage⟩, x7_BadStage, x8_BadStage, fun_mk (st := si_BadStage) li_BadStage cdi_BadStage_ ki_BadStage, (fun_mk (st := si_BadStage) li_BadStage cdi_BadStage_ ki_BadStage).binds (ps := ["self"]) fun _ _ _ _ _ _ us hl => match us, hl with | [_], _ => rfl, PySem.W.mg_of X G ac_BadStage⟩
    e_BadChange := ⟨⟨⟨_, _, _, _, _, _, _, _, _, _, _, _, _, _, _, x1_BadChange, x2_BadChange⟩, x3_BadChange, x4_BadChange, x5_BadChange, x6_BadChange⟩, x7_BadChange, x8_BadChange, fun_mk (st := si_BadChange) li_BadChange cdi_BadChange_ ki_BadChange, (fun_mk (st := si_BadChange) li_BadChange cdi_BadChange_ ki_BadChange).binds (ps := ["self", "what"]) fun _ _ _ _ _ _ us hl => match us, hl with | [_, _], _ => rfl, PySem.W.mg_of X G ac_BadChange⟩
    xn_BadChange_what := xn_BadChange_what
    e_NoChange := ⟨⟨⟨_, _, _, _, _, _, _, _, _, _, _, _, _, _, _, x1_NoChange, x2_NoChange⟩, x3_NoChange, x4_NoChange, x5_NoChange, x6_NoChange⟩, x7_NoChange, x8_NoChange, fun_mk (st := si_NoChange) li_NoChange cdi_NoChange_ ki_NoChange, (fun_mk (st := si_NoChange) li_NoChange cdi_NoChange_ ki_NoChange).binds (ps := ["self", "number"]) fun _ _ _ _ _ _ us hl => match us, hl with | [_, _], _ => rfl, PySem.W.mg_of X G ac_NoChange⟩
    xn_NoChange_number := xn_NoChange_number
    e_BadRow := ⟨⟨⟨_, _, _, _, _, _, _, _, _, _, _, _, _, _, _, x1_BadRow, x2_BadRow⟩, x3_BadRow, x4_BadRow, x5_BadRow, x6_BadRow⟩, x7_BadRow, x8_BadRow, fun_mk (st := si_BadRow) li_BadRow cdi_BadRow_ ki_BadRow, (fun_mk (st := si_BadRow) li_BadRow cdi_BadRow_ ki_BadRow).binds (ps := ["self", "row", "what"]) fun _ _ _ _ _ _ us hl => match us, hl with | [_, _, _], _ => rfl, PySem.W.mg_of X G ac_BadRow⟩
    xn_BadRow_row := xn_BadRow_row
    xn_BadRow_what := xn_BadRow_what
    xm_BridgeError_NoPart := PySem.W.exm_ref e1_NoPart e2_NoPart e3_NoPart es_BridgeError_NoPart
    xm_BadRatio_NoPart := PySem.W.exm_ref e1_NoPart e2_NoPart e3_NoPart es_BadRatio_NoPart
    xm_BadForce_NoPart := PySem.W.exm_ref e1_NoPart e2_NoPart e3_NoPart es_BadForce_NoPart
    xm_BadLoad_NoPart := PySem.W.exm_ref e1_NoPart e2_NoPart e3_NoPart es_BadLoad_NoPart
    xm_OtherSize_NoPart := PySem.W.exm_ref e1_NoPart e2_NoPart e3_NoPart es_OtherSize_NoPart
    xm_NoStone_NoPart := PySem.W.exm_ref e1_NoPart e2_NoPart e3_NoPart es_NoStone_NoPart
    xm_NoJoint_NoPart := PySem.W.exm_ref e1_NoPart e2_NoPart e3_NoPart es_NoJoint_NoPart
    xm_NoCorner_NoPart := PySem.W.exm_ref e1_NoPart e2_NoPart e3_NoPart es_NoCorner_NoPart
    xm_BadBridge_NoPart := PySem.W.exm_ref e1_NoPart e2_NoPart e3_NoPart es_BadBridge_NoPart
    xm_NoPart_NoPart := PySem.W.exm_ref e1_NoPart e2_NoPart e3_NoPart es_NoPart_NoPart
    xm_BadRing_NoPart := PySem.W.exm_ref e1_NoPart e2_NoPart e3_NoPart es_BadRing_NoPart
    xm_BadCut_NoPart := PySem.W.exm_ref e1_NoPart e2_NoPart e3_NoPart es_BadCut_NoPart
    xm_BadThrust_NoPart := PySem.W.exm_ref e1_NoPart e2_NoPart e3_NoPart es_BadThrust_NoPart
    xm_BadCorners_NoPart := PySem.W.exm_ref e1_NoPart e2_NoPart e3_NoPart es_BadCorners_NoPart
    xm_InLine_NoPart := PySem.W.exm_ref e1_NoPart e2_NoPart e3_NoPart es_InLine_NoPart
    xm_BadMotion_NoPart := PySem.W.exm_ref e1_NoPart e2_NoPart e3_NoPart es_BadMotion_NoPart
    xm_BadWeights_NoPart := PySem.W.exm_ref e1_NoPart e2_NoPart e3_NoPart es_BadWeights_NoPart
    xm_Unbalanced_NoPart := PySem.W.exm_ref e1_NoPart e2_NoPart e3_NoPart es_Unbalanced_NoPart
    xm_NotStanding_NoPart := PySem.W.exm_ref e1_NoPart e2_NoPart e3_NoPart es_NotStanding_NoPart
    xm_BadPalette_NoPart := PySem.W.exm_ref e1_NoPart e2_NoPart e3_NoPart es_BadPalette_NoPart
    xm_BadMix_NoPart := PySem.W.exm_ref e1_NoPart e2_NoPart e3_NoPart es_BadMix_NoPart
    xm_BadRows_NoPart := PySem.W.exm_ref e1_NoPart e2_NoPart e3_NoPart es_BadRows_NoPart
    xm_BadCart_NoPart := PySem.W.exm_ref e1_NoPart e2_NoPart e3_NoPart es_BadCart_NoPart
    xm_BadRule_NoPart := PySem.W.exm_ref e1_NoPart e2_NoPart e3_NoPart es_BadRule_NoPart
    xm_NoCart_NoPart := PySem.W.exm_ref e1_NoPart e2_NoPart e3_NoPart es_NoCart_NoPart
    xm_BadRoad_NoPart := PySem.W.exm_ref e1_NoPart e2_NoPart e3_NoPart es_BadRoad_NoPart
    xm_NoLane_NoPart := PySem.W.exm_ref e1_NoPart e2_NoPart e3_NoPart es_NoLane_NoPart
    xm_BadLimit_NoPart := PySem.W.exm_ref e1_NoPart e2_NoPart e3_NoPart es_BadLimit_NoPart
    xm_NotSafe_NoPart := PySem.W.exm_ref e1_NoPart e2_NoPart e3_NoPart es_NotSafe_NoPart
    xm_BadYard_NoPart := PySem.W.exm_ref e1_NoPart e2_NoPart e3_NoPart es_BadYard_NoPart
    xm_BadStage_NoPart := PySem.W.exm_ref e1_NoPart e2_NoPart e3_NoPart es_BadStage_NoPart
    xm_BadChange_NoPart := PySem.W.exm_ref e1_NoPart e2_NoPart e3_NoPart es_BadChange_NoPart
    xm_NoChange_NoPart := PySem.W.exm_ref e1_NoPart e2_NoPart e3_NoPart es_NoChange_NoPart
    xm_BadRow_NoPart := PySem.W.exm_ref e1_NoPart e2_NoPart e3_NoPart es_BadRow_NoPart
    xm_BridgeError_BridgeError := PySem.W.exm_ref e1_BridgeError e2_BridgeError e3_BridgeError es_BridgeError_BridgeError
    xm_BadRatio_BridgeError := PySem.W.exm_ref e1_BridgeError e2_BridgeError e3_BridgeError es_BadRatio_BridgeError
    xm_BadForce_BridgeError := PySem.W.exm_ref e1_BridgeError e2_BridgeError e3_BridgeError es_BadForce_BridgeError
    xm_BadLoad_BridgeError := PySem.W.exm_ref e1_BridgeError e2_BridgeError e3_BridgeError es_BadLoad_BridgeError
    xm_OtherSize_BridgeError := PySem.W.exm_ref e1_BridgeError e2_BridgeError e3_BridgeError es_OtherSize_BridgeError
    xm_NoStone_BridgeError := PySem.W.exm_ref e1_BridgeError e2_BridgeError e3_BridgeError es_NoStone_BridgeError
    xm_NoJoint_BridgeError := PySem.W.exm_ref e1_BridgeError e2_BridgeError e3_BridgeError es_NoJoint_BridgeError
    xm_NoCorner_BridgeError := PySem.W.exm_ref e1_BridgeError e2_BridgeError e3_BridgeError es_NoCorner_BridgeError
    xm_BadBridge_BridgeError := PySem.W.exm_ref e1_BridgeError e2_BridgeError e3_BridgeError es_BadBridge_BridgeError
    xm_NoPart_BridgeError := PySem.W.exm_ref e1_BridgeError e2_BridgeError e3_BridgeError es_NoPart_BridgeError
    xm_BadRing_BridgeError := PySem.W.exm_ref e1_BridgeError e2_BridgeError e3_BridgeError es_BadRing_BridgeError
    xm_BadCut_BridgeError := PySem.W.exm_ref e1_BridgeError e2_BridgeError e3_BridgeError es_BadCut_BridgeError
    xm_BadThrust_BridgeError := PySem.W.exm_ref e1_BridgeError e2_BridgeError e3_BridgeError es_BadThrust_BridgeError
    xm_BadCorners_BridgeError := PySem.W.exm_ref e1_BridgeError e2_BridgeError e3_BridgeError es_BadCorners_BridgeError
    xm_InLine_BridgeError := PySem.W.exm_ref e1_BridgeError e2_BridgeError e3_BridgeError es_InLine_BridgeError
    xm_BadMotion_BridgeError := PySem.W.exm_ref e1_BridgeError e2_BridgeError e3_BridgeError es_BadMotion_BridgeError
    xm_BadWeights_BridgeError := PySem.W.exm_ref e1_BridgeError e2_BridgeError e3_BridgeError es_BadWeights_BridgeError
    xm_Unbalanced_BridgeError := PySem.W.exm_ref e1_BridgeError e2_BridgeError e3_BridgeError es_Unbalanced_BridgeError
    xm_NotStanding_BridgeError := PySem.W.exm_ref e1_BridgeError e2_BridgeError e3_BridgeError es_NotStanding_BridgeError
    xm_BadPalette_BridgeError := PySem.W.exm_ref e1_BridgeError e2_BridgeError e3_BridgeError es_BadPalette_BridgeError
    xm_BadMix_BridgeError := PySem.W.exm_ref e1_BridgeError e2_BridgeError e3_BridgeError es_BadMix_BridgeError
    xm_BadRows_BridgeError := PySem.W.exm_ref e1_BridgeError e2_BridgeError e3_BridgeError es_BadRows_BridgeError
    xm_BadCart_BridgeError := PySem.W.exm_ref e1_BridgeError e2_BridgeError e3_BridgeError es_BadCart_BridgeError
    xm_BadRule_BridgeError := PySem.W.exm_ref e1_BridgeError e2_BridgeError e3_BridgeError es_BadRule_BridgeError
    xm_NoCart_BridgeError := PySem.W.exm_ref e1_BridgeError e2_BridgeError e3_BridgeError es_NoCart_BridgeError
    xm_BadRoad_BridgeError := PySem.W.exm_ref e1_BridgeError e2_BridgeError e3_BridgeError es_BadRoad_BridgeError
    xm_NoLane_BridgeError := PySem.W.exm_ref e1_BridgeError e2_BridgeError e3_BridgeError es_NoLane_BridgeError
    xm_BadLimit_BridgeError := PySem.W.exm_ref e1_BridgeError e2_BridgeError e3_BridgeError es_BadLimit_BridgeError
    xm_NotSafe_BridgeError := PySem.W.exm_ref e1_BridgeError e2_BridgeError e3_BridgeError es_NotSafe_BridgeError
    xm_BadYard_BridgeError := PySem.W.exm_ref e1_BridgeError e2_BridgeError e3_BridgeError es_BadYard_BridgeError
    xm_BadStage_BridgeError := PySem.W.exm_ref e1_BridgeError e2_BridgeError e3_BridgeError es_BadStage_BridgeError
    xm_BadChange_BridgeError := PySem.W.exm_ref e1_BridgeError e2_BridgeError e3_BridgeError es_BadChange_BridgeError
    xm_NoChange_BridgeError := PySem.W.exm_ref e1_BridgeError e2_BridgeError e3_BridgeError es_NoChange_BridgeError
    xm_BadRow_BridgeError := PySem.W.exm_ref e1_BridgeError e2_BridgeError e3_BridgeError es_BadRow_BridgeError
    mo_BridgeError := mo_BridgeError
    mo_BadRatio := mo_BadRatio
    mo_BadForce := mo_BadForce
    mo_BadLoad := mo_BadLoad
    mo_OtherSize := mo_OtherSize
    mo_NoStone := mo_NoStone
    mo_NoJoint := mo_NoJoint
    mo_NoCorner := mo_NoCorner
    mo_BadBridge := mo_BadBridge
    mo_NoPart := mo_NoPart
    mo_BadRing := mo_BadRing
    mo_BadCut := mo_BadCut
    mo_BadThrust := mo_BadThrust
    mo_BadCorners := mo_BadCorners
    mo_InLine := mo_InLine
    mo_BadMotion := mo_BadMotion
    mo_BadWeights := mo_BadWeights
    mo_Unbalanced := mo_Unbalanced
    mo_NotStanding := mo_NotStanding
    mo_BadPalette := mo_BadPalette
    mo_BadMix := mo_BadMix
    mo_BadRows := mo_BadRows
    mo_BadCart := mo_BadCart
    mo_BadRule := mo_BadRule
    mo_NoCart := mo_NoCart
    mo_BadRoad := mo_BadRoad
    mo_NoLane := mo_NoLane
    mo_BadLimit := mo_BadLimit
    mo_NotSafe := mo_NotSafe
    mo_BadYard := mo_BadYard
    mo_BadStage := mo_BadStage
    mo_BadChange := mo_BadChange
    mo_NoChange := mo_NoChange
    mo_BadRow := mo_BadRow
    xnd := xnd
    y_BridgeError := ⟨y1_BridgeError, y2_BridgeError, y3_BridgeError, y4_BridgeError, y5_BridgeError, y6_BridgeError, y7_BridgeError, y8_BridgeError⟩
    y_BadRatio := ⟨y1_BadRatio, y2_BadRatio, y3_BadRatio, y4_BadRatio, y5_BadRatio, y6_BadRatio, y7_BadRatio, y8_BadRatio⟩
    y_BadForce := ⟨y1_BadForce, y2_BadForce, y3_BadForce, y4_BadForce, y5_BadForce, y6_BadForce, y7_BadForce, y8_BadForce⟩
    y_BadLoad := ⟨y1_BadLoad, y2_BadLoad, y3_BadLoad, y4_BadLoad, y5_BadLoad, y6_BadLoad, y7_BadLoad, y8_BadLoad⟩
    y_OtherSize := ⟨y1_OtherSize, y2_OtherSize, y3_OtherSize, y4_OtherSize, y5_OtherSize, y6_OtherSize, y7_OtherSize, y8_OtherSize⟩
    y_NoStone := ⟨y1_NoStone, y2_NoStone, y3_NoStone, y4_NoStone, y5_NoStone, y6_NoStone, y7_NoStone, y8_NoStone⟩
    y_NoJoint := ⟨y1_NoJoint, y2_NoJoint, y3_NoJoint, y4_NoJoint, y5_NoJoint, y6_NoJoint, y7_NoJoint, y8_NoJoint⟩
    y_NoCorner := ⟨y1_NoCorner, y2_NoCorner, y3_NoCorner, y4_NoCorner, y5_NoCorner, y6_NoCorner, y7_NoCorner, y8_NoCorner⟩
    y_BadBridge := ⟨y1_BadBridge, y2_BadBridge, y3_BadBridge, y4_BadBridge, y5_BadBridge, y6_BadBridge, y7_BadBridge, y8_BadBridge⟩
    y_NoPart := ⟨y1_NoPart, y2_NoPart, y3_NoPart, y4_NoPart, y5_NoPart, y6_NoPart, y7_NoPart, y8_NoPart⟩
    y_BadRing := ⟨y1_BadRing, y2_BadRing, y3_BadRing, y4_BadRing, y5_BadRing, y6_BadRing, y7_BadRing, y8_BadRing⟩
    y_BadCut := ⟨y1_BadCut, y2_BadCut, y3_BadCut, y4_BadCut, y5_BadCut, y6_BadCut, y7_BadCut, y8_BadCut⟩
    y_BadThrust := ⟨y1_BadThrust, y2_BadThrust, y3_BadThrust, y4_BadThrust, y5_BadThrust, y6_BadThrust, y7_BadThrust, y8_BadThrust⟩
    y_BadCorners := ⟨y1_BadCorners, y2_BadCorners, y3_BadCorners, y4_BadCorners, y5_BadCorners, y6_BadCorners, y7_BadCorners, y8_BadCorners⟩
    y_InLine := ⟨y1_InLine, y2_InLine, y3_InLine, y4_InLine, y5_InLine, y6_InLine, y7_InLine, y8_InLine⟩
    y_BadMotion := ⟨y1_BadMotion, y2_BadMotion, y3_BadMotion, y4_BadMotion, y5_BadMotion, y6_BadMotion, y7_BadMotion, y8_BadMotion⟩
    y_BadWeights := ⟨y1_BadWeights, y2_BadWeights, y3_BadWeights, y4_BadWeights, y5_BadWeights, y6_BadWeights, y7_BadWeights, y8_BadWeights⟩
    y_Unbalanced := ⟨y1_Unbalanced, y2_Unbalanced, y3_Unbalanced, y4_Unbalanced, y5_Unbalanced, y6_Unbalanced, y7_Unbalanced, y8_Unbalanced⟩
    y_NotStanding := ⟨y1_NotStanding, y2_NotStanding, y3_NotStanding, y4_NotStanding, y5_NotStanding, y6_NotStanding, y7_NotStanding, y8_NotStanding⟩
    y_BadPalette := ⟨y1_BadPalette, y2_BadPalette, y3_BadPalette, y4_BadPalette, y5_BadPalette, y6_BadPalette, y7_BadPalette, y8_BadPalette⟩
    y_BadMix := ⟨y1_BadMix, y2_BadMix, y3_BadMix, y4_BadMix, y5_BadMix, y6_BadMix, y7_BadMix, y8_BadMix⟩
    y_BadRows := ⟨y1_BadRows, y2_BadRows, y3_BadRows, y4_BadRows, y5_BadRows, y6_BadRows, y7_BadRows, y8_BadRows⟩
    y_BadCart := ⟨y1_BadCart, y2_BadCart, y3_BadCart, y4_BadCart, y5_BadCart, y6_BadCart, y7_BadCart, y8_BadCart⟩
    y_BadRule := ⟨y1_BadRule, y2_BadRule, y3_BadRule, y4_BadRule, y5_BadRule, y6_BadRule, y7_BadRule, y8_BadRule⟩
    y_NoCart := ⟨y1_NoCart, y2_NoCart, y3_NoCart, y4_NoCart, y5_NoCart, y6_NoCart, y7_NoCart, y8_NoCart⟩
    y_BadRoad := ⟨y1_BadRoad, y2_BadRoad, y3_BadRoad, y4_BadRoad, y5_BadRoad, y6_BadRoad, y7_BadRoad, y8_BadRoad⟩
    y_NoLane := ⟨y1_NoLane, y2_NoLane, y3_NoLane, y4_NoLane, y5_NoLane, y6_NoLane, y7_NoLane, y8_NoLane⟩
    y_BadLimit := ⟨y1_BadLimit, y2_BadLimit, y3_BadLimit, y4_BadLimit, y5_BadLimit, y6_BadLimit, y7_BadLimit, y8_BadLimit⟩
    y_NotSafe := ⟨y1_NotSafe, y2_NotSafe, y3_NotSafe, y4_NotSafe, y5_NotSafe, y6_NotSafe, y7_NotSafe, y8_NotSafe⟩
    y_BadYard := ⟨y1_BadYard, y2_BadYard, y3_BadYard, y4_BadYard, y5_BadYard, y6_BadYard, y7_BadYard, y8_BadYard⟩
    y_BadStage := ⟨y1_BadStage, y2_BadStage, y3_BadStage, y4_BadStage, y5_BadStage, y6_BadStage, y7_BadStage, y8_BadStage⟩
    y_BadChange := ⟨y1_BadChange, y2_BadChange, y3_BadChange, y4_BadChange, y5_BadChange, y6_BadChange, y7_BadChange, y8_BadChange⟩
    y_NoChange := ⟨y1_NoChange, y2_NoChange, y3_NoChange, y4_NoChange, y5_NoChange, y6_NoChange, y7_NoChange, y8_NoChange⟩
    y_BadRow := ⟨y1_BadRow, y2_BadRow, y3_BadRow, y4_BadRow, y5_BadRow, y6_BadRow, y7_BadRow, y8_BadRow⟩
    n_ValueError := PySem.W.mg_none_of X G z_ValueError
    n_int := PySem.W.mg_none_of X G z_int
    n_isinstance := PySem.W.mg_none_of X G z_isinstance
    n_len := PySem.W.mg_none_of X G z_len
    n_list := PySem.W.mg_none_of X G z_list
    n_range := PySem.W.mg_none_of X G z_range
    n_repr := PySem.W.mg_none_of X G z_repr
    n_str := PySem.W.mg_none_of X G z_str }
  exact ⟨(PySem.W.fnOf "law" "law" (defArgs s_law) (defBody s_law) (defScope s_law) .none kV_law dc_law pm_law an_law cd_law ct_law), fun s v => .of_eq rfl, fun base _ _ => ok_law good T⟩
theorem no_way (P : Program) (w : World) (H : Hp) (s : Shared) (e : Value) (s' : Shared) : L2.CX P w [] H s (fun _ _ _ => False) e s' → False := fun z => by
  obtain ⟨_, _, _, _, _, _, _, _, _, _, _, _, q⟩ := z
  exact q
theorem walk {l : PySem.W.OpenLaw} {q : Program} {loose : List Str} {XP : (Str → Option Value) → Heap → Prop} {YP : World → Heap → Prop} {d : DefRec} {K : Params → PySem.W.Frag} (hn : l.most = some 63) (hdf : d.params.defaults = [])
    (hY : ∀ (w : World) (h : Heap), YP w h → (K w.params).In h)
    (F : ∀ (w : World) (mg : Str → Option Value) (fa : Addr) (h : Heap), (K w.params).In h → h.Ns mainGlobals mg → mg d.name = some (.ref fa) →
      ∃ fd : FuncData, (∀ (s : Shared) (u : Value), BindsTo s fd ⟨[u], []⟩ [("_law_script", u)]) ∧ ∀ base : Heap, (K w.params).In base → base.Ns mainGlobals mg → FnG l.prog w (K w.params) mg base (L2.CX l.prog w) 4 fa fd ["_law_script"] (spLaw (K w.params))) :
    PySem.W.WalkO q loose XP YP l.row.toRowW d [] (fun f vs => PySem.call f vs) :=
  walk_ofG (n := 63) (k := 4) (x := "_law_script") (CX := fun w => L2.CX l.prog w) (sp := fun w => spLaw (K w.params)) hn (by decide) hdf ⟨rfl, by decide, by decide⟩ hY F (fun _ _ a ns hl _ hS => ⟨a, ns, rfl, hS, hl, fun _ => rfl⟩) fun w H s e s' z => no_way l.prog w H s e s' z
end K00
namespace K00
open PySem L2 PySem.Spec PyProof.Rows Tw
theorem facts {l : PySem.W.OpenLaw} {w : World} {K : PySem.W.Frag} {h : Heap} {mg : Str → Option Value} {fa : Addr} (X : K.In h) (G : h.Ns mainGlobals mg) (hfa : mg "law" = some (.ref fa)) (c : SaysC [] fns K) (ca : SaysC chksa_ [] K) :
    ∃ fd : FuncData, (∀ (s : Shared) (v : Value), BindsTo s fd ⟨[v], []⟩ [("_law_script", v)]) ∧ ∀ base : Heap, K.In base → base.Ns mainGlobals mg → FnG l.prog w K mg base (L2.CX l.prog w) 4 fa fd ["_law_script"] (spLaw K) := by
  have p0 : P0 K := of_decide_eq_true (ca.fact 0 (f := fun K => decide (P0 K)) rfl)
  obtain ⟨a__law_take, k__law_take, a__law_of, k__law_of, a__law_value, k__law_value, a__law_pen, k__law_pen, a__law_first, k__law_first⟩ := p0
  have p1 : P1 K := of_decide_eq_true (ca.fact 1 (f := fun K => decide (P1 K)) rfl)
  obtain ⟨a__law_second, k__law_second, a__law_third, k__law_third, a__law_classes, k__law_classes, a__law_by_names, k__law_by_names, a__law_caught, k__law_caught⟩ := p1
  have p2 : P2 K := of_decide_eq_true (ca.fact 2 (f := fun K => decide (P2 K)) rfl)
  obtain ⟨a_law, k_law, ac_BridgeError, ac_BadRatio, ac_BadForce, ac_BadLoad, ac_OtherSize, ac_NoStone, ac_NoJoint, ac_NoCorner⟩ := p2
  have p3 : P3 K := of_decide_eq_true (ca.fact 3 (f := fun K => decide (P3 K)) rfl)
  obtain ⟨ac_BadBridge, ac_NoPart, ac_BadRing, ac_BadCut, ac_BadThrust, ac_BadCorners, ac_InLine, ac_BadMotion, ac_BadWeights, ac_Unbalanced⟩ := p3
  have p4 : P4 K := of_decide_eq_true (ca.fact 4 (f := fun K => decide (P4 K)) rfl)
  obtain ⟨ac_NotStanding, ac_BadPalette, ac_BadMix, ac_BadRows, ac_BadCart, ac_BadRule, ac_NoCart, ac_BadRoad, ac_NoLane, ac_BadLimit⟩ := p4
  have p5 : P5 K := of_decide_eq_true (ca.fact 5 (f := fun K => decide (P5 K)) rfl)
  obtain ⟨ac_NotSafe, ac_BadYard, ac_BadStage, ac_BadChange, ac_NoChange, ac_BadRow, xx_BridgeError, x3_BridgeError, x4_BridgeError, x5_BridgeError⟩ := p5
  have p6 : P6 K := of_decide_eq_true (ca.fact 6 (f := fun K => decide (P6 K)) rfl)
  obtain ⟨x6_BridgeError, x7_BridgeError, x8_BridgeError, ki_BridgeError, xx_BadRatio, x3_BadRatio, x4_BadRatio, x5_BadRatio, x6_BadRatio, x7_BadRatio⟩ := p6
  have p7 : P7 K := of_decide_eq_true (ca.fact 7 (f := fun K => decide (P7 K)) rfl)
  obtain ⟨x8_BadRatio, ki_BadRatio, xx_BadForce, x3_BadForce, x4_BadForce, x5_BadForce, x6_BadForce, x7_BadForce, x8_BadForce, ki_BadForce⟩ := p7
  have p8 : P8 K := of_decide_eq_true (ca.fact 8 (f := fun K => decide (P8 K)) rfl)
  obtain ⟨xn_BadForce_what, xx_BadLoad, x3_BadLoad, x4_BadLoad, x5_BadLoad, x6_BadLoad, x7_BadLoad, x8_BadLoad, ki_BadLoad, xn_BadLoad_what⟩ := p8
  have p9 : P9 K := of_decide_eq_true (ca.fact 9 (f := fun K => decide (P9 K)) rfl)
  obtain ⟨xx_OtherSize, x3_OtherSize, x4_OtherSize, x5_OtherSize, x6_OtherSize, x7_OtherSize, x8_OtherSize, ki_OtherSize, xx_NoStone, x3_NoStone⟩ := p9
  have p10 : P10 K := of_decide_eq_true (ca.fact 10 (f := fun K => decide (P10 K)) rfl)
  obtain ⟨x4_NoStone, x5_NoStone, x6_NoStone, x7_NoStone, x8_NoStone, ki_NoStone, xn_NoStone_stone, xx_NoJoint, x3_NoJoint, x4_NoJoint⟩ := p10
  have p11 : P11 K := of_decide_eq_true (ca.fact 11 (f := fun K => decide (P11 K)) rfl)
  obtain ⟨x5_NoJoint, x6_NoJoint, x7_NoJoint, x8_NoJoint, ki_NoJoint, xn_NoJoint_joint, xx_NoCorner, x3_NoCorner, x4_NoCorner, x5_NoCorner⟩ := p11
  have p12 : P12 K := of_decide_eq_true (ca.fact 12 (f := fun K => decide (P12 K)) rfl)
  obtain ⟨x6_NoCorner, x7_NoCorner, x8_NoCorner, ki_NoCorner, xn_NoCorner_corner, xx_BadBridge, x3_BadBridge, x4_BadBridge, x5_BadBridge, x6_BadBridge⟩ := p12
  have p13 : P13 K := of_decide_eq_true (ca.fact 13 (f := fun K => decide (P13 K)) rfl)
  obtain ⟨x7_BadBridge, x8_BadBridge, ki_BadBridge, xn_BadBridge_what, xn_BadBridge_joint, xx_NoPart, x3_NoPart, x4_NoPart, x5_NoPart, x6_NoPart⟩ := p13
  have p14 : P14 K := of_decide_eq_true (ca.fact 14 (f := fun K => decide (P14 K)) rfl)
  obtain ⟨x7_NoPart, x8_NoPart, ki_NoPart, xn_NoPart_first, xn_NoPart_last, xx_BadRing, x3_BadRing, x4_BadRing, x5_BadRing, x6_BadRing⟩ := p14
  have p15 : P15 K := of_decide_eq_true (ca.fact 15 (f := fun K => decide (P15 K)) rfl)
  obtain ⟨x7_BadRing, x8_BadRing, ki_BadRing, xn_BadRing_what, xn_BadRing_stone, xx_BadCut, x3_BadCut, x4_BadCut, x5_BadCut, x6_BadCut⟩ := p15
  have p16 : P16 K := of_decide_eq_true (ca.fact 16 (f := fun K => decide (P16 K)) rfl)
  obtain ⟨x7_BadCut, x8_BadCut, ki_BadCut, xn_BadCut_one, xn_BadCut_other, xx_BadThrust, x3_BadThrust, x4_BadThrust, x5_BadThrust, x6_BadThrust⟩ := p16
  have p17 : P17 K := of_decide_eq_true (ca.fact 17 (f := fun K => decide (P17 K)) rfl)
  obtain ⟨x7_BadThrust, x8_BadThrust, ki_BadThrust, xx_BadCorners, x3_BadCorners, x4_BadCorners, x5_BadCorners, x6_BadCorners, x7_BadCorners, x8_BadCorners⟩ := p17
  have p18 : P18 K := of_decide_eq_true (ca.fact 18 (f := fun K => decide (P18 K)) rfl)
  obtain ⟨ki_BadCorners, xx_InLine, x3_InLine, x4_InLine, x5_InLine, x6_InLine, x7_InLine, x8_InLine, ki_InLine, xn_InLine_corners⟩ := p18
  have p19 : P19 K := of_decide_eq_true (ca.fact 19 (f := fun K => decide (P19 K)) rfl)
  obtain ⟨xx_BadMotion, x3_BadMotion, x4_BadMotion, x5_BadMotion, x6_BadMotion, x7_BadMotion, x8_BadMotion, ki_BadMotion, xx_BadWeights, x3_BadWeights⟩ := p19
  have p20 : P20 K := of_decide_eq_true (ca.fact 20 (f := fun K => decide (P20 K)) rfl)
  obtain ⟨x4_BadWeights, x5_BadWeights, x6_BadWeights, x7_BadWeights, x8_BadWeights, ki_BadWeights, xn_BadWeights_what, xx_Unbalanced, x3_Unbalanced, x4_Unbalanced⟩ := p20
  have p21 : P21 K := of_decide_eq_true (ca.fact 21 (f := fun K => decide (P21 K)) rfl)
  obtain ⟨x5_Unbalanced, x6_Unbalanced, x7_Unbalanced, x8_Unbalanced, ki_Unbalanced, xx_NotStanding, x3_NotStanding, x4_NotStanding, x5_NotStanding, x6_NotStanding⟩ := p21
  have p22 : P22 K := of_decide_eq_true (ca.fact 22 (f := fun K => decide (P22 K)) rfl)
  obtain ⟨x7_NotStanding, x8_NotStanding, ki_NotStanding, xn_NotStanding_mechanism, xx_BadPalette, x3_BadPalette, x4_BadPalette, x5_BadPalette, x6_BadPalette, x7_BadPalette⟩ := p22
  have p23 : P23 K := of_decide_eq_true (ca.fact 23 (f := fun K => decide (P23 K)) rfl)
  obtain ⟨x8_BadPalette, ki_BadPalette, xn_BadPalette_what, xx_BadMix, x3_BadMix, x4_BadMix, x5_BadMix, x6_BadMix, x7_BadMix, x8_BadMix⟩ := p23
  have p24 : P24 K := of_decide_eq_true (ca.fact 24 (f := fun K => decide (P24 K)) rfl)
  obtain ⟨ki_BadMix, xx_BadRows, x3_BadRows, x4_BadRows, x5_BadRows, x6_BadRows, x7_BadRows, x8_BadRows, ki_BadRows, xx_BadCart⟩ := p24
  have p25 : P25 K := of_decide_eq_true (ca.fact 25 (f := fun K => decide (P25 K)) rfl)
  obtain ⟨x3_BadCart, x4_BadCart, x5_BadCart, x6_BadCart, x7_BadCart, x8_BadCart, ki_BadCart, xn_BadCart_what, xx_BadRule, x3_BadRule⟩ := p25
  have p26 : P26 K := of_decide_eq_true (ca.fact 26 (f := fun K => decide (P26 K)) rfl)
  obtain ⟨x4_BadRule, x5_BadRule, x6_BadRule, x7_BadRule, x8_BadRule, ki_BadRule, xn_BadRule_what, xn_BadRule_index, xx_NoCart, x3_NoCart⟩ := p26
  have p27 : P27 K := of_decide_eq_true (ca.fact 27 (f := fun K => decide (P27 K)) rfl)
  obtain ⟨x4_NoCart, x5_NoCart, x6_NoCart, x7_NoCart, x8_NoCart, ki_NoCart, xn_NoCart_name, xx_BadRoad, x3_BadRoad, x4_BadRoad⟩ := p27
  have p28 : P28 K := of_decide_eq_true (ca.fact 28 (f := fun K => decide (P28 K)) rfl)
  obtain ⟨x5_BadRoad, x6_BadRoad, x7_BadRoad, x8_BadRoad, ki_BadRoad, xn_BadRoad_what, xx_NoLane, x3_NoLane, x4_NoLane, x5_NoLane⟩ := p28
  have p29 : P29 K := of_decide_eq_true (ca.fact 29 (f := fun K => decide (P29 K)) rfl)
  obtain ⟨x6_NoLane, x7_NoLane, x8_NoLane, ki_NoLane, xn_NoLane_lane, xx_BadLimit, x3_BadLimit, x4_BadLimit, x5_BadLimit, x6_BadLimit⟩ := p29
  have p30 : P30 K := of_decide_eq_true (ca.fact 30 (f := fun K => decide (P30 K)) rfl)
  obtain ⟨x7_BadLimit, x8_BadLimit, ki_BadLimit, xn_BadLimit_what, xx_NotSafe, x3_NotSafe, x4_NotSafe, x5_NotSafe, x6_NotSafe, x7_NotSafe⟩ := p30
  have p31 : P31 K := of_decide_eq_true (ca.fact 31 (f := fun K => decide (P31 K)) rfl)
  obtain ⟨x8_NotSafe, ki_NotSafe, xn_NotSafe_mechanism, xx_BadYard, x3_BadYard, x4_BadYard, x5_BadYard, x6_BadYard, x7_BadYard, x8_BadYard⟩ := p31
  have p32 : P32 K := of_decide_eq_true (ca.fact 32 (f := fun K => decide (P32 K)) rfl)
  obtain ⟨ki_BadYard, xn_BadYard_what, xx_BadStage, x3_BadStage, x4_BadStage, x5_BadStage, x6_BadStage, x7_BadStage, x8_BadStage, ki_BadStage⟩ := p32
  have p33 : P33 K := of_decide_eq_true (ca.fact 33 (f := fun K => decide (P33 K)) rfl)
  obtain ⟨xx_BadChange, x3_BadChange, x4_BadChange, x5_BadChange, x6_BadChange, x7_BadChange, x8_BadChange, ki_BadChange, xn_BadChange_what, xx_NoChange⟩ := p33
  have p34 : P34 K := of_decide_eq_true (ca.fact 34 (f := fun K => decide (P34 K)) rfl)
  obtain ⟨x3_NoChange, x4_NoChange, x5_NoChange, x6_NoChange, x7_NoChange, x8_NoChange, ki_NoChange, xn_NoChange_number, xx_BadRow, x3_BadRow⟩ := p34
  have p35 : P35 K := of_decide_eq_true (ca.fact 35 (f := fun K => decide (P35 K)) rfl)
  obtain ⟨x4_BadRow, x5_BadRow, x6_BadRow, x7_BadRow, x8_BadRow, ki_BadRow, xn_BadRow_row, xn_BadRow_what, e1_NoPart, e2_NoPart⟩ := p35
  have p36 : P36 K := of_decide_eq_true (ca.fact 36 (f := fun K => decide (P36 K)) rfl)
  obtain ⟨e3_NoPart, es_BridgeError_NoPart, es_BadRatio_NoPart, es_BadForce_NoPart, es_BadLoad_NoPart, es_OtherSize_NoPart, es_NoStone_NoPart, es_NoJoint_NoPart, es_NoCorner_NoPart, es_BadBridge_NoPart⟩ := p36
  have p37 : P37 K := of_decide_eq_true (ca.fact 37 (f := fun K => decide (P37 K)) rfl)
  obtain ⟨es_NoPart_NoPart, es_BadRing_NoPart, es_BadCut_NoPart, es_BadThrust_NoPart, es_BadCorners_NoPart, es_InLine_NoPart, es_BadMotion_NoPart, es_BadWeights_NoPart, es_Unbalanced_NoPart, es_NotStanding_NoPart⟩ := p37
  have p38 : P38 K := of_decide_eq_true (ca.fact 38 (f := fun K => decide (P38 K)) rfl)
  obtain ⟨es_BadPalette_NoPart, es_BadMix_NoPart, es_BadRows_NoPart, es_BadCart_NoPart, es_BadRule_NoPart, es_NoCart_NoPart, es_BadRoad_NoPart, es_NoLane_NoPart, es_BadLimit_NoPart, es_NotSafe_NoPart⟩ := p38
  have p39 : P39 K := of_decide_eq_true (ca.fact 39 (f := fun K => decide (P39 K)) rfl)
  obtain ⟨es_BadYard_NoPart, es_BadStage_NoPart, es_BadChange_NoPart, es_NoChange_NoPart, es_BadRow_NoPart, e1_BridgeError, e2_BridgeError, e3_BridgeError, es_BridgeError_BridgeError, es_BadRatio_BridgeError⟩ := p39
  have p40 : P40 K := of_decide_eq_true (ca.fact 40 (f := fun K => decide (P40 K)) rfl)
  obtain ⟨es_BadForce_BridgeError, es_BadLoad_BridgeError, es_OtherSize_BridgeError, es_NoStone_BridgeError, es_NoJoint_BridgeError, es_NoCorner_BridgeError, es_BadBridge_BridgeError, es_NoPart_BridgeError, es_BadRing_BridgeError, es_BadCut_BridgeError⟩ := p40
  have p41 : P41 K := of_decide_eq_true (ca.fact 41 (f := fun K => decide (P41 K)) rfl)
  obtain ⟨es_BadThrust_BridgeError, es_BadCorners_BridgeError, es_InLine_BridgeError, es_BadMotion_BridgeError, es_BadWeights_BridgeError, es_Unbalanced_BridgeError, es_NotStanding_BridgeError, es_BadPalette_BridgeError, es_BadMix_BridgeError, es_BadRows_BridgeError⟩ := p41
  have p42 : P42 K := of_decide_eq_true (ca.fact 42 (f := fun K => decide (P42 K)) rfl)
  obtain ⟨es_BadCart_BridgeError, es_BadRule_BridgeError, es_NoCart_BridgeError, es_BadRoad_BridgeError, es_NoLane_BridgeError, es_BadLimit_BridgeError, es_NotSafe_BridgeError, es_BadYard_BridgeError, es_BadStage_BridgeError, es_BadChange_BridgeError⟩ := p42
  have p43 : P43 K := of_decide_eq_true (ca.fact 43 (f := fun K => decide (P43 K)) rfl)
  obtain ⟨es_NoChange_BridgeError, es_BadRow_BridgeError, mo_BridgeError, mo_BadRatio, mo_BadForce, mo_BadLoad, mo_OtherSize, mo_NoStone, mo_NoJoint, mo_NoCorner⟩ := p43
  have p44 : P44 K := of_decide_eq_true (ca.fact 44 (f := fun K => decide (P44 K)) rfl)
  obtain ⟨mo_BadBridge, mo_NoPart, mo_BadRing, mo_BadCut, mo_BadThrust, mo_BadCorners, mo_InLine, mo_BadMotion, mo_BadWeights, mo_Unbalanced⟩ := p44
  have p45 : P45 K := of_decide_eq_true (ca.fact 45 (f := fun K => decide (P45 K)) rfl)
  obtain ⟨mo_NotStanding, mo_BadPalette, mo_BadMix, mo_BadRows, mo_BadCart, mo_BadRule, mo_NoCart, mo_BadRoad, mo_NoLane, mo_BadLimit⟩ := p45
  have p46 : P46 K := of_decide_eq_true (ca.fact 46 (f := fun K => decide (P46 K)) rfl)
  obtain ⟨mo_NotSafe, mo_BadYard, mo_BadStage, mo_BadChange, mo_NoChange, mo_BadRow, xnd, y1_BridgeError, y2_BridgeError, y3_BridgeError⟩ := p46
  have p47 : P47 K := of_decide_eq_true (ca.fact 47 (f := fun K => decide (P47 K)) rfl)
  obtain ⟨y4_BridgeError, y5_BridgeError, y6_BridgeError, y7_BridgeError, y8_BridgeError, y1_BadRatio, y2_BadRatio, y3_BadRatio, y4_BadRatio, y5_BadRatio⟩ := p47
  have p48 : P48 K := of_decide_eq_true (ca.fact 48 (f := fun K => decide (P48 K)) rfl)
  obtain ⟨y6_BadRatio, y7_BadRatio, y8_BadRatio, y1_BadForce, y2_BadForce, y3_BadForce, y4_BadForce, y5_BadForce, y6_BadForce, y7_BadForce⟩ := p48
  have p49 : P49 K := of_decide_eq_true (ca.fact 49 (f := fun K => decide (P49 K)) rfl)
  obtain ⟨y8_BadForce, y1_BadLoad, y2_BadLoad, y3_BadLoad, y4_BadLoad, y5_BadLoad, y6_BadLoad, y7_BadLoad, y8_BadLoad, y1_OtherSize⟩ := p49
  have p50 : P50 K := of_decide_eq_true (ca.fact 50 (f := fun K => decide (P50 K)) rfl)
  obtain ⟨y2_OtherSize, y3_OtherSize, y4_OtherSize, y5_OtherSize, y6_OtherSize, y7_OtherSize, y8_OtherSize, y1_NoStone, y2_NoStone, y3_NoStone⟩ := p50
  have p51 : P51 K := of_decide_eq_true (ca.fact 51 (f := fun K => decide (P51 K)) rfl)
  obtain ⟨y4_NoStone, y5_NoStone, y6_NoStone, y7_NoStone, y8_NoStone, y1_NoJoint, y2_NoJoint, y3_NoJoint, y4_NoJoint, y5_NoJoint⟩ := p51
  have p52 : P52 K := of_decide_eq_true (ca.fact 52 (f := fun K => decide (P52 K)) rfl)
  obtain ⟨y6_NoJoint, y7_NoJoint, y8_NoJoint, y1_NoCorner, y2_NoCorner, y3_NoCorner, y4_NoCorner, y5_NoCorner, y6_NoCorner, y7_NoCorner⟩ := p52
  have p53 : P53 K := of_decide_eq_true (ca.fact 53 (f := fun K => decide (P53 K)) rfl)
  obtain ⟨y8_NoCorner, y1_BadBridge, y2_BadBridge, y3_BadBridge, y4_BadBridge, y5_BadBridge, y6_BadBridge, y7_BadBridge, y8_BadBridge, y1_NoPart⟩ := p53
  have p54 : P54 K := of_decide_eq_true (ca.fact 54 (f := fun K => decide (P54 K)) rfl)
  obtain ⟨y2_NoPart, y3_NoPart, y4_NoPart, y5_NoPart, y6_NoPart, y7_NoPart, y8_NoPart, y1_BadRing, y2_BadRing, y3_BadRing⟩ := p54
  have p55 : P55 K := of_decide_eq_true (ca.fact 55 (f := fun K => decide (P55 K)) rfl)
  obtain ⟨y4_BadRing, y5_BadRing, y6_BadRing, y7_BadRing, y8_BadRing, y1_BadCut, y2_BadCut, y3_BadCut, y4_BadCut, y5_BadCut⟩ := p55
  have p56 : P56 K := of_decide_eq_true (ca.fact 56 (f := fun K => decide (P56 K)) rfl)
  obtain ⟨y6_BadCut, y7_BadCut, y8_BadCut, y1_BadThrust, y2_BadThrust, y3_BadThrust, y4_BadThrust, y5_BadThrust, y6_BadThrust, y7_BadThrust⟩ := p56
  have p57 : P57 K := of_decide_eq_true (ca.fact 57 (f := fun K => decide (P57 K)) rfl)
  obtain ⟨y8_BadThrust, y1_BadCorners, y2_BadCorners, y3_BadCorners, y4_BadCorners, y5_BadCorners, y6_BadCorners, y7_BadCorners, y8_BadCorners, y1_InLine⟩ := p57
  have p58 : P58 K := of_decide_eq_true (ca.fact 58 (f := fun K => decide (P58 K)) rfl)
  obtain ⟨y2_InLine, y3_InLine, y4_InLine, y5_InLine, y6_InLine, y7_InLine, y8_InLine, y1_BadMotion, y2_BadMotion, y3_BadMotion⟩ := p58
  have p59 : P59 K := of_decide_eq_true (ca.fact 59 (f := fun K => decide (P59 K)) rfl)
  obtain ⟨y4_BadMotion, y5_BadMotion, y6_BadMotion, y7_BadMotion, y8_BadMotion, y1_BadWeights, y2_BadWeights, y3_BadWeights, y4_BadWeights, y5_BadWeights⟩ := p59
  have p60 : P60 K := of_decide_eq_true (ca.fact 60 (f := fun K => decide (P60 K)) rfl)
  obtain ⟨y6_BadWeights, y7_BadWeights, y8_BadWeights, y1_Unbalanced, y2_Unbalanced, y3_Unbalanced, y4_Unbalanced, y5_Unbalanced, y6_Unbalanced, y7_Unbalanced⟩ := p60
  have p61 : P61 K := of_decide_eq_true (ca.fact 61 (f := fun K => decide (P61 K)) rfl)
  obtain ⟨y8_Unbalanced, y1_NotStanding, y2_NotStanding, y3_NotStanding, y4_NotStanding, y5_NotStanding, y6_NotStanding, y7_NotStanding, y8_NotStanding, y1_BadPalette⟩ := p61
  have p62 : P62 K := of_decide_eq_true (ca.fact 62 (f := fun K => decide (P62 K)) rfl)
  obtain ⟨y2_BadPalette, y3_BadPalette, y4_BadPalette, y5_BadPalette, y6_BadPalette, y7_BadPalette, y8_BadPalette, y1_BadMix, y2_BadMix, y3_BadMix⟩ := p62
  have p63 : P63 K := of_decide_eq_true (ca.fact 63 (f := fun K => decide (P63 K)) rfl)
  obtain ⟨y4_BadMix, y5_BadMix, y6_BadMix, y7_BadMix, y8_BadMix, y1_BadRows, y2_BadRows, y3_BadRows, y4_BadRows, y5_BadRows⟩ := p63
  have p64 : P64 K := of_decide_eq_true (ca.fact 64 (f := fun K => decide (P64 K)) rfl)
  obtain ⟨y6_BadRows, y7_BadRows, y8_BadRows, y1_BadCart, y2_BadCart, y3_BadCart, y4_BadCart, y5_BadCart, y6_BadCart, y7_BadCart⟩ := p64
  have p65 : P65 K := of_decide_eq_true (ca.fact 65 (f := fun K => decide (P65 K)) rfl)
  obtain ⟨y8_BadCart, y1_BadRule, y2_BadRule, y3_BadRule, y4_BadRule, y5_BadRule, y6_BadRule, y7_BadRule, y8_BadRule, y1_NoCart⟩ := p65
  have p66 : P66 K := of_decide_eq_true (ca.fact 66 (f := fun K => decide (P66 K)) rfl)
  obtain ⟨y2_NoCart, y3_NoCart, y4_NoCart, y5_NoCart, y6_NoCart, y7_NoCart, y8_NoCart, y1_BadRoad, y2_BadRoad, y3_BadRoad⟩ := p66
  have p67 : P67 K := of_decide_eq_true (ca.fact 67 (f := fun K => decide (P67 K)) rfl)
  obtain ⟨y4_BadRoad, y5_BadRoad, y6_BadRoad, y7_BadRoad, y8_BadRoad, y1_NoLane, y2_NoLane, y3_NoLane, y4_NoLane, y5_NoLane⟩ := p67
  have p68 : P68 K := of_decide_eq_true (ca.fact 68 (f := fun K => decide (P68 K)) rfl)
  obtain ⟨y6_NoLane, y7_NoLane, y8_NoLane, y1_BadLimit, y2_BadLimit, y3_BadLimit, y4_BadLimit, y5_BadLimit, y6_BadLimit, y7_BadLimit⟩ := p68
  have p69 : P69 K := of_decide_eq_true (ca.fact 69 (f := fun K => decide (P69 K)) rfl)
  obtain ⟨y8_BadLimit, y1_NotSafe, y2_NotSafe, y3_NotSafe, y4_NotSafe, y5_NotSafe, y6_NotSafe, y7_NotSafe, y8_NotSafe, y1_BadYard⟩ := p69
  have p70 : P70 K := of_decide_eq_true (ca.fact 70 (f := fun K => decide (P70 K)) rfl)
  obtain ⟨y2_BadYard, y3_BadYard, y4_BadYard, y5_BadYard, y6_BadYard, y7_BadYard, y8_BadYard, y1_BadStage, y2_BadStage, y3_BadStage⟩ := p70
  have p71 : P71 K := of_decide_eq_true (ca.fact 71 (f := fun K => decide (P71 K)) rfl)
  obtain ⟨y4_BadStage, y5_BadStage, y6_BadStage, y7_BadStage, y8_BadStage, y1_BadChange, y2_BadChange, y3_BadChange, y4_BadChange, y5_BadChange⟩ := p71
  have p72 : P72 K := of_decide_eq_true (ca.fact 72 (f := fun K => decide (P72 K)) rfl)
  obtain ⟨y6_BadChange, y7_BadChange, y8_BadChange, y1_NoChange, y2_NoChange, y3_NoChange, y4_NoChange, y5_NoChange, y6_NoChange, y7_NoChange⟩ := p72
  have p73 : P73 K := of_decide_eq_true (ca.fact 73 (f := fun K => decide (P73 K)) rfl)
  obtain ⟨y8_NoChange, y1_BadRow, y2_BadRow, y3_BadRow, y4_BadRow, y5_BadRow, y6_BadRow, y7_BadRow, y8_BadRow, z_ValueError⟩ := p73
  have p74 : P74 K := of_decide_eq_true (ca.fact 74 (f := fun K => decide (P74 K)) rfl)
  obtain ⟨z_int, z_isinstance, z_len, z_list, z_range, z_repr, z_str⟩ := p74
  obtain ⟨_, _, _, _, _, _, _, _, _, l__law_take, c__law_take⟩ := fnA_no (c.def_ 0 (d := D__law_take) rfl) rfl
  obtain ⟨_, _, _, _, _, _, _, _, _, l__law_of, c__law_of⟩ := fnA_no (c.def_ 1 (d := D__law_of) rfl) rfl
  obtain ⟨_, _, _, _, _, _, _, _, _, l__law_value, c__law_value⟩ := fnA_no (c.def_ 2 (d := D__law_value) rfl) rfl
  obtain ⟨_, _, _, _, _, _, _, _, _, l__law_pen, c__law_pen⟩ := fnA_no (c.def_ 3 (d := D__law_pen) rfl) rfl
  obtain ⟨_, _, _, _, _, _, _, _, _, l__law_first, c__law_first⟩ := fnA_no (c.def_ 4 (d := D__law_first) rfl) rfl
  obtain ⟨_, _, _, _, _, _, _, _, _, l__law_second, c__law_second⟩ := fnA_no (c.def_ 5 (d := D__law_second) rfl) rfl
  obtain ⟨_, _, _, _, _, _, _, _, _, l__law_third, c__law_third⟩ := fnA_no (c.def_ 6 (d := D__law_third) rfl) rfl
  obtain ⟨_, _, _, _, _, _, _, _, _, l__law_classes, c__law_classes⟩ := fnA_no (c.def_ 7 (d := D__law_classes) rfl) rfl
  obtain ⟨_, _, _, _, _, _, _, _, _, l__law_by_names, c__law_by_names⟩ := fnA_no (c.def_ 8 (d := D__law_by_names) rfl) rfl
  obtain ⟨_, _, _, _, _, _, _, _, _, l__law_caught, c__law_caught⟩ := fnA_no (c.def_ 9 (d := D__law_caught) rfl) rfl
  obtain ⟨_, _, _, _, _, _, _, _, _, l_law, c_law⟩ := fnA_no (c.def_ 10 (d := D_law) rfl) rfl
  obtain ⟨_, _, _, _, _, _, _, _, _, _, _, _, _, _, _, x1_BridgeError, x2_BridgeError⟩ := excVe_ok xx_BridgeError
  obtain ⟨_, _, _, _, _, _, _, _, _, li_BridgeError, cdi_BridgeError_⟩ := fnA_no (c.def_ 11 (d := D_IBridgeError) rfl) rfl
  obtain ⟨_, _, _, _, _, _, _, _, _, _, _, _, _, _, _, x1_BadRatio, x2_BadRatio⟩ := excVe_ok xx_BadRatio
  obtain ⟨_, _, _, _, _, _, _, _, _, li_BadRatio, cdi_BadRatio_⟩ := fnA_no (c.def_ 12 (d := D_IBadRatio) rfl) rfl
  obtain ⟨_, _, _, _, _, _, _, _, _, _, _, _, _, _, _, x1_BadForce, x2_BadForce⟩ := excVe_ok xx_BadForce
  obtain ⟨_, _, _, _, _, _, _, _, _, li_BadForce, cdi_BadForce_⟩ := fnA_no (c.def_ 13 (d := D_IBadForce) rfl) rfl
  obtain ⟨_, _, _, _, _, _, _, _, _, _, _, _, _, _, _, x1_BadLoad, x2_BadLoad⟩ := excVe_ok xx_BadLoad
  obtain ⟨_, _, _, _, _, _, _, _, _, li_BadLoad, cdi_BadLoad_⟩ := fnA_no (c.def_ 14 (d := D_IBadLoad) rfl) rfl
  obtain ⟨_, _, _, _, _, _, _, _, _, _, _, _, _, _, _, x1_OtherSize, x2_OtherSize⟩ := excVe_ok xx_OtherSize
  obtain ⟨_, _, _, _, _, _, _, _, _, li_OtherSize, cdi_OtherSize_⟩ := fnA_no (c.def_ 15 (d := D_IOtherSize) rfl) rfl
  obtain ⟨_, _, _, _, _, _, _, _, _, _, _, _, _, _, _, x1_NoStone, x2_NoStone⟩ := excVe_ok xx_NoStone
  obtain ⟨_, _, _, _, _, _, _, _, _, li_NoStone, cdi_NoStone_⟩ := fnA_no (c.def_ 16 (d := D_INoStone) rfl) rfl
  obtain ⟨_, _, _, _, _, _, _, _, _, _, _, _, _, _, _, x1_NoJoint, x2_NoJoint⟩ := excVe_ok xx_NoJoint
  obtain ⟨_, _, _, _, _, _, _, _, _, li_NoJoint, cdi_NoJoint_⟩ := fnA_no (c.def_ 17 (d := D_INoJoint) rfl) rfl
  obtain ⟨_, _, _, _, _, _, _, _, _, _, _, _, _, _, _, x1_NoCorner, x2_NoCorner⟩ := excVe_ok xx_NoCorner
  obtain ⟨_, _, _, _, _, _, _, _, _, li_NoCorner, cdi_NoCorner_⟩ := fnA_no (c.def_ 18 (d := D_INoCorner) rfl) rfl
  obtain ⟨_, _, _, _, _, _, _, _, _, _, _, _, _, _, _, x1_BadBridge, x2_BadBridge⟩ := excVe_ok xx_BadBridge
  obtain ⟨_, _, _, _, _, _, _, _, _, li_BadBridge, cdi_BadBridge_⟩ := fnA_no (c.def_ 19 (d := D_IBadBridge) rfl) rfl
  obtain ⟨_, _, _, _, _, _, _, _, _, _, _, _, _, _, _, x1_NoPart, x2_NoPart⟩ := excVe_ok xx_NoPart
  obtain ⟨_, _, _, _, _, _, _, _, _, li_NoPart, cdi_NoPart_⟩ := fnA_no (c.def_ 20 (d := D_INoPart) rfl) rfl
  obtain ⟨_, _, _, _, _, _, _, _, _, _, _, _, _, _, _, x1_BadRing, x2_BadRing⟩ := excVe_ok xx_BadRing
  obtain ⟨_, _, _, _, _, _, _, _, _, li_BadRing, cdi_BadRing_⟩ := fnA_no (c.def_ 21 (d := D_IBadRing) rfl) rfl
  obtain ⟨_, _, _, _, _, _, _, _, _, _, _, _, _, _, _, x1_BadCut, x2_BadCut⟩ := excVe_ok xx_BadCut
  obtain ⟨_, _, _, _, _, _, _, _, _, li_BadCut, cdi_BadCut_⟩ := fnA_no (c.def_ 22 (d := D_IBadCut) rfl) rfl
  obtain ⟨_, _, _, _, _, _, _, _, _, _, _, _, _, _, _, x1_BadThrust, x2_BadThrust⟩ := excVe_ok xx_BadThrust
  obtain ⟨_, _, _, _, _, _, _, _, _, li_BadThrust, cdi_BadThrust_⟩ := fnA_no (c.def_ 23 (d := D_IBadThrust) rfl) rfl
  obtain ⟨_, _, _, _, _, _, _, _, _, _, _, _, _, _, _, x1_BadCorners, x2_BadCorners⟩ := excVe_ok xx_BadCorners
  obtain ⟨_, _, _, _, _, _, _, _, _, li_BadCorners, cdi_BadCorners_⟩ := fnA_no (c.def_ 24 (d := D_IBadCorners) rfl) rfl
  obtain ⟨_, _, _, _, _, _, _, _, _, _, _, _, _, _, _, x1_InLine, x2_InLine⟩ := excVe_ok xx_InLine
  obtain ⟨_, _, _, _, _, _, _, _, _, li_InLine, cdi_InLine_⟩ := fnA_no (c.def_ 25 (d := D_IInLine) rfl) rfl
  obtain ⟨_, _, _, _, _, _, _, _, _, _, _, _, _, _, _, x1_BadMotion, x2_BadMotion⟩ := excVe_ok xx_BadMotion
  obtain ⟨_, _, _, _, _, _, _, _, _, li_BadMotion, cdi_BadMotion_⟩ := fnA_no (c.def_ 26 (d := D_IBadMotion) rfl) rfl
  obtain ⟨_, _, _, _, _, _, _, _, _, _, _, _, _, _, _, x1_BadWeights, x2_BadWeights⟩ := excVe_ok xx_BadWeights
  obtain ⟨_, _, _, _, _, _, _, _, _, li_BadWeights, cdi_BadWeights_⟩ := fnA_no (c.def_ 27 (d := D_IBadWeights) rfl) rfl
  obtain ⟨_, _, _, _, _, _, _, _, _, _, _, _, _, _, _, x1_Unbalanced, x2_Unbalanced⟩ := excVe_ok xx_Unbalanced
  obtain ⟨_, _, _, _, _, _, _, _, _, li_Unbalanced, cdi_Unbalanced_⟩ := fnA_no (c.def_ 28 (d := D_IUnbalanced) rfl) rfl
  obtain ⟨_, _, _, _, _, _, _, _, _, _, _, _, _, _, _, x1_NotStanding, x2_NotStanding⟩ := excVe_ok xx_NotStanding
  obtain ⟨_, _, _, _, _, _, _, _, _, li_NotStanding, cdi_NotStanding_⟩ := fnA_no (c.def_ 29 (d := D_INotStanding) rfl) rfl
  obtain ⟨_, _, _, _, _, _, _, _, _, _, _, _, _, _, _, x1_BadPalette, x2_BadPalette⟩ := excVe_ok xx_BadPalette
  obtain ⟨_, _, _, _, _, _, _, _, _, li_BadPalette, cdi_BadPalette_⟩ := fnA_no (c.def_ 30 (d := D_IBadPalette) rfl) rfl
  obtain ⟨_, _, _, _, _, _, _, _, _, _, _, _, _, _, _, x1_BadMix, x2_BadMix⟩ := excVe_ok xx_BadMix
  obtain ⟨_, _, _, _, _, _, _, _, _, li_BadMix, cdi_BadMix_⟩ := fnA_no (c.def_ 31 (d := D_IBadMix) rfl) rfl
  obtain ⟨_, _, _, _, _, _, _, _, _, _, _, _, _, _, _, x1_BadRows, x2_BadRows⟩ := excVe_ok xx_BadRows
  obtain ⟨_, _, _, _, _, _, _, _, _, li_BadRows, cdi_BadRows_⟩ := fnA_no (c.def_ 32 (d := D_IBadRows) rfl) rfl
  obtain ⟨_, _, _, _, _, _, _, _, _, _, _, _, _, _, _, x1_BadCart, x2_BadCart⟩ := excVe_ok xx_BadCart
  obtain ⟨_, _, _, _, _, _, _, _, _, li_BadCart, cdi_BadCart_⟩ := fnA_no (c.def_ 33 (d := D_IBadCart) rfl) rfl
  obtain ⟨_, _, _, _, _, _, _, _, _, _, _, _, _, _, _, x1_BadRule, x2_BadRule⟩ := excVe_ok xx_BadRule
  obtain ⟨_, _, _, _, _, _, _, _, _, li_BadRule, cdi_BadRule_⟩ := fnA_no (c.def_ 34 (d := D_IBadRule) rfl) rfl
  obtain ⟨_, _, _, _, _, _, _, _, _, _, _, _, _, _, _, x1_NoCart, x2_NoCart⟩ := excVe_ok xx_NoCart
  obtain ⟨_, _, _, _, _, _, _, _, _, li_NoCart, cdi_NoCart_⟩ := fnA_no (c.def_ 35 (d := D_INoCart) rfl) rfl
  obtain ⟨_, _, _, _, _, _, _, _, _, _, _, _, _, _, _, x1_BadRoad, x2_BadRoad⟩ := excVe_ok xx_BadRoad
  obtain ⟨_, _, _, _, _, _, _, _, _, li_BadRoad, cdi_BadRoad_⟩ := fnA_no (c.def_ 36 (d := D_IBadRoad) rfl) rfl
  obtain ⟨_, _, _, _, _, _, _, _, _, _, _, _, _, _, _, x1_NoLane, x2_NoLane⟩ := excVe_ok xx_NoLane
  obtain ⟨_, _, _, _, _, _, _, _, _, li_NoLane, cdi_NoLane_⟩ := fnA_no (c.def_ 37 (d := D_INoLane) rfl) rfl
  obtain ⟨_, _, _, _, _, _, _, _, _, _, _, _, _, _, _, x1_BadLimit, x2_BadLimit⟩ := excVe_ok xx_BadLimit
  obtain ⟨_, _, _, _, _, _, _, _, _, li_BadLimit, cdi_BadLimit_⟩ := fnA_no (c.def_ 38 (d := D_IBadLimit) rfl) rfl
  obtain ⟨_, _, _, _, _, _, _, _, _, _, _, _, _, _, _, x1_NotSafe, x2_NotSafe⟩ := excVe_ok xx_NotSafe
  obtain ⟨_, _, _, _, _, _, _, _, _, li_NotSafe, cdi_NotSafe_⟩ := fnA_no (c.def_ 39 (d := D_INotSafe) rfl) rfl
  obtain ⟨_, _, _, _, _, _, _, _, _, _, _, _, _, _, _, x1_BadYard, x2_BadYard⟩ := excVe_ok xx_BadYard
  obtain ⟨_, _, _, _, _, _, _, _, _, li_BadYard, cdi_BadYard_⟩ := fnA_no (c.def_ 40 (d := D_IBadYard) rfl) rfl
  obtain ⟨_, _, _, _, _, _, _, _, _, _, _, _, _, _, _, x1_BadStage, x2_BadStage⟩ := excVe_ok xx_BadStage
  obtain ⟨_, _, _, _, _, _, _, _, _, li_BadStage, cdi_BadStage_⟩ := fnA_no (c.def_ 41 (d := D_IBadStage) rfl) rfl
  obtain ⟨_, _, _, _, _, _, _, _, _, _, _, _, _, _, _, x1_BadChange, x2_BadChange⟩ := excVe_ok xx_BadChange
  obtain ⟨_, _, _, _, _, _, _, _, _, li_BadChange, cdi_BadChange_⟩ := fnA_no (c.def_ 42 (d := D_IBadChange) rfl) rfl
  obtain ⟨_, _, _, _, _, _, _, _, _, _, _, _, _, _, _, x1_NoChange, x2_NoChange⟩ := excVe_ok xx_NoChange
  obtain ⟨_, _, _, _, _, _, _, _, _, li_NoChange, cdi_NoChange_⟩ := fnA_no (c.def_ 43 (d := D_INoChange) rfl) rfl
  obtain ⟨_, _, _, _, _, _, _, _, _, _, _, _, _, _, _, x1_BadRow, x2_BadRow⟩ := excVe_ok xx_BadRow
  obtain ⟨_, _, _, _, _, _, _, _, _, li_BadRow, cdi_BadRow_⟩ := fnA_no (c.def_ 44 (d := D_IBadRow) rfl) rfl
  exact all_mk (l := l) (w := w) X G hfa a__law_take l__law_take c__law_take k__law_take a__law_of l__law_of c__law_of k__law_of a__law_value l__law_value c__law_value k__law_value a__law_pen l__law_pen c__law_pen k__law_pen a__law_first l__law_first c__law_first k__law_first a__law_second l__law_second c__law_second k__law_second a__law_third l__law_third c__law_third k__law_third a__law_classes l__law_classes c__law_classes k__law_classes a__law_by_names l__law_by_names c__law_by_names k__law_by_names a__law_caught l__law_caught c__law_caught k__law_caught a_law l_law c_law k_law ac_BridgeError ac_BadRatio ac_BadForce ac_BadLoad ac_OtherSize ac_NoStone ac_NoJoint ac_NoCorner ac_BadBridge ac_NoPart ac_BadRing ac_BadCut ac_BadThrust ac_BadCorners ac_InLine ac_BadMotion ac_BadWeights ac_Unbalanced ac_NotStanding ac_BadPalette ac_BadMix ac_BadRows ac_BadCart ac_BadRule ac_NoCart ac_BadRoad ac_NoLane ac_BadLimit ac_NotSafe ac_BadYard ac_BadStage ac_BadChange ac_NoChange ac_BadRow x1_BridgeError x2_BridgeError x3_BridgeError x4_BridgeError x5_BridgeError x6_BridgeError x7_BridgeError x8_BridgeError li_BridgeError cdi_BridgeError_ ki_BridgeError x1_BadRatio x2_BadRatio x3_BadRatio x4_BadRatio x5_BadRatio x6_BadRatio x7_BadRatio x8_BadRatio li_BadRatio cdi_BadRatio_ ki_BadRatio x1_BadForce x2_BadForce x3_BadForce x4_BadForce x5_BadForce x6_BadForce x7_BadForce x8_BadForce li_BadForce cdi_BadForce_ ki_BadForce xn_BadForce_what x1_BadLoad x2_BadLoad x3_BadLoad x4_BadLoad x5_BadLoad x6_BadLoad x7_BadLoad x8_BadLoad li_BadLoad cdi_BadLoad_ ki_BadLoad xn_BadLoad_what x1_OtherSize x2_OtherSize x3_OtherSize x4_OtherSize x5_OtherSize x6_OtherSize x7_OtherSize x8_OtherSize li_OtherSize cdi_OtherSize_ ki_OtherSize x1_NoStone x2_NoStone x3_NoStone x4_NoStone x5_NoStone x6_NoStone x7_NoStone x8_NoStone li_NoStone cdi_NoStone_ ki_NoStone xn_NoStone_stone x1_NoJoint x2_NoJoint x3_NoJoint x4_NoJoint x5_NoJoint x6_NoJoint x7_NoJoint x8_NoJoint li_NoJoint cdi_NoJoint_ ki_NoJoint xn_NoJoint_joint x1_NoCorner x2_NoCorner x3_NoCorner x4_NoCorner x5_NoCorner x6_NoCorner x7_NoCorner x8_NoCorner li_NoCorner cdi_NoCorner_ ki_NoCorner xn_NoCorner_corner x1_BadBridge x2_BadBridge x3_BadBridge x4_BadBridge x5_BadBridge x6_BadBridge x7_BadBridge x8_BadBridge li_BadBridge cdi_BadBridge_ ki_BadBridge xn_BadBridge_what xn_BadBridge_joint x1_NoPart x2_NoPart x3_NoPart x4_NoPart x5_NoPart x6_NoPart x7_NoPart x8_NoPart li_NoPart cdi_NoPart_ ki_NoPart xn_NoPart_first xn_NoPart_last x1_BadRing x2_BadRing x3_BadRing x4_BadRing x5_BadRing x6_BadRing x7_BadRing x8_BadRing li_BadRing cdi_BadRing_ ki_BadRing xn_BadRing_what xn_BadRing_stone x1_BadCut x2_BadCut x3_BadCut x4_BadCut x5_BadCut x6_BadCut x7_BadCut x8_BadCut li_BadCut cdi_BadCut_ ki_BadCut xn_BadCut_one xn_BadCut_other x1_BadThrust x2_BadThrust x3_BadThrust x4_BadThrust x5_BadThrust x6_BadThrust x7_BadThrust x8_BadThrust li_BadThrust cdi_BadThrust_ ki_BadThrust x1_BadCorners x2_BadCorners x3_BadCorners x4_BadCorners x5_BadCorners x6_BadCorners x7_BadCorners x8_BadCorners li_BadCorners cdi_BadCorners_ ki_BadCorners x1_InLine x2_InLine x3_InLine x4_InLine x5_InLine x6_InLine x7_InLine x8_InLine li_InLine cdi_InLine_ ki_InLine xn_InLine_corners x1_BadMotion x2_BadMotion x3_BadMotion x4_BadMotion x5_BadMotion x6_BadMotion x7_BadMotion x8_BadMotion li_BadMotion cdi_BadMotion_ ki_BadMotion x1_BadWeights x2_BadWeights x3_BadWeights x4_BadWeights x5_BadWeights x6_BadWeights x7_BadWeights x8_BadWeights li_BadWeights cdi_BadWeights_ ki_BadWeights xn_BadWeights_what x1_Unbalanced x2_Unbalanced x3_Unbalanced x4_Unbalanced x5_Unbalanced x6_Unbalanced x7_Unbalanced x8_Unbalanced li_Unbalanced cdi_Unbalanced_ ki_Unbalanced x1_NotStanding x2_NotStanding x3_NotStanding x4_NotStanding x5_NotStanding x6_NotStanding x7_NotStanding x8_NotStanding li_NotStanding cdi_NotStanding_ ki_NotStanding xn_NotStanding_mechanism x1_BadPalette x2_BadPalette x3_BadPalette x4_BadPalette x5_BadPalette x6_BadPalette x7_BadPalette x8_BadPalette li_BadPalette cdi_BadPalette_ ki_BadPalette xn_BadPalette_what x1_BadMix x2_BadMix x3_BadMix x4_BadMix x5_BadMix x6_BadMix x7_BadMix x8_BadMix li_BadMix cdi_BadMix_ ki_BadMix x1_BadRows x2_BadRows x3_BadRows x4_BadRows x5_BadRows x6_BadRows x7_BadRows x8_BadRows li_BadRows cdi_BadRows_ ki_BadRows x1_BadCart x2_BadCart x3_BadCart x4_BadCart x5_BadCart x6_BadCart x7_BadCart x8_BadCart li_BadCart cdi_BadCart_ ki_BadCart xn_BadCart_what x1_BadRule x2_BadRule x3_BadRule x4_BadRule x5_BadRule x6_BadRule x7_BadRule x8_BadRule li_BadRule cdi_BadRule_ ki_BadRule xn_BadRule_what xn_BadRule_index x1_NoCart x2_NoCart x3_NoCart x4_NoCart x5_NoCart x6_NoCart x7_NoCart x8_NoCart li_NoCart cdi_NoCart_ ki_NoCart xn_NoCart_name x1_BadRoad x2_BadRoad x3_BadRoad x4_BadRoad x5_BadRoad x6_BadRoad x7_BadRoad x8_BadRoad li_BadRoad cdi_BadRoad_ ki_BadRoad xn_BadRoad_what x1_NoLane x2_NoLane x3_NoLane x4_NoLane x5_NoLane x6_NoLane x7_NoLane x8_NoLane li_NoLane cdi_NoLane_ ki_NoLane xn_NoLane_lane x1_BadLimit x2_BadLimit x3_BadLimit x4_BadLimit x5_BadLimit x6_BadLimit x7_BadLimit x8_BadLimit li_BadLimit cdi_BadLimit_ ki_BadLimit xn_BadLimit_what x1_NotSafe x2_NotSafe x3_NotSafe x4_NotSafe x5_NotSafe x6_NotSafe x7_NotSafe x8_NotSafe li_NotSafe cdi_NotSafe_ ki_NotSafe xn_NotSafe_mechanism x1_BadYard x2_BadYard x3_BadYard x4_BadYard x5_BadYard x6_BadYard x7_BadYard x8_BadYard li_BadYard cdi_BadYard_ ki_BadYard xn_BadYard_what x1_BadStage x2_BadStage x3_BadStage x4_BadStage x5_BadStage x6_BadStage x7_BadStage x8_BadStage li_BadStage cdi_BadStage_ ki_BadStage x1_BadChange x2_BadChange x3_BadChange x4_BadChange x5_BadChange x6_BadChange x7_BadChange x8_BadChange li_BadChange cdi_BadChange_ ki_BadChange xn_BadChange_what x1_NoChange x2_NoChange x3_NoChange x4_NoChange x5_NoChange x6_NoChange x7_NoChange x8_NoChange li_NoChange cdi_NoChange_ ki_NoChange xn_NoChange_number x1_BadRow x2_BadRow x3_BadRow x4_BadRow x5_BadRow x6_BadRow x7_BadRow x8_BadRow li_BadRow cdi_BadRow_ ki_BadRow xn_BadRow_row xn_BadRow_what e1_NoPart e2_NoPart e3_NoPart es_BridgeError_NoPart es_BadRatio_NoPart es_BadForce_NoPart es_BadLoad_NoPart es_OtherSize_NoPart es_NoStone_NoPart es_NoJoint_NoPart es_NoCorner_NoPart es_BadBridge_NoPart es_NoPart_NoPart es_BadRing_NoPart es_BadCut_NoPart es_BadThrust_NoPart es_BadCorners_NoPart es_InLine_NoPart es_BadMotion_NoPart es_BadWeights_NoPart es_Unbalanced_NoPart es_NotStanding_NoPart es_BadPalette_NoPart es_BadMix_NoPart es_BadRows_NoPart es_BadCart_NoPart es_BadRule_NoPart es_NoCart_NoPart es_BadRoad_NoPart es_NoLane_NoPart es_BadLimit_NoPart es_NotSafe_NoPart es_BadYard_NoPart es_BadStage_NoPart es_BadChange_NoPart es_NoChange_NoPart es_BadRow_NoPart e1_BridgeError e2_BridgeError e3_BridgeError es_BridgeError_BridgeError es_BadRatio_BridgeError es_BadForce_BridgeError es_BadLoad_BridgeError es_OtherSize_BridgeError es_NoStone_BridgeError es_NoJoint_BridgeError es_NoCorner_BridgeError es_BadBridge_BridgeError es_NoPart_BridgeError es_BadRing_BridgeError es_BadCut_BridgeError es_BadThrust_BridgeError es_BadCorners_BridgeError es_InLine_BridgeError es_BadMotion_BridgeError es_BadWeights_BridgeError es_Unbalanced_BridgeError es_NotStanding_BridgeError es_BadPalette_BridgeError es_BadMix_BridgeError es_BadRows_BridgeError es_BadCart_BridgeError es_BadRule_BridgeError es_NoCart_BridgeError es_BadRoad_BridgeError es_NoLane_BridgeError es_BadLimit_BridgeError es_NotSafe_BridgeError es_BadYard_BridgeError es_BadStage_BridgeError es_BadChange_BridgeError es_NoChange_BridgeError es_BadRow_BridgeError mo_BridgeError mo_BadRatio mo_BadForce mo_BadLoad mo_OtherSize mo_NoStone mo_NoJoint mo_NoCorner mo_BadBridge mo_NoPart mo_BadRing mo_BadCut mo_BadThrust mo_BadCorners mo_InLine mo_BadMotion mo_BadWeights mo_Unbalanced mo_NotStanding mo_BadPalette mo_BadMix mo_BadRows mo_BadCart mo_BadRule mo_NoCart mo_BadRoad mo_NoLane mo_BadLimit mo_NotSafe mo_BadYard mo_BadStage mo_BadChange mo_NoChange mo_BadRow xnd y1_BridgeError y2_BridgeError y3_BridgeError y4_BridgeError y5_BridgeError y6_BridgeError y7_BridgeError y8_BridgeError y1_BadRatio y2_BadRatio y3_BadRatio y4_BadRatio y5_BadRatio y6_BadRatio y7_BadRatio y8_BadRatio y1_BadForce y2_BadForce y3_BadForce y4_BadForce y5_BadForce y6_BadForce y7_BadForce y8_BadForce y1_BadLoad y2_BadLoad y3_BadLoad y4_BadLoad y5_BadLoad y6_BadLoad y7_BadLoad y8_BadLoad y1_OtherSize y2_OtherSize y3_OtherSize y4_OtherSize y5_OtherSize y6_OtherSize y7_OtherSize y8_OtherSize y1_NoStone y2_NoStone y3_NoStone y4_NoStone y5_NoStone y6_NoStone y7_NoStone y8_NoStone y1_NoJoint y2_NoJoint y3_NoJoint y4_NoJoint y5_NoJoint y6_NoJoint y7_NoJoint y8_NoJoint y1_NoCorner y2_NoCorner y3_NoCorner y4_NoCorner y5_NoCorner y6_NoCorner y7_NoCorner y8_NoCorner y1_BadBridge y2_BadBridge y3_BadBridge y4_BadBridge y5_BadBridge y6_BadBridge y7_BadBridge y8_BadBridge y1_NoPart y2_NoPart y3_NoPart y4_NoPart y5_NoPart y6_NoPart y7_NoPart y8_NoPart y1_BadRing y2_BadRing y3_BadRing y4_BadRing y5_BadRing y6_BadRing y7_BadRing y8_BadRing y1_BadCut y2_BadCut y3_BadCut y4_BadCut y5_BadCut y6_BadCut y7_BadCut y8_BadCut y1_BadThrust y2_BadThrust y3_BadThrust y4_BadThrust y5_BadThrust y6_BadThrust y7_BadThrust y8_BadThrust y1_BadCorners y2_BadCorners y3_BadCorners y4_BadCorners y5_BadCorners y6_BadCorners y7_BadCorners y8_BadCorners y1_InLine y2_InLine y3_InLine y4_InLine y5_InLine y6_InLine y7_InLine y8_InLine y1_BadMotion y2_BadMotion y3_BadMotion y4_BadMotion y5_BadMotion y6_BadMotion y7_BadMotion y8_BadMotion y1_BadWeights y2_BadWeights y3_BadWeights y4_BadWeights y5_BadWeights y6_BadWeights y7_BadWeights y8_BadWeights y1_Unbalanced y2_Unbalanced y3_Unbalanced y4_Unbalanced y5_Unbalanced y6_Unbalanced y7_Unbalanced y8_Unbalanced y1_NotStanding y2_NotStanding y3_NotStanding y4_NotStanding y5_NotStanding y6_NotStanding y7_NotStanding y8_NotStanding y1_BadPalette y2_BadPalette y3_BadPalette y4_BadPalette y5_BadPalette y6_BadPalette y7_BadPalette y8_BadPalette y1_BadMix y2_BadMix y3_BadMix y4_BadMix y5_BadMix y6_BadMix y7_BadMix y8_BadMix y1_BadRows y2_BadRows y3_BadRows y4_BadRows y5_BadRows y6_BadRows y7_BadRows y8_BadRows y1_BadCart y2_BadCart y3_BadCart y4_BadCart y5_BadCart y6_BadCart y7_BadCart y8_BadCart y1_BadRule y2_BadRule y3_BadRule y4_BadRule y5_BadRule y6_BadRule y7_BadRule y8_BadRule y1_NoCart y2_NoCart y3_NoCart y4_NoCart y5_NoCart y6_NoCart y7_NoCart y8_NoCart y1_BadRoad y2_BadRoad y3_BadRoad y4_BadRoad y5_BadRoad y6_BadRoad y7_BadRoad y8_BadRoad y1_NoLane y2_NoLane y3_NoLane y4_NoLane y5_NoLane y6_NoLane y7_NoLane y8_NoLane y1_BadLimit y2_BadLimit y3_BadLimit y4_BadLimit y5_BadLimit y6_BadLimit y7_BadLimit y8_BadLimit y1_NotSafe y2_NotSafe y3_NotSafe y4_NotSafe y5_NotSafe y6_NotSafe y7_NotSafe y8_NotSafe y1_BadYard y2_BadYard y3_BadYard y4_BadYard y5_BadYard y6_BadYard y7_BadYard y8_BadYard y1_BadStage y2_BadStage y3_BadStage y4_BadStage y5_BadStage y6_BadStage y7_BadStage y8_BadStage y1_BadChange y2_BadChange y3_BadChange y4_BadChange y5_BadChange y6_BadChange y7_BadChange y8_BadChange y1_NoChange y2_NoChange y3_NoChange y4_NoChange y5_NoChange y6_NoChange y7_NoChange y8_NoChange y1_BadRow y2_BadRow y3_BadRow y4_BadRow y5_BadRow y6_BadRow y7_BadRow y8_BadRow z_ValueError z_int z_isinstance z_len z_list z_range z_repr z_str
end K00
open PySem PySem.W PySem.Calls PyProof.Rows
set_option maxHeartbeats 0 in
theorem PySem.Challenge.cw_fourhinges_k00_errors_and_their_fields_holds : PySem.Challenge.rw_fourhinges_k00_errors_and_their_fields.Holds := by
  w_on; o_law
  refine HandSHeadRun.head_any (r := OpenLaw.row PySem.Challenge.rw_fourhinges_k00_errors_and_their_fields) (q := view (OpenLaw.row PySem.Challenge.rw_fourhinges_k00_errors_and_their_fields).prog [46]) (H := K00.hk) (ob := K00.ob) (M := 9000) (loose := K00.nms) (d := HandSHeadRun.topDef (OpenLaw.row PySem.Challenge.rw_fourhinges_k00_errors_and_their_fields).prog 46) (kwd := []) K00.ob_eq
    (by kernel_rfl) (fun s => by kernel_rfl) K00.run (by kernel_rfl) (by kernel_rfl) (by kernel_rfl) (by rfl) (by first | assumption | decide +kernel) (by decide +kernel) ⟨rfl, rfl, rfl, rfl, rfl, by decide +kernel⟩ ?hw ?hc
  case hw => w_witness2
  case hc =>
    refine Tw.walk_ofEG (l := PySem.Challenge.rw_fourhinges_k00_errors_and_their_fields) (n := 63) (k := 4) (x := "_law_script") (CX := fun w => L2.CX (PySem.Challenge.rw_fourhinges_k00_errors_and_their_fields).prog w) rfl (by decide) (by kernel_rfl) ⟨rfl, by decide, by decide⟩ ?F (fun w H s e s' z => K00.no_way (PySem.Challenge.rw_fourhinges_k00_errors_and_their_fields).prog w H s e s' z)
    intro w mg fa h Y G hmg0
    obtain ⟨K, KX, c⟩ := Y
    have hmg : mg ("law" : PySem.Str) = some (.ref fa) := by
      have e : (HandSHeadRun.topDef (OpenLaw.row PySem.Challenge.rw_fourhinges_k00_errors_and_their_fields).prog 46).name = ("law" : PySem.Str) := by kernel_rfl
      rw [← e]
      exact hmg0
    obtain ⟨fd, hb, hF⟩ := K00.facts (l := PySem.Challenge.rw_fourhinges_k00_errors_and_their_fields) (w := w) KX G hmg (c ([], K00.fns) (.head _)) (c (K00.chksa_, []) (.tail _ (.head _)))
    exact ⟨K, fd, K00.spLaw K, KX, hb, fun H a ns hl _ hS => ⟨a, ns, rfl, hS, hl, fun _ => rfl⟩, hF⟩
