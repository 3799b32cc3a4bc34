import PyProof.Rows.All
import Wide.All
import OpenK.AllK
import Wide.FinOn
import HandS.ForMost
import HandS.ForExc
import HandS.ExcInit
import HandS.Wide
import HandS.IsInst
import HandS.Style
import HandS.StrMore
import HandS.RaiseMore
import HandS.Gcd
import PyProof.ListStr
import HandS.Conv
import HandS.Replace
import PyProof.Rows.SortShellAny
import KE.KExcSuper
import HandS.HotCalls
import HandS.ExcField
import KE.KExcIs
import HandS.Codes
import PySem.Challenge.RW_notbehind_k09_orders_and_back
set_option Elab.async false
set_option linter.all false
set_option maxRecDepth 100000
set_option maxHeartbeats 2000000
/-! Nb: data without addresses over the layer's heaps. -/
namespace Nb
open PySem PySem.Spec PyProof.Rows L2
abbrev St := L2.St
/-- data: what a Python value says, tuples and lists by their items -/
inductive D where
  | non | bl (b : Bool) | int (i : Int) | str (x : Str) | ty (n : String)
  | tup (ds : List D) | lst (ds : List D)
  | sto
  | exc (n : Str) (fs : List (Str × D))
  | ins (n : Str) (fs : List (Str × D))
  | dct
/-- what is true of the store's number at k -/
def SOK (k : Nat) (z : Int) : Prop := match k with
  | 0 => 5 ≤ z
  | 1 => 0 ≤ z
  | 2 => 0 ≤ z ∧ z < 2 ^ 61
  | _ => True
def InvS (ns : List Int) : Prop := (5 ≤ ns.length ∧ ns.length ≤ 100000) ∧ ∀ k z, ns[k]? = some z → SOK k z
/-- what stays fixed for a run: the written part, the module's names, the store's address, the exception at hand (its address, class, dict) -/
structure RC where
  K : PySem.W.Frag
  mg : Str → Option Value
  st : Option Addr
  hx : Option (Addr × Addr × Option Addr)
/-- a tuple that is read: tracked and not of M's, or of the written part -/
def TAt (K : PySem.W.Frag) (M : Addr → Prop) (H : Hp) (a : Addr) (xs : List V) : Prop := (Rd H a (.tup xs) ∧ ¬ M a) ∨ SqT K (fun _ => none) a xs
mutual
inductive Rep (R : RC) (M : Addr → Prop) (H : Hp) : V → D → Prop
  | non : Rep R M H .non .non
  | bl (b : Bool) : Rep R M H (.bl b) (.bl b)
  | int (i : Int) : Rep R M H (.int i) (.int i)
  | str (x : Str) : Rep R M H (.str x) (.str x)
  | ty (n : String) : Rep R M H (.ty n) (.ty n)
  | tup {a : Addr} {xs : List V} {ds : List D} : TAt R.K M H a xs → RepL R M H xs ds → Rep R M H (.ref a) (.tup ds)
  | lst {a : Addr} {xs : List V} {ds : List D} : H a = some (.lst xs) → ¬ M a → RepL R M H xs ds → Rep R M H (.ref a) (.lst ds)
  | sto {a : Addr} : R.st = some a → Rep R M H (.ref a) .sto
  | exc0 {a C : Addr} {n : Str} : R.hx = some (a, C, none) → R.mg n = some (.ref C) → Rep R M H (.ref a) (.exc n [])
  | excF {a C d : Addr} {n : Str} {fv : List (Str × V)} {fs : List (Str × D)} : R.hx = some (a, C, some d) → R.mg n = some (.ref C) → H d = some (.xd fv) → ¬ M d → RepF R M H fv fs → Rep R M H (.ref a) (.exc n fs)
  | ins {a C dx : Addr} {n : Str} {fv : List (Str × V)} {fs : List (Str × D)} : H a = some (.ins C dx fv) → ¬ M a → R.mg n = some (.ref C) → RepF R M H fv fs → Rep R M H (.ref a) (.ins n fs)
  | dct {a : Addr} {kvs : List (Key × V)} : H a = some (.dK kvs) → ¬ M a → Rep R M H (.ref a) .dct
inductive RepL (R : RC) (M : Addr → Prop) (H : Hp) : List V → List D → Prop
  | nil : RepL R M H [] []
  | cons {v : V} {d : D} {vs : List V} {ds : List D} : Rep R M H v d → RepL R M H vs ds → RepL R M H (v :: vs) (d :: ds)
inductive RepF (R : RC) (M : Addr → Prop) (H : Hp) : List (Str × V) → List (Str × D) → Prop
  | nil : RepF R M H [] []
  | cons {f : Str} {v : V} {d : D} {vs : List (Str × V)} {ds : List (Str × D)} : Rep R M H v d → RepF R M H vs ds → RepF R M H ((f, v) :: vs) ((f, d) :: ds)
end
/-- what was tracked and is not of M's stands; what is newly of M' was not tracked -/
structure Keep (M M' : Addr → Prop) (H H' : Hp) : Prop where
  k : ∀ a o, H a = some o → ¬ M a → H' a = some o
  m : ∀ a, M' a → M a ∨ H a = none
theorem Keep.refl (M : Addr → Prop) (H : Hp) : Keep M M H H := ⟨fun _ _ h _ => h, fun _ h => .inl h⟩
theorem Keep.trans {M M1 M2 : Addr → Prop} {H H1 H2 : Hp} (a : Keep M M1 H H1) (b : Keep M1 M2 H1 H2) : Keep M M2 H H2 := by
  refine ⟨fun x o h n => b.k x o (a.k x o h n) fun z => ?_, fun x h => ?_⟩
  · rcases a.m x z with z | z
    · exact n z
    · rw [h] at z; cases z
  · rcases b.m x h with z | z
    · exact a.m x z
    · by_cases q : M x
      · exact .inl q
      · refine .inr ?_
        cases e : H x with
        | none => rfl
        | some o => rw [a.k x o e q] at z; cases z
section
variable {R : RC} {M M' : Addr → Prop} {H H' : Hp}
theorem Keep.not (k : Keep M M' H H') {a : Addr} {o : HO} (e : H a = some o) (n : ¬ M a) : ¬ M' a := fun z => by
  rcases k.m a z with z | z
  · exact n z
  · rw [e] at z; cases z
theorem TAt.keep {K : PySem.W.Frag} {a : Addr} {xs : List V} (k : Keep M M' H H') (h : TAt K M H a xs) : TAt K M' H' a xs := by
  rcases h with ⟨h, n⟩ | h
  · rcases h with h | ⟨o, h⟩
    · exact .inl ⟨.inl (k.k a _ h n), k.not h n⟩
    · exact .inl ⟨.inr ⟨o, k.k a _ h n⟩, k.not h n⟩
  · exact .inr h
theorem TAt.sq {K : PySem.W.Frag} {a : Addr} {xs : List V} (h : TAt K M H a xs) : SqT K H a xs := by
  rcases h with ⟨h, _⟩ | h | h
  · exact .inl h
  · rcases h with h | ⟨_, h⟩ <;> cases h
  · exact .inr h
mutual
theorem Rep.keep (k : Keep M M' H H') : ∀ {v : V} {d : D}, Rep R M H v d → Rep R M' H' v d
  | _, _, .non => .non
  | _, _, .bl b => .bl b
  | _, _, .int i => .int i
  | _, _, .str x => .str x
  | _, _, .ty n => .ty n
  | _, _, .tup t l => .tup (t.keep k) (RepL.keep k l)
  | _, _, .lst e n l => .lst (k.k _ _ e n) (k.not e n) (RepL.keep k l)
  | _, _, .sto e => .sto e
  | _, _, .exc0 a b => .exc0 a b
  | _, _, .excF a b c n l => .excF a b (k.k _ _ c n) (k.not c n) (RepF.keep k l)
  | _, _, .ins e n b l => .ins (k.k _ _ e n) (k.not e n) b (RepF.keep k l)
  | _, _, .dct e n => .dct (k.k _ _ e n) (k.not e n)
theorem RepL.keep (k : Keep M M' H H') : ∀ {v : List V} {d : List D}, RepL R M H v d → RepL R M' H' v d
  | _, _, .nil => .nil
  | _, _, .cons a b => .cons (Rep.keep k a) (RepL.keep k b)
theorem RepF.keep (k : Keep M M' H H') : ∀ {v : List (Str × V)} {d : List (Str × D)}, RepF R M H v d → RepF R M' H' v d
  | _, _, .nil => .nil
  | _, _, .cons a b => .cons (Rep.keep k a) (RepF.keep k b)
end
theorem RepL.length : ∀ {v : List V} {d : List D}, RepL R M H v d → v.length = d.length
  | _, _, .nil => rfl
  | _, _, .cons _ b => by rw [List.length_cons, List.length_cons, RepL.length b]
theorem RepL.append : ∀ {v w : List V} {d e : List D}, RepL R M H v d → RepL R M H w e → RepL R M H (v ++ w) (d ++ e)
  | _, _, _, _, .nil, q => q
  | _, _, _, _, .cons a b, q => .cons a (RepL.append b q)
theorem RepL.get : ∀ {vs : List V} {ds : List D} {i : Nat} {d : D}, RepL R M H vs ds → ds[i]? = some d → ∃ v, vs[i]? = some v ∧ Rep R M H v d
  | _, _, _, _, .nil, e => by simp at e
  | _, _, 0, _, .cons a _, e => by simp at e; subst e; exact ⟨_, rfl, a⟩
  | _, _, i + 1, _, .cons _ b, e => by
    obtain ⟨v, h1, h2⟩ := RepL.get (i := i) b (by simpa using e)
    exact ⟨v, by simpa using h1, h2⟩
theorem RepL.get' : ∀ {vs : List V} {ds : List D} {i : Nat} {v : V}, RepL R M H vs ds → vs[i]? = some v → ∃ d, ds[i]? = some d ∧ Rep R M H v d
  | _, _, _, _, .nil, e => by simp at e
  | _, _, 0, _, .cons a _, e => by simp at e; subst e; exact ⟨_, rfl, a⟩
  | _, _, i + 1, _, .cons _ b, e => by
    obtain ⟨v, h1, h2⟩ := RepL.get' (i := i) b (by simpa using e)
    exact ⟨v, by simpa using h1, h2⟩
theorem RepL.drop : ∀ {vs : List V} {ds : List D} (i : Nat), RepL R M H vs ds → RepL R M H (vs.drop i) (ds.drop i)
  | _, _, 0, q => q
  | _, _, _ + 1, .nil => .nil
  | _, _, i + 1, .cons _ b => RepL.drop i b
theorem RepL.take : ∀ {vs : List V} {ds : List D} (i : Nat), RepL R M H vs ds → RepL R M H (vs.take i) (ds.take i)
  | _, _, 0, _ => .nil
  | _, _, _ + 1, .nil => .nil
  | _, _, i + 1, .cons a b => .cons a (RepL.take i b)
theorem RepL.eraseIdx : ∀ {vs : List V} {ds : List D} (i : Nat), RepL R M H vs ds → RepL R M H (vs.eraseIdx i) (ds.eraseIdx i)
  | _, _, _, .nil => .nil
  | _, _, 0, .cons _ b => b
  | _, _, i + 1, .cons a b => .cons a (RepL.eraseIdx i b)
theorem RepL.set {v : V} {d : D} (q : Rep R M H v d) : ∀ {vs : List V} {ds : List D} (i : Nat), RepL R M H vs ds → RepL R M H (vs.set i v) (ds.set i d)
  | _, _, _, .nil => .nil
  | _, _, 0, .cons _ b => .cons q b
  | _, _, i + 1, .cons a b => .cons a (RepL.set q i b)
theorem RepL.reverse : ∀ {vs : List V} {ds : List D}, RepL R M H vs ds → RepL R M H vs.reverse ds.reverse
  | _, _, .nil => .nil
  | _, _, .cons a b => by
    rw [List.reverse_cons, List.reverse_cons]
    exact (RepL.reverse b).append (.cons a .nil)
theorem RepL.ints (ns : List Int) : RepL R M H (ns.map V.int) (ns.map D.int) := by
  induction ns with
  | nil => exact .nil
  | cons n ns ih => exact .cons (.int n) ih
theorem RepL.strs (ns : List Str) : RepL R M H (ns.map V.str) (ns.map D.str) := by
  induction ns with
  | nil => exact .nil
  | cons n ns ih => exact .cons (.str n) ih
theorem RepL.intsV : ∀ {ns : List Int} {vs : List V}, RepL R M H vs (ns.map D.int) → vs = ns.map V.int
  | [], _, h => by cases h; rfl
  | n :: ns, _, h => by
    cases h with
    | cons a b =>
      cases a
      rw [RepL.intsV b]
      rfl
theorem RepL.strsV : ∀ {ns : List Str} {vs : List V}, RepL R M H vs (ns.map D.str) → vs = ns.map V.str
  | [], _, h => by cases h; rfl
  | n :: ns, _, h => by
    cases h with
    | cons a b =>
      cases a
      rw [RepL.strsV b]
      rfl
theorem RepL.blsV : ∀ {ns : List Bool} {vs : List V}, RepL R M H vs (ns.map D.bl) → vs = ns.map V.bl
  | [], _, h => by cases h; rfl
  | n :: ns, _, h => by
    cases h with
    | cons a b =>
      cases a
      rw [RepL.blsV b]
      rfl
end
/-! ### the store, the steps of an expression -/
/-- the store's list bears its word -/
def HInv (R : RC) (H : Hp) : Prop := ∀ a, R.st = some a → ∃ ns : List Int, H a = some (.lst (ns.map V.int)) ∧ InvS ns
/-- what an expression may change: the store; new things come -/
structure Stp (R : RC) (H H' : Hp) : Prop where
  k : ∀ a o, H a = some o → R.st ≠ some a → H' a = some o
  s : HInv R H → HInv R H'
theorem Stp.refl (R : RC) (H : Hp) : Stp R H H := ⟨fun _ _ h _ => h, id⟩
theorem Stp.trans {R : RC} {H H1 H2 : Hp} (a : Stp R H H1) (b : Stp R H1 H2) : Stp R H H2 := ⟨fun x o h n => b.k x o (a.k x o h n) n, fun h => b.s (a.s h)⟩
theorem Stp.new {R : RC} {H : Hp} {p : Addr} {o : HO} (h : H p = none) : Stp R H (upd H p o) := by
  refine ⟨fun a u e _ => by rw [upd_ne (ne_of_none e h)]; exact e, fun q a e => ?_⟩
  obtain ⟨ns, h1, h2⟩ := q a e
  exact ⟨ns, by rw [upd_ne (ne_of_none h1 h)]; exact h1, h2⟩
theorem Stp.none {R : RC} {H H' : Hp} (hi : HInv R H) (k : Stp R H H') {a : Addr} (h : H' a = none) : H a = none := by
  cases e : H a with
  | none => rfl
  | some o =>
    by_cases q : R.st = some a
    · obtain ⟨ns, h1, _⟩ := k.s hi a q
      rw [h1] at h; cases h
    · rw [k.k a o e q] at h; cases h
theorem Stp.keep {R : RC} {M : Addr → Prop} {H H' : Hp} (k : Stp R H H') (hm : ∀ a, R.st = some a → M a) : Keep M M H H' :=
  ⟨fun a o h n => k.k a o h fun z => n (hm a z), fun _ h => .inl h⟩
/-! ### a def's activation -/
structure Act where
  R : RC
  H0 : Hp
  M0 : Addr → Prop
  fr : Bool
/-- what holds of an activation at its start -/
structure Act.Ok (A : Act) : Prop where
  inv : HInv A.R A.H0
  st : ∀ a, A.R.st = some a → A.M0 a
  m : ∀ a, A.M0 a → A.H0 a ≠ none
/-- a slot: nothing is known; data; a list of the def's own that may change -/
inductive SD where
  | un | val (d : D) | own (ds : List D)
abbrev DEnv := List SD
def IsOwn (σ : St) (env : DEnv) (a : Addr) : Prop := ∃ (i : Nat) (ds : List D), env[i]? = some (.own ds) ∧ σ[i]? = some (some (.ref a))
def MM (A : Act) (σ : St) (env : DEnv) (a : Addr) : Prop := A.M0 a ∨ IsOwn σ env a
structure ERep (A : Act) (H : Hp) (σ : St) (env : DEnv) : Prop where
  ok : A.Ok
  len : env.length = σ.length
  val : ∀ (i : Nat) (d : D), env[i]? = some (.val d) → ∃ v, σ[i]? = some (some v) ∧ Rep A.R (MM A σ env) H v d
  own : ∀ (i : Nat) (ds : List D), env[i]? = some (.own ds) → ∃ a vs, σ[i]? = some (some (.ref a)) ∧ H a = some (.lst vs) ∧ RepL A.R (MM A σ env) H vs ds ∧ ¬ A.M0 a ∧ A.H0 a = none
  one : ∀ (i j : Nat) (ds es : List D) (a : Addr), env[i]? = some (.own ds) → env[j]? = some (.own es) → σ[i]? = some (some (.ref a)) → σ[j]? = some (some (.ref a)) → i = j
  base : Stp A.R A.H0 H
section
variable {A : Act} {H H' : Hp} {σ : St} {env : DEnv}
theorem ERep.inv (E : ERep A H σ env) : HInv A.R H := E.base.s E.ok.inv
theorem ERep.mst (E : ERep A H σ env) : ∀ a, A.R.st = some a → MM A σ env a := fun a h => .inl (E.ok.st a h)
theorem ERep.keep (E : ERep A H σ env) (k : Stp A.R H H') : Keep (MM A σ env) (MM A σ env) H H' := k.keep E.mst
theorem ERep.mtrk (E : ERep A H σ env) {a : Addr} (h : MM A σ env a) : H a ≠ none := by
  rcases h with h | ⟨i, ds, h1, h2⟩
  · intro z
    exact E.ok.m a h (Stp.none E.ok.inv E.base z)
  · obtain ⟨b, vs, e1, e2, _⟩ := E.own i ds h1
    rw [h2] at e1
    cases e1
    rw [e2]
    intro z
    cases z
theorem ERep.fresh (E : ERep A H σ env) {a : Addr} (h : H a = none) : ¬ MM A σ env a := fun z => E.mtrk z h
theorem ERep.stp (E : ERep A H σ env) (k : Stp A.R H H') : ERep A H' σ env := by
  have kk := E.keep k
  refine ⟨E.ok, E.len, fun i d h => ?_, fun i ds h => ?_, E.one, E.base.trans k⟩
  · obtain ⟨v, h1, h2⟩ := E.val i d h
    exact ⟨v, h1, h2.keep kk⟩
  · obtain ⟨a, vs, h1, h2, h3, h4, h5⟩ := E.own i ds h
    exact ⟨a, vs, h1, k.k a _ h2 fun z => h4 (E.ok.st a z), h3.keep kk, h4, h5⟩
end
/-! ### the judgements -/
abbrev Ex := Str × List (Str × D)
def XRep (R : RC) (M : Addr → Prop) (H : Hp) (cls : Value) (dd : Option Addr) (x : Ex) : Prop :=
  ∃ C, cls = .ref C ∧ R.mg x.1 = some (.ref C) ∧ ((x.2 = [] ∧ dd = none) ∨ ∃ d fv, dd = some d ∧ H d = some (.xd fv) ∧ ¬ M d ∧ RepF R M H fv x.2)
abbrev DE := DEnv → (D → Prop) → (Ex → Prop) → Prop
abbrev DL := DEnv → (List D → Prop) → (Ex → Prop) → Prop
abbrev DB := DEnv → (Bool → Prop) → (Ex → Prop) → Prop
structure KEnd where
  nx : DEnv → Prop
  rt : D → DEnv → Prop
  bk : DEnv → Prop := fun _ => False
  ct : DEnv → Prop := fun _ => False
  ex : Ex → DEnv → Prop
abbrev DS := KEnd → DEnv → Prop
/-- what the def hands back: data; where fr is told, a new list -/
def RetRep (A : Act) (H : Hp) (v : V) (d : D) : Prop := if A.fr = true then ∃ p vs ds, v = .ref p ∧ d = .lst ds ∧ A.H0 p = none ∧ H p = some (.lst vs) ∧ RepL A.R (fun a => A.M0 a ∨ a = p) H vs ds else Rep A.R A.M0 H v d
def XOut (A : Act) (W : WX) (σ : St) (env : DEnv) (H : Hp) (Ed : Ex → Prop) : Prop := ∀ x cls dd H', Stp A.R H H' → XRep A.R (MM A σ env) H' cls dd x → Ed x → W cls dd σ H'
def toE (A : Act) (W : WX) (g : DE) : TE := fun σ H Q => ∃ (env : DEnv) (Qd : D → Prop) (Ed : Ex → Prop), ERep A H σ env ∧ g env Qd Ed ∧
  (∀ v d H', Stp A.R H H' → Rep A.R (MM A σ env) H' v d → Qd d → Q v H') ∧ XOut A W σ env H Ed
def toL (A : Act) (W : WX) (g : DL) : TA := fun σ H Q => ∃ (env : DEnv) (Qd : List D → Prop) (Ed : Ex → Prop), ERep A H σ env ∧ g env Qd Ed ∧
  (∀ v d H', Stp A.R H H' → RepL A.R (MM A σ env) H' v d → Qd d → Q v H') ∧ XOut A W σ env H Ed
def toB (A : Act) (W : WX) (g : DB) : TT := fun σ H Q => ∃ (env : DEnv) (Qd : Bool → Prop) (Ed : Ex → Prop), ERep A H σ env ∧ g env Qd Ed ∧
  (∀ b H', Stp A.R H H' → Qd b → Q b H') ∧ XOut A W σ env H Ed
def toS (A : Act) (W : WX) (s : DS) : TS := fun De σ H => ∃ (env : DEnv) (K : KEnd), ERep A H σ env ∧ s K env ∧
  (∀ σ' H' env', Keep (MM A σ env) (MM A σ' env') H H' → ERep A H' σ' env' → K.nx env' → De.nx σ' H') ∧
  (∀ σ' H' env', Keep (MM A σ env) (MM A σ' env') H H' → ERep A H' σ' env' → K.bk env' → De.bk σ' H') ∧
  (∀ σ' H' env', Keep (MM A σ env) (MM A σ' env') H H' → ERep A H' σ' env' → K.ct env' → De.ct σ' H') ∧
  (∀ v d σ' H' env', ERep A H' σ' env' → RetRep A H' v d → K.rt d env' → De.rt v H') ∧
  (∀ x cls dd σ' H' env', Keep (MM A σ env) (MM A σ' env') H H' → ERep A H' σ' env' → XRep A.R (MM A σ' env') H' cls dd x → K.ex x env' → W cls dd σ' H')
structure GE (X : Cx) (A : Act) (W : WX) (e : Expr) (g : DE) : Prop where
  p : PE X e (toE A W g)
structure GL (X : Cx) (A : Act) (W : WX) (es : List Expr) (g : DL) : Prop where
  p : PA X es (toL A W g)
structure GT (X : Cx) (A : Act) (W : WX) (e : Expr) (g : DB) : Prop where
  p : PT X e (toB A W g)
structure GS (X : Cx) (A : Act) (W : WX) (s : Stmt) (g : DS) : Prop where
  p : PS X s (toS A W g)
structure GSs (X : Cx) (A : Act) (W : WX) (s : List Stmt) (g : DS) : Prop where
  p : PSs X s (toS A W g)
section
variable {X : Cx} {A : Act} {W : WX}
theorem pe_imp {e : Expr} {t t' : TE} (h : PE X e t) (i : ∀ σ H Q, t' σ H Q → t σ H Q) : PE X e t' := ⟨fun pins s σ H Q I w => h.run pins s σ H Q I (i σ H Q w)⟩
theorem pa_imp {e : List Expr} {t t' : TA} (h : PA X e t) (i : ∀ σ H Q, t' σ H Q → t σ H Q) : PA X e t' := ⟨fun pos pins s σ H Q I w => h.run pos pins s σ H Q I (i σ H Q w)⟩
theorem pt_imp {e : Expr} {t t' : TT} (h : PT X e t) (i : ∀ σ H Q, t' σ H Q → t σ H Q) : PT X e t' := ⟨fun pins s σ H Q I w => h.run pins s σ H Q I (i σ H Q w)⟩
theorem ps_imp {e : Stmt} {t t' : TS} (h : PS X e t) (i : ∀ De σ H, t' De σ H → t De σ H) : PS X e t' := ⟨fun pins s σ H De I w => h.run pins s σ H De I (i De σ H w)⟩
theorem pss_imp {e : List Stmt} {t t' : TS} (h : PSs X e t) (i : ∀ De σ H, t' De σ H → t De σ H) : PSs X e t' := ⟨fun pins s σ H De I w => h.run pins s σ H De I (i De σ H w)⟩
theorem XOut.stp {σ : St} {env : DEnv} {H H' : Hp} {Ed : Ex → Prop} (x : XOut A W σ env H Ed) (k : Stp A.R H H') : XOut A W σ env H' Ed := fun e cls dd H2 k2 r q => x e cls dd H2 (k.trans k2) r q
/-- a part of an expression, its value handed on -/
theorem toE_step {g : DE} {σ : St} {H : Hp} {env : DEnv} {Q : VK} {Qd : D → Prop} {Ed : Ex → Prop} (E : ERep A H σ env) (h : g env Qd Ed) (x : XOut A W σ env H Ed)
    (k : ∀ v d H', Stp A.R H H' → ERep A H' σ env → XOut A W σ env H' Ed → Rep A.R (MM A σ env) H' v d → Qd d → Q v H') : toE A W g σ H Q :=
  ⟨env, Qd, Ed, E, h, fun v d H' s r q => k v d H' s (E.stp s) (x.stp s) r q, x⟩
/-! ### arguments -/
def dnil : DL := fun _ Q _ => Q []
def dcons (g : DE) (gs : DL) : DL := fun env Q Ed => g env (fun d => gs env (fun ds => Q (d :: ds)) Ed) Ed
theorem gl_nil : GL X A W [] dnil := ⟨pa_imp pa_nil fun σ H Q ⟨env, Qd, Ed, E, h, q, x⟩ => q [] [] H (Stp.refl _ _) .nil h⟩
theorem gl_cons {e : Expr} {es : List Expr} {g : DE} {gs : DL} (h1 : GE X A W e g) (h2 : GL X A W es gs) (hs : starEach (e :: es) X.env = (false, eval e X.env) :: starEach es X.env := by rfl) : GL X A W (e :: es) (dcons g gs) := by
  refine ⟨pa_imp (pa_cons h1.p h2.p hs) fun σ H Q ⟨env, Qd, Ed, E, h, q, x⟩ => toE_step E h x fun v d H' s E' x' r h' => ?_⟩
  exact ⟨env, _, Ed, E', h', fun vs ds H2 s2 r2 q2 => q _ _ H2 (s.trans s2) (.cons (r.keep (E'.keep s2)) r2) q2, x'⟩
/-! ### names, constants -/
def dvar (i : Nat) : DE := fun env Q _ => match env[i]? with
  | some (.val d) => Q d
  | _ => False
def dk (d : D) : DE := fun _ Q _ => Q d
theorem ge_var {i : Nat} {e : Expr} (h : PE X e (tVar i)) : GE X A W e (dvar i) := by
  refine ⟨pe_imp h fun σ H Q ⟨env, Qd, Ed, E, h, q, x⟩ => ?_⟩
  unfold dvar at h
  cases e : env[i]? with
  | none => rw [e] at h; exact h.elim
  | some s =>
    rw [e] at h
    cases s with
    | un => exact h.elim
    | own ds => exact h.elim
    | val d =>
      obtain ⟨v, h1, h2⟩ := E.val i d e
      exact ⟨v, h1, q v d H (Stp.refl _ _) h2 h⟩
/-- a constant: a value that means the same in every heap -/
theorem ge_const {v : V} {d : D} {e : Expr} (h : PE X e (tC v)) (r : ∀ M H, Rep A.R M H v d) : GE X A W e (dk d) :=
  ⟨pe_imp h fun σ H Q ⟨env, Qd, Ed, E, h, q, x⟩ => q v d H (Stp.refl _ _) (r _ _) h⟩
theorem ge_int {i : Int} {j pos} : GE X A W (.Constant (.int i) j pos) (dk (.int i)) := ge_const pe_int fun _ _ => .int i
theorem ge_str {z : Str} {j pos} : GE X A W (.Constant (.str z) j pos) (dk (.str z)) := ge_const pe_str fun _ _ => .str z
theorem ge_bl {b : Bool} {j pos} : GE X A W (.Constant (.bool b) j pos) (dk (.bl b)) := ge_const pe_bl fun _ _ => .bl b
theorem ge_non {j pos} : GE X A W (.Constant .none j pos) (dk .non) := ge_const pe_non fun _ _ => .non
/-! ### displays -/
abbrev LINE : Nat := 16777216
theorem line_is : (sizeLine : Nat) = LINE := sizeLine_eq
theorem TAt.new {K : PySem.W.Frag} {M : Addr → Prop} {H : Hp} {p : Addr} {xs : List V} (n : ¬ M p) : TAt K M (upd H p (.tup xs)) p xs := .inl ⟨.inl upd_same, n⟩
def dtup (gs : DL) : DE := fun env Q Ed => gs env (fun ds => ds.length ≤ LINE ∧ Q (.tup ds)) Ed
def dlst (gs : DL) : DE := fun env Q Ed => gs env (fun ds => ds.length ≤ LINE ∧ Q (.lst ds)) Ed
theorem ge_tup {es : List Expr} {k pos} {gs : DL} (h : GL X A W es gs) : GE X A W (.Tuple es k pos) (dtup gs) := by
  refine ⟨pe_imp (pe_tup h.p) fun σ H Q ⟨env, Qd, Ed, E, h, q, x⟩ => ?_⟩
  refine ⟨env, _, Ed, E, h, fun vs ds H' s r hq => ⟨by rw [r.length, line_is]; exact hq.1, fun p hp => ?_⟩, x⟩
  have E' := E.stp s
  have s2 : Stp A.R H' (upd H' p (.tup vs)) := Stp.new hp
  exact q _ _ _ (s.trans s2) (.tup (TAt.new (E'.fresh hp)) (r.keep (E'.keep s2))) hq.2
theorem ge_lst {es : List Expr} {pos} {gs : DL} (h : GL X A W es gs) : GE X A W (.List es pos) (dlst gs) := by
  refine ⟨pe_imp (pe_lst h.p) fun σ H Q ⟨env, Qd, Ed, E, h, q, x⟩ => ?_⟩
  refine ⟨env, _, Ed, E, h, fun vs ds H' s r hq => ⟨by rw [r.length, line_is]; exact hq.1, fun p hp => ?_⟩, x⟩
  have E' := E.stp s
  have s2 : Stp A.R H' (upd H' p (.lst vs)) := Stp.new hp
  exact q _ _ _ (s.trans s2) (.lst upd_same (E'.fresh hp) (r.keep (E'.keep s2))) hq.2
/-! ### operators by values -/
/-- f says of data what r asks of values -/
def OpD (A : Act) (r : R2) (f : D → D → (D → Prop) → Prop) : Prop := ∀ (M : Addr → Prop) (H : Hp) (x y : V) (d e : D) (Q : VK) (Qd : D → Prop), (∀ a, A.R.st = some a → M a) → (∀ a, H a = none → ¬ M a) → Rep A.R M H x d → Rep A.R M H y e → f d e Qd →
  (∀ v d' H', Stp A.R H H' → Rep A.R M H' v d' → Qd d' → Q v H') → r x y H Q
def dop (f : D → D → (D → Prop) → Prop) (ga gb : DE) : DE := fun env Q Ed => ga env (fun x => gb env (fun y => f x y Q) Ed) Ed
theorem tOp_of {r : R2} {f : D → D → (D → Prop) → Prop} {ga gb : DE} (o : OpD A r f) {σ : St} {H : Hp} {Q : VK} (h : toE A W (dop f ga gb) σ H Q) : tOp r (toE A W ga) (toE A W gb) σ H Q := by
  obtain ⟨env, Qd, Ed, E, h, q, x⟩ := h
  refine toE_step E h x fun v d H1 s1 E1 x1 r1 h1 => toE_step E1 h1 x1 fun w e H2 s2 E2 x2 r2 h2 => ?_
  exact o _ H2 v w d e Q Qd E2.mst (fun a z => E2.fresh z) (r1.keep (E1.keep s2)) r2 h2 fun u d' H3 s3 r3 q3 => q u d' H3 ((s1.trans s2).trans s3) r3 q3
theorem ge_bin {op : Operator} {r : R2} {f : D → D → (D → Prop) → Prop} {a b : Expr} {pos} {ga gb : DE} (o : OpR X (binaryOp op) r) (od : OpD A r f) (ha : GE X A W a ga) (hb : GE X A W b gb) : GE X A W (.BinOp a op b pos) (dop f ga gb) :=
  ⟨pe_imp (pe_op o ha.p hb.p) fun _ _ _ h => tOp_of od h⟩
theorem ge_cmp {op : CmpOp} {r : R2} {f : D → D → (D → Prop) → Prop} {a b : Expr} {pos} {ga gb : DE} (o : OpR X (compareOp op) r) (od : OpD A r f) (ha : GE X A W a ga) (hb : GE X A W b gb) (hm : behindInMarks op b = false) : GE X A W (.Compare a [op] [b] pos) (dop f ga gb) :=
  ⟨pe_imp (pe_cmpR o ha.p hb.p hm) fun _ _ _ h => tOp_of od h⟩
def dtest (g : DE) : DB := fun env Q Ed => g env (fun d => match d with
  | .bl b => Q b
  | _ => False) Ed
theorem gt_cmp {op : CmpOp} {r : R2} {f : D → D → (D → Prop) → Prop} {a b : Expr} {pos} {ga gb : DE} (o : OpR X (compareOp op) r) (od : OpD A r f) (ha : GE X A W a ga) (hb : GE X A W b gb) (hm : behindInMarks op b = false) : GT X A W (.Compare a [op] [b] pos) (dtest (dop f ga gb)) := by
  refine ⟨pt_imp (pt_cmpR o ha.p hb.p hm) fun σ H Q ⟨env, Qd, Ed, E, h, q, x⟩ => tOp_of od ⟨env, _, Ed, E, h, fun v d H' s r hd => ?_, x⟩⟩
  cases d <;> first | exact hd.elim | skip
  cases r
  exact ⟨_, rfl, q _ H' s hd⟩
theorem ge_sub {r : R2} {f : D → D → (D → Prop) → Prop} {a b : Expr} {pos} {ga gb : DE} (o : IxR X r) (od : OpD A r f) (ha : GE X A W a ga) (hb : GE X A W b gb) (hs : PlainIx b) : GE X A W (.Subscript a b pos) (dop f ga gb) :=
  ⟨pe_imp (pe_ix o ha.p hb.p hs) fun _ _ _ h => tOp_of od h⟩
theorem OpD.or {r r' : R2} {f f' : D → D → (D → Prop) → Prop} (a : OpD A r f) (b : OpD A r' f') : OpD A (fun x y H Q => r x y H Q ∨ r' x y H Q) (fun x y Q => f x y Q ∨ f' x y Q) := fun M H x y d e Q Qd h1 h2 h3 h4 h5 h6 =>
  h5.elim (fun z => .inl (a M H x y d e Q Qd h1 h2 h3 h4 z h6)) fun z => .inr (b M H x y d e Q Qd h1 h2 h3 h4 z h6)
end
end Nb
set_option maxRecDepth 100000
set_option maxHeartbeats 2000000
/-! Nb: statements. -/
namespace Nb
open PySem PySem.Spec PyProof.Rows L2
section
variable {A : Act} {H H' : Hp} {σ : St} {env : DEnv}
theorem get_set {α : Type} (l : List α) (i j : Nat) (x : α) : (l.set i x)[j]? = if i = j ∧ j < l.length then some x else l[j]? := by
  rw [List.getElem?_set]
  by_cases h : i = j
  · subst h
    by_cases h2 : i < l.length
    · simp [h2]
    · simp [h2, List.getElem?_eq_none (Nat.le_of_not_lt h2)]
  · simp [h]
/-- a slot takes data -/
theorem mm_set {i : Nat} {v : V} {d : D} {a : Addr} (hl : env.length = σ.length) (h : MM A (σ.set i (some v)) (env.set i (.val d)) a) : MM A σ env a := by
  rcases h with h | ⟨j, ds, h1, h2⟩
  · exact .inl h
  · refine .inr ⟨j, ds, ?_⟩
    rw [get_set] at h1 h2
    by_cases c : i = j ∧ j < env.length
    · rw [if_pos c] at h1; cases h1
    · rw [if_neg c] at h1
      rw [if_neg (by rw [← hl]; exact c)] at h2
      exact ⟨h1, h2⟩
theorem keep_sub {M M' : Addr → Prop} {H : Hp} (h : ∀ a, M' a → M a) : Keep M M' H H := ⟨fun _ _ e _ => e, fun a z => .inl (h a z)⟩
theorem ERep.set {i : Nat} {v : V} {d : D} (E : ERep A H σ env) (r : Rep A.R (MM A σ env) H v d) : ERep A H (σ.set i (some v)) (env.set i (.val d)) := by
  have ks : Keep (MM A σ env) (MM A (σ.set i (some v)) (env.set i (.val d))) H H := keep_sub fun a => mm_set E.len
  refine ⟨E.ok, by rw [List.length_set, List.length_set]; exact E.len, fun j e h => ?_, fun j ds h => ?_, fun j k ds es a h1 h2 h3 h4 => ?_, E.base⟩
  · rw [get_set] at h
    by_cases c : i = j ∧ j < env.length
    · rw [if_pos c] at h
      cases h
      exact ⟨v, by rw [get_set, if_pos (by rw [← E.len]; exact c)], r.keep ks⟩
    · rw [if_neg c] at h
      obtain ⟨w, h1, h2⟩ := E.val j e h
      exact ⟨w, by rw [get_set, if_neg (by rw [← E.len]; exact c)]; exact h1, h2.keep ks⟩
  · rw [get_set] at h
    by_cases c : i = j ∧ j < env.length
    · rw [if_pos c] at h; cases h
    · rw [if_neg c] at h
      obtain ⟨a, vs, h1, h2, h3, h4, h5⟩ := E.own j ds h
      exact ⟨a, vs, by rw [get_set, if_neg (by rw [← E.len]; exact c)]; exact h1, h2, h3.keep ks, h4, h5⟩
  · rw [get_set] at h1 h2 h3 h4
    by_cases c : i = j ∧ j < env.length
    · rw [if_pos c] at h1; cases h1
    · by_cases c2 : i = k ∧ k < env.length
      · rw [if_pos c2] at h2; cases h2
      · rw [if_neg c] at h1
        rw [if_neg c2] at h2
        rw [if_neg (by rw [← E.len]; exact c)] at h3
        rw [if_neg (by rw [← E.len]; exact c2)] at h4
        exact E.one j k ds es a h1 h2 h3 h4
theorem ERep.setKeep {i : Nat} {v : V} {d : D} (E : ERep A H σ env) : Keep (MM A σ env) (MM A (σ.set i (some v)) (env.set i (.val d))) H H := keep_sub fun a => mm_set E.len
/-- a slot takes a new list of the def's own -/
theorem ERep.setOwn {i : Nat} {p : Addr} {vs : List V} {ds : List D} (E : ERep A H σ env) (hp : H p = none) (h0 : Stp A.R H H') (hq : H' p = some (.lst vs)) (r : RepL A.R (fun a => MM A σ env a ∨ a = p) H' vs ds) :
    ERep A H' (σ.set i (some (.ref p))) (env.set i (.own ds)) ∧ Keep (MM A σ env) (MM A (σ.set i (some (.ref p))) (env.set i (.own ds))) H H' := by
  have E' := E.stp h0
  have mm : ∀ a, MM A (σ.set i (some (.ref p))) (env.set i (.own ds)) a → MM A σ env a ∨ a = p := fun a h => by
    rcases h with h | ⟨j, es, h1, h2⟩
    · exact .inl (.inl h)
    · rw [get_set] at h1 h2
      by_cases c : i = j ∧ j < env.length
      · rw [if_pos (by rw [← E.len]; exact c)] at h2
        cases h2
        exact .inr rfl
      · rw [if_neg c] at h1
        rw [if_neg (by rw [← E.len]; exact c)] at h2
        exact .inl (.inr ⟨j, es, h1, h2⟩)
  have kk : Keep (MM A σ env) (MM A (σ.set i (some (.ref p))) (env.set i (.own ds))) H H' := ⟨(E.keep h0).k, fun a z => (mm a z).elim .inl fun e => .inr (by rw [e]; exact hp)⟩
  have k2 : Keep (fun a => MM A σ env a ∨ a = p) (MM A (σ.set i (some (.ref p))) (env.set i (.own ds))) H' H' := keep_sub mm
  have np : ¬ MM A σ env p := E.fresh hp
  have n0 : A.H0 p = none := Stp.none E.ok.inv E.base hp
  refine ⟨⟨E.ok, by rw [List.length_set, List.length_set]; exact E.len, fun j e h => ?_, fun j es h => ?_, fun j k es fs a h1 h2 h3 h4 => ?_, E'.base⟩, kk⟩
  · rw [get_set] at h
    by_cases c : i = j ∧ j < env.length
    · rw [if_pos c] at h; cases h
    · rw [if_neg c] at h
      obtain ⟨w, h1, h2⟩ := E.val j e h
      exact ⟨w, by rw [get_set, if_neg (by rw [← E.len]; exact c)]; exact h1, h2.keep kk⟩
  · rw [get_set] at h
    by_cases c : i = j ∧ j < env.length
    · rw [if_pos c] at h
      cases h
      exact ⟨p, vs, by rw [get_set, if_pos (by rw [← E.len]; exact c)], hq, r.keep k2, fun z => np (.inl z), n0⟩
    · rw [if_neg c] at h
      obtain ⟨a, ws, h1, h2, h3, h4, h5⟩ := E.own j es h
      exact ⟨a, ws, by rw [get_set, if_neg (by rw [← E.len]; exact c)]; exact h1, h0.k a _ h2 fun z => h4 (E.ok.st a z), h3.keep kk, h4, h5⟩
  · rw [get_set] at h1 h2 h3 h4
    by_cases c : i = j ∧ j < env.length
    · by_cases c2 : i = k ∧ k < env.length
      · exact c.1.symm.trans c2.1
      · rw [if_pos (by rw [← E.len]; exact c)] at h3
        rw [if_neg c2] at h2
        rw [if_neg (by rw [← E.len]; exact c2)] at h4
        cases h3
        exact absurd (.inr ⟨k, fs, h2, h4⟩) np
    · rw [if_neg c] at h1
      rw [if_neg (by rw [← E.len]; exact c)] at h3
      by_cases c2 : i = k ∧ k < env.length
      · rw [if_pos (by rw [← E.len]; exact c2)] at h4
        cases h4
        exact absurd (.inr ⟨j, es, h1, h3⟩) np
      · rw [if_neg c2] at h2
        rw [if_neg (by rw [← E.len]; exact c2)] at h4
        exact E.one j k es fs a h1 h2 h3 h4
/-- a list of the def's own changes -/
theorem ERep.mut {i : Nat} {a : Addr} {us vs : List V} {ds es : List D} (E : ERep A H σ env) (h1 : env[i]? = some (.own ds)) (h2 : σ[i]? = some (some (.ref a))) (r : RepL A.R (MM A σ env) H vs es) :
    ERep A (upd H a (.lst vs)) σ (env.set i (.own es)) ∧ Keep (MM A σ env) (MM A σ (env.set i (.own es))) H (upd H a (.lst vs)) := by
  obtain ⟨b, ws, e1, e2, e3, e4, e5⟩ := E.own i ds h1
  rw [h2] at e1
  cases e1
  have hi : i < env.length := (List.getElem?_eq_some_iff.mp h1).1
  have ma : MM A σ env a := .inr ⟨i, ds, h1, h2⟩
  have mm : ∀ b, MM A σ (env.set i (.own es)) b → MM A σ env b := fun b h => by
    rcases h with h | ⟨j, fs, q1, q2⟩
    · exact .inl h
    · rw [get_set] at q1
      by_cases c : i = j ∧ j < env.length
      · rw [← c.1] at q2
        exact .inr ⟨i, ds, h1, q2⟩
      · rw [if_neg c] at q1
        exact .inr ⟨j, fs, q1, q2⟩
  have kk : Keep (MM A σ env) (MM A σ (env.set i (.own es))) H (upd H a (.lst vs)) := ⟨fun b o e n => by rw [upd_ne (fun z => n (by rw [z]; exact ma))]; exact e, fun b z => .inl (mm b z)⟩
  refine ⟨⟨E.ok, by rw [List.length_set]; exact E.len, fun j e h => ?_, fun j fs h => ?_, fun j k fs gs b q1 q2 q3 q4 => ?_, ⟨fun b o e n => ?_, fun hi b hb => ?_⟩⟩, kk⟩
  · rw [get_set] at h
    by_cases c : i = j ∧ j < env.length
    · rw [if_pos c] at h; cases h
    · rw [if_neg c] at h
      obtain ⟨w, q1, q2⟩ := E.val j e h
      exact ⟨w, q1, q2.keep kk⟩
  · rw [get_set] at h
    by_cases c : i = j ∧ j < env.length
    · rw [if_pos c] at h
      cases h
      exact ⟨a, vs, by rw [← c.1]; exact h2, upd_same, r.keep kk, e4, e5⟩
    · rw [if_neg c] at h
      obtain ⟨b, ys, q1, q2, q3, q4, q5⟩ := E.own j fs h
      refine ⟨b, ys, q1, ?_, q3.keep kk, q4, q5⟩
      rw [upd_ne]
      · exact q2
      · intro z
        rw [z] at q1
        exact c ⟨E.one i j ds fs a h1 h h2 q1, (List.getElem?_eq_some_iff.mp h).1⟩
  · have g : ∀ {j : Nat} {fs : List D}, (env.set i (.own es))[j]? = some (.own fs) → ∃ fs', env[j]? = some (.own fs') := fun {j fs} q => by
      rw [get_set] at q
      by_cases c : i = j ∧ j < env.length
      · exact ⟨ds, by rw [← c.1]; exact h1⟩
      · rw [if_neg c] at q
        exact ⟨fs, q⟩
    obtain ⟨f1, q1⟩ := g q1
    obtain ⟨f2, q2⟩ := g q2
    exact E.one j k f1 f2 b q1 q2 q3 q4
  · rw [upd_ne (fun z => by rw [z, e5] at e; cases e)]
    exact E.base.k b o e n
  · obtain ⟨ns, z1, z2⟩ := E.base.s hi b hb
    refine ⟨ns, ?_, z2⟩
    rw [upd_ne (fun z => e4 (by rw [← z]; exact E.ok.st b hb))]
    exact z1
/-- a list of the def's own is let go: it changes no more -/
theorem ERep.freeze {i : Nat} {ds : List D} (E : ERep A H σ env) (h1 : env[i]? = some (.own ds)) :
    ERep A H σ (env.set i (.val (.lst ds))) ∧ Keep (MM A σ env) (MM A σ (env.set i (.val (.lst ds)))) H H := by
  obtain ⟨a, ws, e1, e2, e3, e4, e5⟩ := E.own i ds h1
  have hi : i < env.length := (List.getElem?_eq_some_iff.mp h1).1
  have mm : ∀ b, MM A σ (env.set i (.val (.lst ds))) b → MM A σ env b ∧ b ≠ a := fun b h => by
    rcases h with h | ⟨j, fs, q1, q2⟩
    · exact ⟨.inl h, fun z => e4 (by rw [← z]; exact h)⟩
    · rw [get_set] at q1
      by_cases c : i = j ∧ j < env.length
      · rw [if_pos c] at q1; cases q1
      · rw [if_neg c] at q1
        exact ⟨.inr ⟨j, fs, q1, q2⟩, fun z => c ⟨E.one i j ds fs a h1 q1 e1 (by rw [← z]; exact q2), (List.getElem?_eq_some_iff.mp q1).1⟩⟩
  have kk : Keep (MM A σ env) (MM A σ (env.set i (.val (.lst ds)))) H H := keep_sub fun b h => (mm b h).1
  refine ⟨⟨E.ok, by rw [List.length_set]; exact E.len, fun j e h => ?_, fun j fs h => ?_, fun j k fs gs b q1 q2 q3 q4 => ?_, E.base⟩, kk⟩
  · rw [get_set] at h
    by_cases c : i = j ∧ j < env.length
    · rw [if_pos c] at h
      cases h
      exact ⟨.ref a, by rw [← c.1]; exact e1, .lst e2 (fun z => (mm a z).2 rfl) (e3.keep kk)⟩
    · rw [if_neg c] at h
      obtain ⟨w, q1, q2⟩ := E.val j e h
      exact ⟨w, q1, q2.keep kk⟩
  · rw [get_set] at h
    by_cases c : i = j ∧ j < env.length
    · rw [if_pos c] at h; cases h
    · rw [if_neg c] at h
      obtain ⟨b, ys, q1, q2, q3, q4, q5⟩ := E.own j fs h
      exact ⟨b, ys, q1, q2, q3.keep kk, q4, q5⟩
  · have g : ∀ {j : Nat} {fs : List D}, (env.set i (.val (.lst ds)))[j]? = some (.own fs) → env[j]? = some (.own fs) := fun {j fs} q => by
      rw [get_set] at q
      by_cases c : i = j ∧ j < env.length
      · rw [if_pos c] at q; cases q
      · rw [if_neg c] at q
        exact q
    exact E.one j k fs gs b (g q1) (g q2) q3 q4
/-- a slot is forgotten -/
theorem ERep.forget {i : Nat} (E : ERep A H σ env) : ERep A H (σ.set i none) (env.set i .un) ∧ Keep (MM A σ env) (MM A (σ.set i none) (env.set i .un)) H H := by
  have mm : ∀ b, MM A (σ.set i none) (env.set i .un) b → MM A σ env b := fun b h => by
    rcases h with h | ⟨j, fs, q1, q2⟩
    · exact .inl h
    · rw [get_set] at q1 q2
      by_cases c : i = j ∧ j < env.length
      · rw [if_pos c] at q1; cases q1
      · rw [if_neg c] at q1
        rw [if_neg (by rw [← E.len]; exact c)] at q2
        exact .inr ⟨j, fs, q1, q2⟩
  have kk : Keep (MM A σ env) (MM A (σ.set i none) (env.set i .un)) H H := keep_sub mm
  refine ⟨⟨E.ok, by rw [List.length_set, List.length_set]; exact E.len, fun j e h => ?_, fun j fs h => ?_, fun j k fs gs b q1 q2 q3 q4 => ?_, E.base⟩, kk⟩
  · rw [get_set] at h
    by_cases c : i = j ∧ j < env.length
    · rw [if_pos c] at h; cases h
    · rw [if_neg c] at h
      obtain ⟨w, q1, q2⟩ := E.val j e h
      exact ⟨w, by rw [get_set, if_neg (by rw [← E.len]; exact c)]; exact q1, q2.keep kk⟩
  · rw [get_set] at h
    by_cases c : i = j ∧ j < env.length
    · rw [if_pos c] at h; cases h
    · rw [if_neg c] at h
      obtain ⟨b, ys, q1, q2, q3, q4, q5⟩ := E.own j fs h
      exact ⟨b, ys, by rw [get_set, if_neg (by rw [← E.len]; exact c)]; exact q1, q2, q3.keep kk, q4, q5⟩
  · rw [get_set] at q1 q2 q3 q4
    by_cases c : i = j ∧ j < env.length
    · rw [if_pos c] at q1; cases q1
    · by_cases c2 : i = k ∧ k < env.length
      · rw [if_pos c2] at q2; cases q2
      · rw [if_neg c] at q1
        rw [if_neg c2] at q2
        rw [if_neg (by rw [← E.len]; exact c)] at q3
        rw [if_neg (by rw [← E.len]; exact c2)] at q4
        exact E.one j k fs gs b q1 q2 q3 q4
/-- data for the caller -/
theorem ERep.toRep0 (E : ERep A H σ env) {v : V} {d : D} (r : Rep A.R (MM A σ env) H v d) : Rep A.R A.M0 H v d := r.keep (keep_sub fun _ z => .inl z)
theorem ERep.retRep (E : ERep A H σ env) (hf : A.fr = false) {v : V} {d : D} (r : Rep A.R (MM A σ env) H v d) : RetRep A H v d := by
  unfold RetRep
  rw [hf, if_neg Bool.false_ne_true]
  exact E.toRep0 r
end
section
variable {X : Cx} {A : Act} {W : WX}
/-! ### blocks -/
def dnext : DS := fun K env => K.nx env
def dseq (s t : DS) : DS := fun K env => s { K with nx := fun env' => t K env' } env
theorem gss_nil : GSs X A W [] dnext := ⟨pss_imp pss_nil fun De σ H ⟨env, K, E, h, q, _⟩ => q σ H env (Keep.refl _ _) E h⟩
theorem gss_one {st : Stmt} {s : DS} (h : GS X A W st s) : GSs X A W [st] s := ⟨pss_one h.p⟩
theorem gss_cons {st : Stmt} {rest : List Stmt} {s t : DS} (h1 : GS X A W st s) (h2 : GSs X A W rest t) : GSs X A W (st :: rest) (dseq s t) := by
  refine ⟨pss_imp (pss_cons h1.p h2.p) fun De σ H ⟨env, K, E, h, q1, q2, q3, q4, q5⟩ => ?_⟩
  refine ⟨env, _, E, h, fun σ' H' env' kk E' h' => ?_, q2, q3, q4, q5⟩
  exact ⟨env', K, E', h', fun σ2 H2 env2 k2 => q1 σ2 H2 env2 (kk.trans k2), fun σ2 H2 env2 k2 => q2 σ2 H2 env2 (kk.trans k2), fun σ2 H2 env2 k2 => q3 σ2 H2 env2 (kk.trans k2), q4, fun x c dd σ2 H2 env2 k2 => q5 x c dd σ2 H2 env2 (kk.trans k2)⟩
/-- the way from a statement's end to the end of an expression in it -/
theorem xout_of {K : KEnd} {σ : St} {H : Hp} {env : DEnv} (E : ERep A H σ env)
    (q : ∀ x cls dd σ' H' env', Keep (MM A σ env) (MM A σ' env') H H' → ERep A H' σ' env' → XRep A.R (MM A σ' env') H' cls dd x → K.ex x env' → W cls dd σ' H') : XOut A W σ env H fun x => K.ex x env :=
  fun x cls dd H' s r e => q x cls dd σ H' env (E.keep s) (E.stp s) r e
def dpass : DS := dnext
theorem gs_pass {pos} : GS X A W (.Pass pos) dpass := ⟨ps_imp ps_pass fun De σ H ⟨env, K, E, h, q, _⟩ => q σ H env (Keep.refl _ _) E h⟩
def dbreak : DS := fun K env => K.bk env
def dcont : DS := fun K env => K.ct env
theorem gs_break {pos} : GS X A W (.Break pos) dbreak := ⟨ps_imp ps_break fun De σ H ⟨env, K, E, h, _, q, _⟩ => q σ H env (Keep.refl _ _) E h⟩
theorem gs_cont {pos} : GS X A W (.Continue pos) dcont := ⟨ps_imp ps_continue fun De σ H ⟨env, K, E, h, _, _, q, _⟩ => q σ H env (Keep.refl _ _) E h⟩
/-! ### x = e -/
def dasg (i : Nat) (g : DE) : DS := fun K env => g env (fun d => K.nx (env.set i (.val d))) fun x => K.ex x env
theorem gs_asg {i : Nat} {x : Str} {e : Expr} {g : DE} {pos pos' : Pos} (he : GE X A W e g) (hN : X.N.Nodup) (hi : X.N[i]? = some x) (hx : Loc X.env.scope x) (hs : swapsWith e (some (.Name x pos')) pos.line X.env = pure false := by rfl)
    (hf : X.fn x = true ∨ X.env.scope.names.lookup x = some .local := by first | exact .inl rfl | exact .inr rfl | assumption) : GS X A W (.Assign [.Name x pos'] e pos) (dasg i g) := by
  refine ⟨ps_imp (ps_set hN hi hx he.p hs hf) fun De σ H ⟨env, K, E, h, q1, q2, q3, q4, q5⟩ => ?_⟩
  refine toE_step E h (xout_of E q5) fun v d H1 s E1 _ r h1 => ?_
  exact q1 _ H1 _ ((E.keep s).trans E1.setKeep) (E1.set r) h1
/-! ### new lists -/
abbrev DF := DEnv → (List D → Prop) → (Ex → Prop) → Prop
def toF (A : Act) (W : WX) (g : DF) : TE := fun σ H Q => ∃ (env : DEnv) (Qd : List D → Prop) (Ed : Ex → Prop), ERep A H σ env ∧ g env Qd Ed ∧
  (∀ p vs ds H', H p = none → Stp A.R H H' → H' p = some (.lst vs) → RepL A.R (fun a => MM A σ env a ∨ a = p) H' vs ds → Qd ds → Q (.ref p) H') ∧ XOut A W σ env H Ed
structure GF (X : Cx) (A : Act) (W : WX) (e : Expr) (g : DF) : Prop where
  p : PE X e (toF A W g)
def dfv (g : DF) : DE := fun env Q Ed => g env (fun ds => Q (.lst ds)) Ed
theorem GF.e {e : Expr} {g : DF} (h : GF X A W e g) : GE X A W e (dfv g) := by
  refine ⟨pe_imp h.p fun σ H Q ⟨env, Qd, Ed, E, h, q, x⟩ => ⟨env, _, Ed, E, h, fun p vs ds H' hp s e r hq => ?_, x⟩⟩
  have E' := E.stp s
  exact q _ _ H' s (.lst e (E.fresh hp) (r.keep (keep_sub fun a z => .inl z))) hq
def dflst (gs : DL) : DF := fun env Q Ed => gs env (fun ds => ds.length ≤ LINE ∧ Q ds) Ed
theorem gf_lst {es : List Expr} {pos} {gs : DL} (h : GL X A W es gs) : GF X A W (.List es pos) (dflst gs) := by
  refine ⟨pe_imp (pe_lst h.p) fun σ H Q ⟨env, Qd, Ed, E, h, q, x⟩ => ?_⟩
  refine ⟨env, _, Ed, E, h, fun vs ds H' s r hq => ⟨by rw [r.length, line_is]; exact hq.1, fun p hp => ?_⟩, x⟩
  have E' := E.stp s
  have s2 : Stp A.R H' (upd H' p (.lst vs)) := Stp.new hp
  refine q p vs ds _ (Stp.none E.inv s hp) (s.trans s2) upd_same (r.keep ⟨(E'.keep s2).k, fun a z => ?_⟩) hq.2
  rcases z with z | z
  · exact .inl z
  · exact .inr (by rw [z]; exact hp)
def dasgO (i : Nat) (g : DF) : DS := fun K env => g env (fun ds => K.nx (env.set i (.own ds))) fun x => K.ex x env
theorem gs_asgO {i : Nat} {x : Str} {e : Expr} {g : DF} {pos pos' : Pos} (he : GF X A W e g) (hN : X.N.Nodup) (hi : X.N[i]? = some x) (hx : Loc X.env.scope x) (hs : swapsWith e (some (.Name x pos')) pos.line X.env = pure false := by rfl)
    (hf : X.fn x = true ∨ X.env.scope.names.lookup x = some .local := by first | exact .inl rfl | exact .inr rfl | assumption) : GS X A W (.Assign [.Name x pos'] e pos) (dasgO i g) := by
  refine ⟨ps_imp (ps_set hN hi hx he.p hs hf) fun De σ H ⟨env, K, E, h, q1, q2, q3, q4, q5⟩ => ?_⟩
  refine ⟨env, _, _, E, h, fun p vs ds H' hp s e r hq => ?_, xout_of E q5⟩
  obtain ⟨E2, k2⟩ := E.setOwn (i := i) hp s e r
  exact q1 _ H' _ k2 E2 hq
/-! ### if, return, raise -/
def dif (c : DB) (s t : DS) : DS := fun K env => c env (fun b => if b = true then s K env else t K env) fun x => K.ex x env
theorem gs_if {c : Expr} {a b : List Stmt} {pos : Pos} {gc : DB} {s t : DS} (hc : GT X A W c gc) (ha : GSs X A W a s) (hb : GSs X A W b t) : GS X A W (.If c a b pos) (dif gc s t) := by
  refine ⟨ps_imp (ps_if hc.p ha.p hb.p) fun De σ H ⟨env, K, E, h, q1, q2, q3, q4, q5⟩ => ?_⟩
  refine ⟨env, _, _, E, h, fun d H' s2 hd => ?_, xout_of E q5⟩
  have E' := E.stp s2
  have kk := E.keep s2
  have go : ∀ {u : DS}, u K env → toS A W u De σ H' := fun hu => ⟨env, K, E', hu, fun σ2 H2 env2 k2 => q1 σ2 H2 env2 (kk.trans k2), fun σ2 H2 env2 k2 => q2 σ2 H2 env2 (kk.trans k2), fun σ2 H2 env2 k2 => q3 σ2 H2 env2 (kk.trans k2), q4, fun x c dd σ2 H2 env2 k2 => q5 x c dd σ2 H2 env2 (kk.trans k2)⟩
  cases d with
  | true => exact go hd
  | false => exact go hd
def dret (g : DE) : DS := fun K env => g env (fun d => K.rt d env) fun x => K.ex x env
theorem gs_ret {e : Expr} {g : DE} {pos : Pos} (he : GE X A W e g) (hf : A.fr = false := by rfl) : GS X A W (.Return (some e) pos) (dret g) := by
  refine ⟨ps_imp (ps_ret he.p) fun De σ H ⟨env, K, E, h, q1, q2, q3, q4, q5⟩ => ?_⟩
  refine toE_step E h (xout_of E q5) fun v d H1 s E1 _ r h1 => ?_
  exact q4 v d σ H1 env E1 (E1.retRep hf r) h1
def dretN : DS := fun K env => K.rt .non env
theorem gs_retN {pos : Pos} (hf : A.fr = false := by rfl) : GS X A W (.Return none pos) dretN := by
  refine ⟨ps_imp ps_retN fun De σ H ⟨env, K, E, h, q1, q2, q3, q4, q5⟩ => ?_⟩
  exact q4 .non .non σ H env E (E.retRep hf .non) h
/-- a new list is handed back -/
def dretF (g : DF) : DS := fun K env => g env (fun ds => K.rt (.lst ds) env) fun x => K.ex x env
theorem gs_retF {e : Expr} {g : DF} {pos : Pos} (he : GF X A W e g) (hf : A.fr = true := by rfl) : GS X A W (.Return (some e) pos) (dretF g) := by
  refine ⟨ps_imp (ps_ret he.p) fun De σ H ⟨env, K, E, h, q1, q2, q3, q4, q5⟩ => ?_⟩
  refine ⟨env, _, _, E, h, fun p vs ds H' hp s e r hq => ?_, xout_of E q5⟩
  refine q4 _ _ σ H' env (E.stp s) ?_ hq
  unfold RetRep
  rw [hf, if_pos rfl]
  exact ⟨p, vs, ds, rfl, rfl, Stp.none E.ok.inv E.base hp, e, r.keep (keep_sub fun a z => z.elim (fun z => .inl (.inl z)) .inr)⟩
/-- a list of the def's own is handed back -/
def dretO (i : Nat) : DS := fun K env => match env[i]? with
  | some (.own ds) => K.rt (.lst ds) env
  | _ => False
theorem gs_retO {i : Nat} {e : Expr} {pos : Pos} (he : PE X e (tVar i)) : GS X A W (.Return (some e) pos) (dretO i) := by
  refine ⟨ps_imp (ps_ret he) fun De σ H ⟨env, K, E, h, q1, q2, q3, q4, q5⟩ => ?_⟩
  unfold dretO at h
  cases e1 : env[i]? with
  | none => rw [e1] at h; exact h.elim
  | some s =>
    rw [e1] at h
    cases s with
    | un => exact h.elim
    | val d => exact h.elim
    | own ds =>
      obtain ⟨a, vs, h1, h2, h3, h4, h5⟩ := E.own i ds e1
      refine ⟨.ref a, h1, q4 _ _ σ H env E ?_ h⟩
      unfold RetRep
      by_cases c : A.fr = true
      · rw [if_pos c]
        exact ⟨a, vs, ds, rfl, rfl, h5, h2, h3.keep (keep_sub fun b z => z.elim .inl fun z => by rw [z]; exact .inr ⟨i, ds, e1, h1⟩)⟩
      · rw [if_neg c]
        exact .lst h2 h4 (h3.keep (keep_sub fun b z => .inl z))
/-- from here on slot i's list changes no more -/
def dfreeze (i : Nat) (s : DS) : DS := fun K env => match env[i]? with
  | some (.own ds) => s K (env.set i (.val (.lst ds)))
  | _ => False
theorem gss_freeze {i : Nat} {st : List Stmt} {s : DS} (h : GSs X A W st s) : GSs X A W st (dfreeze i s) := by
  refine ⟨pss_imp h.p fun De σ H ⟨env, K, E, h, q1, q2, q3, q4, q5⟩ => ?_⟩
  unfold dfreeze at h
  cases e1 : env[i]? with
  | none => rw [e1] at h; exact h.elim
  | some z =>
    rw [e1] at h
    cases z with
    | un => exact h.elim
    | val d => exact h.elim
    | own ds =>
      obtain ⟨E2, kk⟩ := E.freeze e1
      exact ⟨_, K, E2, h, fun σ2 H2 env2 k2 => q1 σ2 H2 env2 (kk.trans k2), fun σ2 H2 env2 k2 => q2 σ2 H2 env2 (kk.trans k2), fun σ2 H2 env2 k2 => q3 σ2 H2 env2 (kk.trans k2), q4, fun x c dd σ2 H2 env2 k2 => q5 x c dd σ2 H2 env2 (kk.trans k2)⟩
def dexpr (g : DE) : DS := fun K env => g env (fun _ => K.nx env) fun x => K.ex x env
theorem gs_expr {e : Expr} {g : DE} {pos : Pos} (he : GE X A W e g) (hs : swapsWith e none pos.line X.env = pure false := by rfl) : GS X A W (.Expr e pos) (dexpr g) := by
  refine ⟨ps_imp (ps_expr he.p hs) fun De σ H ⟨env, K, E, h, q1, q2, q3, q4, q5⟩ => ?_⟩
  exact toE_step E h (xout_of E q5) fun v d H1 s E1 _ r h1 => q1 σ H1 env (E.keep s) E1 h1
/-! ### lists of one's own that change -/
def dapp (i : Nat) (g : DE) : DS := fun K env => match env[i]? with
  | some (.own ds) => g env (fun d => ds.length < LINE ∧ K.nx (env.set i (.own (ds ++ [d])))) fun x => K.ex x env
  | _ => False
theorem own_of {env : DEnv} {i : Nat} {f : List D → Prop} (h : match env[i]? with
  | some (.own ds) => f ds
  | _ => False) : ∃ ds, env[i]? = some (.own ds) ∧ f ds := by
  cases e1 : env[i]? with
  | none => rw [e1] at h; exact h.elim
  | some z =>
    rw [e1] at h
    cases z with
    | un => exact h.elim
    | val d => exact h.elim
    | own ds => exact ⟨ds, rfl, h⟩
theorem gs_app {i : Nat} {o e : Expr} {g : DE} {pos cpos apos : Pos} (ho : PE X o (tVar i)) (he : GE X A W e g)
    (hS : ∀ te, PE X o (tVar i) → PE X e te → PS X (.Expr (.Call (.Attribute o "append" apos) [e] [] cpos) pos) (tDrop (tBM X.K "list" rAppend (tVar i) (tCons te tNil))) := by
      exact fun te ho h => ps_expr (pe_bm PySem.F.plainAttrs_list PySem.F.slot_list_append PySem.F.type_list_append mt_append ho (pa_cons h pa_nil))) :
    GS X A W (.Expr (.Call (.Attribute o "append" apos) [e] [] cpos) pos) (dapp i g) := by
  refine ⟨ps_imp (hS _ ho he.p) fun De σ H ⟨env, K, E, h, q1, q2, q3, q4, q5⟩ => ?_⟩
  obtain ⟨ds, e1, h⟩ := own_of h
  obtain ⟨a, vs, h1, h2, h3, h4, h5⟩ := E.own i ds e1
  refine ⟨.ref a, h1, .inl ⟨rfl, _, SqL.of h2⟩, toE_step E h (xout_of E q5) fun v d H1 s E1 _ r hq => ?_⟩
  obtain ⟨hz, hq⟩ := hq
  have g2 : H1 a = some (.lst vs) := s.k a _ h2 fun z => h4 (E.ok.st a z)
  refine ⟨a, vs, v, rfl, rfl, g2, by rw [h3.length, line_is]; exact hz, ?_⟩
  obtain ⟨E2, k2⟩ := E1.mut (us := vs) e1 h1 ((h3.keep (E.keep s)).append (.cons r .nil))
  exact q1 _ _ _ ((E.keep s).trans k2) E2 hq
/-- xs[k] = e -/
def dseti (i : Nat) (gk g : DE) : DS := fun K env => match env[i]? with
  | some (.own ds) => g env (fun d => gk env (fun k => ∃ n : Int, k = .int n ∧ ∃ j, ixN ds.length n = some j ∧ K.nx (env.set i (.own (ds.set j d)))) fun x => K.ex x env) fun x => K.ex x env
  | _ => False
theorem gs_seti {i : Nat} {o k e : Expr} {gk g : DE} {pos spos : Pos} (ho : PE X o (tVar i)) (hk : GE X A W k gk) (he : GE X A W e g) (hg : ∀ ti, PE X o (tVar i) → PE X k ti → PG X (.Subscript o k spos) (gSub (tVar i) ti rSetL) := by exact fun ti ho h => pg_sub ho h set_list)
    (hs : swapsWithSole [.Subscript o k spos] e pos.line X.env = pure false := by rfl) (hw : swappedStores [.Subscript o k spos] e X.env = pure none := by rfl)
    (h1 : (assignEach [.Subscript o k spos] X.env).map (·.2) = [assign (.Subscript o k spos) X.env] := by rfl) : GS X A W (.Assign [.Subscript o k spos] e pos) (dseti i gk g) := by
  refine ⟨ps_imp (ps_asg he.p (hg _ ho hk.p) hs hw h1) fun De σ H ⟨env, K, E, h, q1, q2, q3, q4, q5⟩ => ?_⟩
  obtain ⟨ds, e1, h⟩ := own_of h
  obtain ⟨a, vs, h1, h2, h3, h4, h5⟩ := E.own i ds e1
  refine toE_step E h (xout_of E q5) fun v d H1 s E1 x1 r hq => ?_
  refine ⟨.ref a, h1, toE_step E1 hq x1 fun kv kd H2 s2 E2 _ rk hq2 => ?_⟩
  obtain ⟨n, rfl, j, hj, hq3⟩ := hq2
  cases rk
  have g2 : H2 a = some (.lst vs) := (s.trans s2).k a _ h2 fun z => h4 (E.ok.st a z)
  refine ⟨a, vs, n, j, rfl, rfl, g2, by rw [h3.length]; exact hj, ?_⟩
  obtain ⟨E3, k3⟩ := E2.mut (us := vs) e1 h1 (RepL.set (r.keep (E1.keep s2)) j (h3.keep (E.keep (s.trans s2))))
  exact q1 _ _ _ ((E.keep (s.trans s2)).trans k3) E3 hq3
/-- xs.reverse() and its like: a method that changes the list alone, by its items -/
def dmut (i : Nat) (f : List D → List D) : DS := fun K env => match env[i]? with
  | some (.own ds) => (f ds).length ≤ LINE ∧ K.nx (env.set i (.own (f ds)))
  | _ => False
/-! ### targets -/
abbrev DG := D → DEnv → (DEnv → Prop) → Prop
abbrev DGs := List D → DEnv → (DEnv → Prop) → Prop
/-- but for the slots js all is as it was -/
def Only (js : List Nat) (σ σ' : St) : Prop := σ'.length = σ.length ∧ ∀ k, k ∉ js → σ'[k]? = σ[k]?
def toG (A : Act) (js : List Nat) (tg : DG) : TG := fun v σ H Q => ∃ (env : DEnv) (d : D) (Qe : DEnv → Prop), ERep A H σ env ∧ Rep A.R (MM A σ env) H v d ∧ tg d env Qe ∧
  ∀ σ' env', ERep A H σ' env' → Keep (MM A σ env) (MM A σ' env') H H → Only js σ σ' → Qe env' → Q σ' H
def toGs (A : Act) (js : List Nat) (tg : DGs) : TGs := fun vs σ H Q => ∃ (env : DEnv) (ds : List D) (Qe : DEnv → Prop), ERep A H σ env ∧ RepL A.R (MM A σ env) H vs ds ∧ tg ds env Qe ∧
  ∀ σ' env', ERep A H σ' env' → Keep (MM A σ env) (MM A σ' env') H H → Only js σ σ' → Qe env' → Q σ' H
structure GG (X : Cx) (A : Act) (js : List Nat) (t : Expr) (tg : DG) : Prop where
  p : PG X t (toG A js tg)
structure GGs (X : Cx) (A : Act) (js : List Nat) (t : List Expr) (tg : DGs) : Prop where
  p : PGs X t (toGs A js tg)
def dname (i : Nat) : DG := fun d env Q => Q (env.set i (.val d))
theorem gg_name {i : Nat} {x : Str} {pos : Pos} (hN : X.N.Nodup) (hi : X.N[i]? = some x) (hx : Loc X.env.scope x) (hf : X.fn x = true ∨ X.env.scope.names.lookup x = some .local := by first | exact .inl rfl | exact .inr rfl | assumption) :
    GG X A [i] (.Name x pos) (dname i) :=
  ⟨⟨fun pins s σ H v u Q I r ⟨env, d, Qe, E, rd, h, q⟩ => (pg_name hN hi hx hf).run pins s σ H v u Q I r (q _ _ (E.set rd) E.setKeep ⟨List.length_set, fun k hk => by
    rw [List.getElem?_set_ne]
    intro z
    exact hk (by rw [z]; exact List.mem_singleton_self _)⟩ h)⟩⟩
def dgnil : DGs := fun ds env Q => ds = [] ∧ Q env
def dgcons (t : DG) (u : DGs) : DGs := fun ds env Q => match ds with
  | [] => False
  | d :: r => t d env fun env' => u r env' Q
theorem ggs_nil : GGs X A [] [] dgnil := by
  refine ⟨⟨fun pins s σ H vs us Q I r ⟨env, ds, Qe, E, rd, h, q⟩ => pgs_nil.run pins s σ H vs us Q I r ?_⟩⟩
  obtain ⟨rfl, h⟩ := h
  cases rd
  exact ⟨rfl, q σ env E (Keep.refl _ _) ⟨rfl, fun _ _ => rfl⟩ h⟩
theorem pg_imp {e : Expr} {t t' : TG} (h : PG X e t) (i : ∀ v σ H Q, t' v σ H Q → t v σ H Q) : PG X e t' := ⟨fun pins s σ H v u Q I r w => h.run pins s σ H v u Q I r (i v σ H Q w)⟩
theorem pgs_imp {e : List Expr} {t t' : TGs} (h : PGs X e t) (i : ∀ v σ H Q, t' v σ H Q → t v σ H Q) : PGs X e t' := ⟨fun pins s σ H v u Q I r w => h.run pins s σ H v u Q I r (i v σ H Q w)⟩
theorem ggs_cons {e : Expr} {es : List Expr} {t : DG} {u : DGs} {js ks : List Nat} (h1 : GG X A js e t) (h2 : GGs X A ks es u) (hs : (assignEach (e :: es) X.env).map (·.2) = assign e X.env :: (assignEach es X.env).map (·.2) := by rfl) : GGs X A (js ++ ks) (e :: es) (dgcons t u) := by
  refine ⟨pgs_imp (pgs_cons h1.p h2.p hs) fun vs σ H Q ⟨env, ds, Qe, E, rd, h, q⟩ => ?_⟩
  cases rd with
  | nil => exact h.elim
  | @cons v d vs ds r rr =>
    refine ⟨v, vs, rfl, env, d, _, E, r, h, fun σ' env' E' k' o' h' => ?_⟩
    exact ⟨env', ds, Qe, E', rr.keep k', h', fun σ2 env2 E2 k2 o2 h2 => q σ2 env2 E2 (k'.trans k2) ⟨o2.1.trans o'.1, fun k hk => (o2.2 k fun z => hk (List.mem_append_right _ z)).trans (o'.2 k fun z => hk (List.mem_append_left _ z))⟩ h2⟩
/-- a, b = a tuple of as many -/
def dgtup (n : Nat) (u : DGs) : DG := fun d env Q => match d with
  | .tup ds => ds.length = n ∧ u ds env Q
  | _ => False
theorem gg_tup {es : List Expr} {k : Nat} {u : DGs} {n : Nat} {pos : Pos} {js : List Nat} (hc : X.calm = true) (hK : A.R.K = X.K) (h : GGs X A js es u) (hn : (assignEach es X.env).length = n := by rfl) (hst : (assignEach es X.env).findIdx? (·.1) = none := by rfl) :
    GG X A js (.Tuple es k pos) (dgtup n u) := by
  refine ⟨pg_imp (pg_tup hc h.p hn hst) fun v σ H Q ⟨env, d, Qe, E, r, h, q⟩ => ?_⟩
  match d, r, h with
  | .tup ds, .tup (a := a) (xs := xs) ta rl, h => exact ⟨a, xs, rfl, by rw [← hK]; exact ta.sq, by rw [rl.length]; exact h.1, env, ds, Qe, E, rl, h.2, q⟩
/-- target = e, any target -/
def dasgG (t : DG) (g : DE) : DS := fun K env => g env (fun d => t d env K.nx) fun x => K.ex x env
theorem gs_asgG {tg e : Expr} {t : DG} {g : DE} {pos : Pos} {js : List Nat} (he : GE X A W e g) (ht : GG X A js tg t) (hs : swapsWithSole [tg] e pos.line X.env = pure false := by rfl) (hw : swappedStores [tg] e X.env = pure none := by rfl)
    (h1 : (assignEach [tg] X.env).map (·.2) = [assign tg X.env] := by rfl) : GS X A W (.Assign [tg] e pos) (dasgG t g) := by
  refine ⟨ps_imp (ps_asg he.p ht.p hs hw h1) fun De σ H ⟨env, K, E, h, q1, q2, q3, q4, q5⟩ => ?_⟩
  refine toE_step E h (xout_of E q5) fun v d H1 s E1 _ r h1 => ?_
  exact ⟨env, d, K.nx, E1, r, h1, fun σ' env' E' k' _ h' => q1 σ' H1 env' ((E.keep s).trans k') E' h'⟩
/-! ### what is walked -/
/-- J yields the data ds one after the other, whatever happens meanwhile outside of M -/
structure Walk (R : RC) (M : Addr → Prop) (H : Hp) (J : It) (ds : List D) : Prop where
  yld : ∀ (M' : Addr → Prop) (H' : Hp), Keep M M' H H' → (∀ a, H' a = none → ¬ M' a) → HInv R H' → ∀ i d, ds[i]? = some d → J.go i H' ∧ ∀ x H2, J.yld i H' x H2 → Stp R H' H2 ∧ Rep R M' H2 x d
  stop : ∀ (M' : Addr → Prop) (H' : Hp), Keep M M' H H' → J.stop ds.length H'
abbrev DI := DL
def toI (A : Act) (W : WX) (g : DI) : TI := fun σ H Q => ∃ (env : DEnv) (Qd : List D → Prop) (Ed : Ex → Prop), ERep A H σ env ∧ g env Qd Ed ∧
  (∀ J ds H', Stp A.R H H' → Walk A.R (MM A σ env) H' J ds → Qd ds → Q J H') ∧ XOut A W σ env H Ed
structure GI (X : Cx) (A : Act) (W : WX) (tg it : Expr) (g : DI) : Prop where
  p : PI X tg it (toI A W g)
theorem pi_imp {tg e : Expr} {t t' : TI} (h : PI X tg e t) (i : ∀ σ H Q, t' σ H Q → t σ H Q) : PI X tg e t' := ⟨fun pins s σ H Q I w => h.run pins s σ H Q I (i σ H Q w)⟩
def diL (g : DE) : DI := fun env Q Ed => g env (fun d => match d with
  | .lst ds => Q ds
  | _ => False) Ed
theorem walk_list {R : RC} {M : Addr → Prop} {H : Hp} {a : Addr} {xs : List V} {ds : List D} (K : PySem.W.Frag) (h : H a = some (.lst xs)) (n : ¬ M a) (r : RepL R M H xs ds) : Walk R M H (Itl K a) ds := by
  have key : ∀ {M' : Addr → Prop} {H' : Hp}, Keep M M' H H' → H' a = some (.lst xs) := fun k => k.k a _ h n
  have uniq : ∀ {H' : Hp} {ys : List V}, H' a = some (.lst xs) → Rd H' a (.lst ys) → xs = ys := fun {H' ys} e h => by
    rcases h with h | ⟨o, h⟩
    · rw [e] at h; cases h; rfl
    · rw [e] at h; cases h
  refine ⟨fun M' H' k hf hi i d e => ?_, fun M' H' k => ⟨xs, SqL.of (key k), by rw [r.length]; exact Nat.le_refl _⟩⟩
  obtain ⟨v, h1, h2⟩ := r.get e
  refine ⟨⟨xs, v, SqL.of (key k), h1⟩, fun x H2 y => ?_⟩
  obtain ⟨e2, y⟩ := y
  subst e2
  have e3 := y xs (SqL.of (key k))
  rw [h1] at e3
  cases e3
  exact ⟨Stp.refl _ _, h2.keep k⟩
theorem gi_list {tg e : Expr} {g : DE} (h : GE X A W e g) : GI X A W tg e (diL g) := by
  refine ⟨pi_imp (pi_list h.p) fun σ H Q ⟨env, Qd, Ed, E, h, q, x⟩ => ?_⟩
  refine toE_step E h x fun v d H1 s E1 _ r hd => ?_
  cases r <;> first | exact hd.elim | skip
  rename_i a xs ds e1 n rl
  exact ⟨a, rfl, ⟨xs, SqL.of e1⟩, q _ ds H1 s (walk_list _ e1 n rl) hd⟩
def diT (g : DE) : DI := fun env Q Ed => g env (fun d => match d with
  | .tup ds => Q ds
  | _ => False) Ed
theorem walk_tup {R : RC} {M : Addr → Prop} {H : Hp} {a : Addr} {xs : List V} {ds : List D} {X : Cx} (hK : R.K = X.K) (hu : ∀ {H' : Hp} {ys : List V}, TAt R.K M H a xs → SqT X.K H' a ys → (∀ u, H a = some u → H' a = some u) → ys = xs) (t : TAt R.K M H a xs) (r : RepL R M H xs ds) : Walk R M H (Itt X.K a) ds := by
  refine ⟨fun M' H' k hf hi i d e => ?_, fun M' H' k => ⟨xs, by rw [← hK]; exact (t.keep k).sq, by rw [r.length]; exact Nat.le_refl _⟩⟩
  obtain ⟨v, h1, h2⟩ := r.get e
  refine ⟨⟨xs, v, by rw [← hK]; exact (t.keep k).sq, h1⟩, fun x H2 y => ?_⟩
  obtain ⟨e2, y⟩ := y
  subst e2
  have e3 := y xs (by rw [← hK]; exact (t.keep k).sq)
  rw [h1] at e3
  cases e3
  exact ⟨Stp.refl _ _, h2.keep k⟩
theorem gi_tup {tg e : Expr} {g : DE} (hK : A.R.K = X.K) (h : GE X A W e g) : GI X A W tg e (diT g) := by
  refine ⟨pi_imp (pi_tup h.p) fun σ H Q ⟨env, Qd, Ed, E, h, q, x⟩ => ?_⟩
  refine toE_step E h x fun v d H1 s E1 _ r hd => ?_
  cases r <;> first | exact hd.elim | skip
  rename_i a xs ds ta rl
  refine ⟨a, rfl, ⟨xs, by rw [← hK]; exact ta.sq⟩, q _ ds H1 s ⟨fun M' H' k hf hi i d e => ?_, fun M' H' k => ⟨xs, by rw [← hK]; exact (ta.keep k).sq, by rw [rl.length]; exact Nat.le_refl _⟩⟩ hd⟩
  obtain ⟨v, h1, h2⟩ := rl.get e
  refine ⟨⟨xs, v, by rw [← hK]; exact (ta.keep k).sq, h1⟩, fun x H2 y => ?_⟩
  obtain ⟨e2, y⟩ := y
  subst e2
  have e3 := y xs (by rw [← hK]; exact (ta.keep k).sq)
  rw [h1] at e3
  cases e3
  exact ⟨Stp.refl _ _, h2.keep k⟩
def rngD (lo : Int) (n : Nat) : List D := (List.range n).map fun (i : Nat) => D.int (lo + (i : Int))
theorem rngD_get {lo : Int} {n i : Nat} : (rngD lo n)[i]? = if i < n then some (.int (lo + (i : Int))) else none := by
  unfold rngD
  rw [List.getElem?_map]
  by_cases h : i < n
  · rw [List.getElem?_range h, if_pos h]
    rfl
  · rw [List.getElem?_eq_none (by rw [List.length_range]; omega), if_neg h]
    rfl
theorem rngD_len {lo : Int} {n : Nat} : (rngD lo n).length = n := by
  unfold rngD
  rw [List.length_map, List.length_range]
theorem walk_rng {R : RC} {M : Addr → Prop} {H : Hp} (lo : Int) (n : Nat) : Walk R M H (Itr lo n) (rngD lo n) := by
  refine ⟨fun M' H' k hf hi i d e => ?_, fun M' H' k => by rw [rngD_len]; exact Nat.le_refl _⟩
  rw [rngD_get] at e
  by_cases c : i < n
  · rw [if_pos c] at e
    cases e
    refine ⟨c, fun x H2 y => ?_⟩
    obtain ⟨rfl, rfl⟩ := y
    exact ⟨Stp.refl _ _, .int _⟩
  · rw [if_neg c] at e; cases e
def diR1 (gs : DL) : DI := fun env Q Ed => gs env (fun ds => match ds with
  | [.int j] => -(2 ^ 62) ≤ j ∧ j < 2 ^ 62 ∧ Q (rngD 0 j.toNat)
  | _ => False) Ed
def diR2 (gs : DL) : DI := fun env Q Ed => gs env (fun ds => match ds with
  | [.int i, .int j] => (-(2 ^ 62) ≤ i ∧ i < 2 ^ 62 ∧ -(2 ^ 62) ≤ j ∧ j < 2 ^ 62) ∧ Q (rngD i (j - i).toNat)
  | _ => False) Ed
theorem gi_rng1 {tg a : Expr} {gs : DL} {p pos : Pos} (hg : Gl X "range") (hm : X.mg "range" = none) (ha : GL X A W [a] gs) (hs : starEach [a] X.env = [(false, eval a X.env)] := by rfl) : GI X A W tg (.Call (.Name "range" p) [a] [] pos) (diR1 gs) := by
  refine ⟨pi_imp (pi_range1 hg hm ha.p hs) fun σ H Q ⟨env, Qd, Ed, E, h, q, x⟩ => ⟨env, _, Ed, E, h, fun vs ds H' s r hd => ?_, x⟩⟩
  match ds, r, hd with
  | [.int j], .cons (.int _) .nil, hd => exact ⟨j, rfl, hd.1, hd.2.1, q _ _ H' s (walk_rng 0 j.toNat) hd.2.2⟩
theorem gi_rng2 {tg a b : Expr} {gs : DL} {p pos : Pos} (hg : Gl X "range") (hm : X.mg "range" = none) (ha : GL X A W [a, b] gs) (hs : starEach [a, b] X.env = [(false, eval a X.env), (false, eval b X.env)] := by rfl) (hs2 : starEach [b] X.env = [(false, eval b X.env)] := by rfl) :
    GI X A W tg (.Call (.Name "range" p) [a, b] [] pos) (diR2 gs) := by
  refine ⟨pi_imp (pi_range2 hg hm ha.p hs hs2) fun σ H Q ⟨env, Qd, Ed, E, h, q, x⟩ => ⟨env, _, Ed, E, h, fun vs ds H' s r hd => ?_, x⟩⟩
  match ds, r, hd with
  | [.int i, .int j], .cons (.int _) (.cons (.int _) .nil), hd => exact ⟨i, j, rfl, hd.1, q _ _ H' s (walk_rng i (j - i).toNat) hd.2⟩
/-- the signs of a text -/
def sgnD (x : Str) : List D := x.cps.toList.map fun c => .str ⟨#[c]⟩
def diS (g : DE) : DI := fun env Q Ed => g env (fun d => match d with
  | .str x => Q (sgnD x)
  | _ => False) Ed
theorem gi_str {tg e : Expr} {g : DE} (h : GE X A W e g) : GI X A W tg e (diS g) := by
  refine ⟨pi_imp (pi_str h.p) fun σ H Q ⟨env, Qd, Ed, E, h, q, x⟩ => ?_⟩
  refine toE_step E h x fun v d H1 s E1 _ r hd => ?_
  cases r <;> first | exact hd.elim | skip
  rename_i z
  refine ⟨z, rfl, q _ (sgnD z) H1 s ⟨fun M' H' k hf hi i d e => ?_, fun M' H' k => ?_⟩ hd⟩
  · unfold sgnD at e
    rw [List.getElem?_map, Array.getElem?_toList] at e
    cases c : z.cps[i]? with
    | none => rw [c] at e; cases e
    | some u =>
      rw [c] at e
      cases e
      refine ⟨(Array.getElem?_eq_some_iff.mp c).1, fun x H2 y => ?_⟩
      obtain ⟨rfl, w, e2, rfl⟩ := y
      rw [c] at e2
      cases e2
      exact ⟨Stp.refl _ _, .str _⟩
  · show z.cps.size ≤ (sgnD z).length
    unfold sgnD
    rw [List.length_map, Array.length_toList]
    exact Nat.le_refl _
/-! ### for -/
@[irreducible] def dfor (gi : DI) (t : DG) (s : DS) : DS := fun K env => gi env (fun ds => ∃ I : Nat → DEnv → Prop, I 0 env ∧
  (∀ i d env', ds[i]? = some d → I i env' → t d env' fun env2 => s { K with nx := I (i + 1), ct := I (i + 1), bk := K.nx } env2) ∧ ∀ env', I ds.length env' → K.nx env') fun x => K.ex x env
theorem gs_for {tg iter : Expr} {body : List Stmt} {gi : DI} {t : DG} {s : DS} {pos : Pos} {js : List Nat} (hp : PassesOwn (model X.prog X.w) X.A X.env X.xe) (hc : X.calm = true) (hi : GI X A W tg iter gi) (ht : GG X A js tg t) (hb : GSs X A W body s)
    (hs : ∀ x, foldedSetIterable iter X.env x = pure x := by intro _; rfl) : GS X A W (.For tg iter body [] pos) (dfor gi t s) := by
  refine ⟨ps_imp (ps_for hp hc hi.p ht.p hb.p hs) fun De σ H ⟨env, K, E, h, q1, q2, q3, q4, q5⟩ => ?_⟩
  unfold dfor at h
  refine ⟨env, _, _, E, h, fun J ds H1 s1 wk hd => ?_, xout_of E q5⟩
  obtain ⟨I, i0, it, ie⟩ := hd
  have E1 := E.stp s1
  have k1 := E.keep s1
  refine ⟨fun i m σ' H' => m = ds.length - i ∧ i ≤ ds.length ∧ ∃ env', ERep A H' σ' env' ∧ Keep (MM A σ env) (MM A σ' env') H1 H' ∧ I i env', ⟨ds.length, rfl, Nat.zero_le _, env, E1, Keep.refl _ _, i0⟩, ?_⟩
  rintro i m σ' H' ⟨rfl, hi, env', E', k', hI⟩
  by_cases hlt : i < ds.length
  · have e : ds[i]? = some ds[i] := List.getElem?_eq_getElem hlt
    obtain ⟨g1, g2⟩ := wk.yld _ H' k' (fun a z => E'.fresh z) E'.inv i _ e
    refine .inr ⟨g1, fun σ2 H2 => ∃ env2, ERep A H2 σ2 env2 ∧ Keep (MM A σ env) (MM A σ2 env2) H1 H2 ∧ I (i + 1) env2, fun σ2 H2 ⟨env2, E2, k2, h2⟩ => ⟨_, by omega, rfl, hlt, env2, E2, k2, h2⟩, fun x H2 y => ?_⟩
    obtain ⟨s2, rx⟩ := g2 x H2 y
    have E2 := E'.stp s2
    have k2 := k'.trans (E'.keep s2)
    refine ⟨env', _, _, E2, rx, it i _ env' e hI, fun σ3 env3 E3 k3 _ h3 => ?_⟩
    have k4 := k2.trans k3
    exact ⟨env3, _, E3, h3, fun σ4 H4 env4 kk EE hh => ⟨env4, EE, k4.trans kk, hh⟩, fun σ4 H4 env4 kk EE hh => q1 σ4 H4 env4 (k1.trans (k4.trans kk)) EE hh, fun σ4 H4 env4 kk EE hh => ⟨env4, EE, k4.trans kk, hh⟩, q4,
      fun x c dd σ4 H4 env4 kk => q5 x c dd σ4 H4 env4 (k1.trans (k4.trans kk))⟩
  · have e : i = ds.length := by omega
    subst e
    exact .inl ⟨wk.stop _ H' k', q1 σ' H' env' (k1.trans k') E' (ie env' hI)⟩
/-! ### while -/
@[irreducible] def dwhile (c : DB) (s : DS) : DS := fun K env => ∃ I : Nat → DEnv → Prop, (∃ m, I m env) ∧ ∀ m env', I m env' → c env' (fun b => if b = true then
    s { K with nx := fun e => ∃ m', m' < m ∧ I m' e, ct := fun e => ∃ m', m' < m ∧ I m' e, bk := K.nx } env' else K.nx env') fun x => K.ex x env'
theorem gs_while {c : Expr} {body : List Stmt} {gc : DB} {s : DS} {pos : Pos} (hp : PassesOwn (model X.prog X.w) X.A X.env X.xe) (hc : GT X A W c gc) (hb : GSs X A W body s) : GS X A W (.While c body [] pos) (dwhile gc s) := by
  refine ⟨ps_imp (ps_while hp hc.p hb.p) fun De σ H ⟨env, K, E, h, q1, q2, q3, q4, q5⟩ => ?_⟩
  unfold dwhile at h
  obtain ⟨I, ⟨m0, i0⟩, turn⟩ := h
  refine ⟨fun m σ' H' => ∃ env', ERep A H' σ' env' ∧ Keep (MM A σ env) (MM A σ' env') H H' ∧ I m env', ⟨m0, env, E, Keep.refl _ _, i0⟩, ?_⟩
  rintro m σ' H' ⟨env', E', k', hI⟩
  refine ⟨env', _, _, E', turn m env' hI, fun b H1 s1 hb => ?_, fun x c dd H2 s2 r e => q5 x c dd σ' H2 env' (k'.trans (E'.keep s2)) (E'.stp s2) r e⟩
  have E1 := E'.stp s1
  have k1 := k'.trans (E'.keep s1)
  cases b with
  | true =>
    dsimp only
    rw [if_pos rfl] at hb ⊢
    refine ⟨fun σ2 H2 => ∃ m', m' < m ∧ ∃ env2, ERep A H2 σ2 env2 ∧ Keep (MM A σ env) (MM A σ2 env2) H H2 ∧ I m' env2, fun σ2 H2 h => h, env', _, E1, hb, fun σ4 H4 env4 kk EE ⟨m', hm, hh⟩ => ⟨m', hm, env4, EE, k1.trans kk, hh⟩,
      fun σ4 H4 env4 kk EE hh => q1 σ4 H4 env4 (k1.trans kk) EE hh, fun σ4 H4 env4 kk EE ⟨m', hm, hh⟩ => ⟨m', hm, env4, EE, k1.trans kk, hh⟩, q4, fun x c dd σ4 H4 env4 kk => q5 x c dd σ4 H4 env4 (k1.trans kk)⟩
  | false =>
    dsimp only
    rw [if_neg Bool.false_ne_true] at hb ⊢
    exact q1 σ' H1 env' k1 E1 hb
end
end Nb
set_option maxRecDepth 100000
set_option maxHeartbeats 2000000
/-! Nb: operators, calls of built-ins, comprehensions. -/
namespace Nb
open PySem PySem.Spec PyProof.Rows L2
section
variable {X : Cx} {A : Act} {W : WX}
/-! ### + -/
def dAdd (x y : D) (Q : D → Prop) : Prop := match x, y with
  | .int i, .int j => Q (.int (i + j))
  | .str i, .str j => i.length + j.length ≤ LINE ∧ Q (.str (i ++ j))
  | .lst i, .lst j => i.length + j.length ≤ LINE ∧ Q (.lst (i ++ j))
  | .tup i, .tup j => i ≠ [] ∧ i.length + j.length ≤ LINE ∧ Q (.tup (i ++ j))
  | _, _ => False
def rAddAll (K : PySem.W.Frag) : R2 := fun x y H Q => rI0 (fun i j => .int (i + j)) x y H Q ∨ ((∃ i j, x = .str i ∧ y = .str j ∧ i.length + j.length ≤ sizeLine ∧ Q (.str (i ++ j)) H) ∨ (rCat x y H Q ∨ rCatT K x y H Q))
theorem op_addAll : OpR X (binaryOp .Add) (rAddAll X.K) := op_add.or (op_add_str.or (op_cat.or op_catT))
theorem od_add : OpD A (rAddAll A.R.K) dAdd := by
  intro M H x y d e Q Qd hst hf rx ry h k
  match d, e, rx, ry, h with
  | .int i, .int j, .int _, .int _, h => exact .inl ⟨i, j, rfl, rfl, k _ _ H (Stp.refl _ _) (.int _) h⟩
  | .str i, .str j, .str _, .str _, h => exact .inr (.inl ⟨i, j, rfl, rfl, by rw [line_is]; exact h.1, k _ _ H (Stp.refl _ _) (.str _) h.2⟩)
  | .lst i, .lst j, .lst (a := a) (xs := xs) e1 n1 r1, .lst (a := b) (xs := ys) e2 n2 r2, h =>
    refine .inr (.inr (.inl ⟨a, b, xs, ys, rfl, rfl, e1, e2, by rw [r1.length, r2.length, line_is]; exact h.1, fun p hp => ?_⟩))
    have s : Stp A.R H (upd H p (.lst (xs ++ ys))) := Stp.new hp
    exact k _ _ _ s (.lst upd_same (hf p hp) ((r1.append r2).keep (s.keep hst))) h.2
  | .tup i, .tup j, .tup (a := a) (xs := xs) t1 r1, .tup (a := b) (xs := ys) t2 r2, h =>
    have hx : xs ≠ [] := fun z => h.1 (by cases r1 with
      | nil => rfl
      | cons _ _ => cases z)
    refine .inr (.inr (.inr ⟨a, b, xs, ys, rfl, rfl, t1.sq, t2.sq, hx, by rw [r1.length, r2.length, line_is]; exact h.2.1, fun z => ?_, fun z p hp => ?_⟩))
    · subst z
      cases r2
      refine k _ _ H (Stp.refl _ _) (.tup t1 r1) ?_
      have := h.2.2
      rw [List.append_nil] at this
      exact this
    · have s : Stp A.R H (upd H p (.tup (xs ++ ys))) := Stp.new hp
      exact k _ _ _ s (.tup (TAt.new (hf p hp)) ((r1.append r2).keep (s.keep hst))) h.2.2
theorem ge_add {a b : Expr} {pos} {ga gb : DE} (ha : GE X A W a ga) (hb : GE X A W b gb) (hK : A.R.K = X.K := by rfl) : GE X A W (.BinOp a .Add b pos) (dop dAdd ga gb) := ge_bin op_addAll (hK ▸ od_add) ha hb
/-! ### ints -/
theorem od_I {C : Int → Int → Prop} {g : Int → Int → V} {gd : Int → Int → D} (hg : ∀ (M : Addr → Prop) (H : Hp) i j, Rep A.R M H (g i j) (gd i j)) : OpD A (rI C g) (fun x y Q => match x, y with
  | .int i, .int j => C i j ∧ Q (gd i j)
  | _, _ => False) := by
  intro M H x y d e Q Qd hst hf rx ry h k
  match d, e, rx, ry, h with
  | .int i, .int j, .int _, .int _, h => exact ⟨i, j, rfl, rfl, h.1, k _ _ H (Stp.refl _ _) (hg _ _ _ _) h.2⟩
theorem od_I0 {g : Int → Int → V} {gd : Int → Int → D} (hg : ∀ (M : Addr → Prop) (H : Hp) i j, Rep A.R M H (g i j) (gd i j)) : OpD A (rI0 g) (fun x y Q => match x, y with
  | .int i, .int j => Q (gd i j)
  | _, _ => False) := by
  intro M H x y d e Q Qd hst hf rx ry h k
  match d, e, rx, ry, h with
  | .int i, .int j, .int _, .int _, h => exact ⟨i, j, rfl, rfl, k _ _ H (Stp.refl _ _) (hg _ _ _ _) h⟩
def dII (C : Int → Int → Prop) (g : Int → Int → Int) (x y : D) (Q : D → Prop) : Prop := match x, y with
  | .int i, .int j => C i j ∧ Q (.int (g i j))
  | _, _ => False
def dI0 (g : Int → Int → Int) (x y : D) (Q : D → Prop) : Prop := match x, y with
  | .int i, .int j => Q (.int (g i j))
  | _, _ => False
def dB0 (g : Int → Int → Bool) (x y : D) (Q : D → Prop) : Prop := match x, y with
  | .int i, .int j => Q (.bl (g i j))
  | _, _ => False
abbrev CMulA (i j : Int) : Prop := CMul i j ∨ CMulW i j
abbrev CDivA (i j : Int) : Prop := CDiv i j ∨ CDivW i j
abbrev CPos (_ j : Int) : Prop := 0 < j
abbrev dSub := dI0 fun i j => i - j
abbrev dMulI := dII CMulA fun i j => i * j
abbrev dFdiv := dII CDivA fun i j => i / j
abbrev dMod := dII CPos fun i j => i % j
abbrev dPow := dII CPow fun i j => i ^ j.toNat
theorem op_mulA : OpR X (binaryOp .Mult) (rI CMulA fun i j => .int (i * j)) := opI fun _ _ _ _ _ _ _ hc q => mul_int q (hc.elim CMul.ok CMulW.ok)
theorem op_fdivA : OpR X (binaryOp .FloorDiv) (rI CDivA fun i j => .int (i / j)) := by
  intro pins s σ H x y v u Q I rx ry h
  obtain ⟨i, j, rfl, rfl, hc, q⟩ := h
  rcases hc with hc | hc
  · exact op_fdiv pins s σ H _ _ v u Q I rx ry ⟨i, j, rfl, rfl, hc, q⟩
  · exact op_fdivW pins s σ H _ _ v u Q I rx ry ⟨i, j, rfl, rfl, hc, q⟩
/-- products: of ints; a list n times -/
def dMul (x y : D) (Q : D → Prop) : Prop := match x, y with
  | .int i, .int j => CMulA i j ∧ Q (.int (i * j))
  | .lst xs, .int j => (-(2 ^ 63) ≤ j ∧ j < 2 ^ 63 ∧ xs.length * j.toNat ≤ LINE) ∧ Q (.lst (List.replicate j.toNat xs).flatten)
  | _, _ => False
def rMulAll : R2 := fun x y H Q => rI CMulA (fun i j => .int (i * j)) x y H Q ∨ rRep x y H Q
theorem op_mulAll : OpR X (binaryOp .Mult) rMulAll := op_mulA.or op_rep
theorem RepL.rep {R : RC} {M : Addr → Prop} {H : Hp} {vs : List V} {ds : List D} (r : RepL R M H vs ds) : ∀ n : Nat, RepL R M H (List.replicate n vs).flatten (List.replicate n ds).flatten
  | 0 => .nil
  | n + 1 => by
    rw [List.replicate_succ, List.replicate_succ, List.flatten_cons, List.flatten_cons]
    exact r.append (RepL.rep r n)
theorem od_mul : OpD A rMulAll dMul := by
  intro M H x y d e Q Qd hst hf rx ry h k
  match d, e, rx, ry, h with
  | .int i, .int j, .int _, .int _, h => exact .inl ⟨i, j, rfl, rfl, h.1, k _ _ H (Stp.refl _ _) (.int _) h.2⟩
  | .lst xs, .int j, .lst (a := a) (xs := vs) e1 n1 r1, .int _, h =>
    refine .inr ⟨a, j, vs, rfl, rfl, e1, h.1.1, h.1.2.1, by rw [r1.length, line_is]; exact h.1.2.2, fun p hp => ?_⟩
    have s : Stp A.R H (upd H p (.lst (List.replicate j.toNat vs).flatten)) := Stp.new hp
    exact k _ _ _ s (.lst upd_same (hf p hp) ((r1.rep _).keep (s.keep hst))) h.2
theorem ge_mul {a b : Expr} {pos} {ga gb : DE} (ha : GE X A W a ga) (hb : GE X A W b gb) : GE X A W (.BinOp a .Mult b pos) (dop dMul ga gb) := ge_bin op_mulAll od_mul ha hb
theorem ge_subI {a b : Expr} {pos} {ga gb : DE} (ha : GE X A W a ga) (hb : GE X A W b gb) : GE X A W (.BinOp a .Sub b pos) (dop dSub ga gb) := ge_bin op_sub (od_I0 fun _ _ _ _ => .int _) ha hb
theorem ge_fdiv {a b : Expr} {pos} {ga gb : DE} (ha : GE X A W a ga) (hb : GE X A W b gb) : GE X A W (.BinOp a .FloorDiv b pos) (dop dFdiv ga gb) := ge_bin op_fdivA (od_I fun _ _ _ _ => .int _) ha hb
theorem ge_mod {a b : Expr} {pos} {ga gb : DE} (ha : GE X A W a ga) (hb : GE X A W b gb) : GE X A W (.BinOp a .Mod b pos) (dop dMod ga gb) := ge_bin op_mod (od_I fun _ _ _ _ => .int _) ha hb
theorem ge_pow {a b : Expr} {pos} {ga gb : DE} (ha : GE X A W a ga) (hb : GE X A W b gb) : GE X A W (.BinOp a .Pow b pos) (dop dPow ga gb) := ge_bin op_pow (od_I fun _ _ _ _ => .int _) ha hb
def dNeg (g : DE) : DE := fun env Q Ed => g env (fun d => match d with
  | .int i => Q (.int (-i))
  | _ => False) Ed
theorem ge_neg {a : Expr} {pos} {g : DE} (h : GE X A W a g) : GE X A W (.UnaryOp .USub a pos) (dNeg g) := by
  refine ⟨pe_imp (pe_un un_neg h.p) fun σ H Q ⟨env, Qd, Ed, E, h, q, x⟩ => toE_step E h x fun v d H1 s E1 _ r hd => ?_⟩
  match d, r, hd with
  | .int i, .int _, hd => exact ⟨i, rfl, q _ _ H1 s (.int _) hd⟩
abbrev dLt := dB0 fun i j => decide (i < j)
abbrev dLe := dB0 fun i j => decide (i ≤ j)
abbrev dGt := dB0 fun i j => decide (j < i)
abbrev dGe := dB0 fun i j => decide (j ≤ i)
/-! ### data as the library's data, ==, != -/
mutual
def D.py : D → Option PyData
  | .non => some .none
  | .bl b => some (.bool b)
  | .int i => some (.int i)
  | .str x => some (.str x)
  | .tup ds => (D.pys ds).map .tuple
  | .lst ds => (D.pys ds).map .list
  | .ty _ => none
  | .sto => none
  | .exc _ _ => none
  | .ins _ _ => none
  | .dct => none
def D.pys : List D → Option (List PyData)
  | [] => some []
  | d :: ds => (D.py d).bind fun x => (D.pys ds).map fun xs => x :: xs
end
mutual
theorem Rep.dp {R : RC} {M : Addr → Prop} {H : Hp} : ∀ {v : V} {d : D} {p : PyData}, Rep R M H v d → D.py d = some p → Dp R.K H v p
  | _, _, _, .non, e => by rw [D.py] at e; cases e; exact .non
  | _, _, _, .bl b, e => by rw [D.py] at e; cases e; exact .bl b
  | _, _, _, .int i, e => by rw [D.py] at e; cases e; exact .int i
  | _, _, _, .str x, e => by rw [D.py] at e; cases e; exact .str x
  | _, _, _, .ty n, e => by rw [D.py] at e; cases e
  | _, .tup ds, p, .tup t r, e => by
    rw [D.py] at e
    cases c : D.pys ds with
    | none => rw [c] at e; cases e
    | some ps =>
      rw [c] at e
      cases e
      exact .tup t.sq (RepL.dp r c)
  | _, .lst ds, p, .lst e1 n r, e => by
    rw [D.py] at e
    cases c : D.pys ds with
    | none => rw [c] at e; cases e
    | some ps =>
      rw [c] at e
      cases e
      exact .lst (SqL.of e1) (RepL.dp r c)
  | _, _, _, .sto _, e => by rw [D.py] at e; cases e
  | _, _, _, .exc0 _ _, e => by rw [D.py] at e; cases e
  | _, _, _, .excF _ _ _ _ _, e => by rw [D.py] at e; cases e
  | _, _, _, .ins _ _ _ _, e => by rw [D.py] at e; cases e
  | _, _, _, .dct _ _, e => by rw [D.py] at e; cases e
theorem RepL.dp {R : RC} {M : Addr → Prop} {H : Hp} : ∀ {v : List V} {d : List D} {p : List PyData}, RepL R M H v d → D.pys d = some p → DpAll R.K H v p
  | _, _, _, .nil, e => by rw [D.pys] at e; cases e; exact .nil
  | _, d :: ds, _, .cons a b, e => by
    rw [D.pys] at e
    cases c1 : D.py d with
    | none => rw [c1] at e; cases e
    | some x =>
      rw [c1, Option.bind_some] at e
      cases c2 : D.pys ds with
      | none => rw [c2] at e; cases e
      | some xs =>
        rw [c2] at e
        cases e
        exact .cons (Rep.dp a c1) (RepL.dp b c2)
end
/-- a shape that the comparison may walk -/
def Shp (d : D) : Prop := ∃ p, D.py d = some p ∧ SeqAt.shaped p = true
def D.eqv (d e : D) : Bool := match D.py d, D.py e with
  | some a, some b => PyData.eqv a b
  | _, _ => false
/-- kinds whose comparison asks no shape -/
def scD : D → D → Bool
  | .int _, .int _ | .str _, .str _ | .bl _, .bl _ | .non, .non | .non, .int _ | .int _, .non | .non, .str _ | .str _, .non | .non, .bl _ | .bl _, .non | .int _, .str _ | .str _, .int _ => true
  | _, _ => false
def dEq (x y : D) (Q : D → Prop) : Prop := (scD x y = true ∨ (Shp x ∧ Shp y)) ∧ Q (.bl (D.eqv x y))
def dNe (x y : D) (Q : D → Prop) : Prop := (scD x y = true ∨ (Shp x ∧ Shp y)) ∧ Q (.bl (!D.eqv x y))
theorem eqv_int (i j : Int) : D.eqv (.int i) (.int j) = (i == j) := rfl
theorem eqv_str (i j : Str) : D.eqv (.str i) (.str j) = (i == j) := rfl
theorem eqv_bl (i j : Bool) : D.eqv (.bl i) (.bl j) = (i == j) := rfl
theorem op_eqA (hu : X.A.units + 64 < cLine) : OpR X (compareOp .Eq) (fun x y H Q => rEq x y H Q ∨ rEqD X.K x y H Q) := op_eq.or (op_eqD hu)
theorem op_neA (hu : X.A.units + 64 < cLine) : OpR X (compareOp .NotEq) (fun x y H Q => rNe x y H Q ∨ rNeD X.K x y H Q) := op_ne.or (op_neD hu)
theorem scd_eq {R : RC} {M : Addr → Prop} {H : Hp} {x y : V} {d e : D} (rx : Rep R M H x d) (ry : Rep R M H y e) (h : scD d e = true) : scal x y = true ∧ D.eqv d e = decide (x = y) := by
  cases rx <;> cases ry <;> first | (exact absurd h (by decide)) | (cases h) | skip
  all_goals first
    | exact ⟨rfl, rfl⟩
    | (refine ⟨rfl, ?_⟩; first | (rw [dec_int]; rfl) | (rw [dec_str]; rfl) | (rw [dec_bl]; rfl))
theorem od_eq : OpD A (fun x y H Q => rEq x y H Q ∨ rEqD A.R.K x y H Q) dEq := by
  intro M H x y d e Q Qd hst hf rx ry h k
  obtain ⟨h1, h2⟩ := h
  rcases h1 with h1 | ⟨⟨p, hp, sp⟩, q, hq, sq⟩
  · obtain ⟨z1, z2⟩ := scd_eq rx ry h1
    refine .inl ⟨z1, k _ _ H (Stp.refl _ _) (.bl _) ?_⟩
    rw [← z2]
    exact h2
  · refine .inr ⟨p, q, rx.dp hp, ry.dp hq, sp, sq, k _ _ H (Stp.refl _ _) (.bl _) ?_⟩
    unfold D.eqv at h2
    rw [hp, hq] at h2
    exact h2
theorem od_ne : OpD A (fun x y H Q => rNe x y H Q ∨ rNeD A.R.K x y H Q) dNe := by
  intro M H x y d e Q Qd hst hf rx ry h k
  obtain ⟨h1, h2⟩ := h
  rcases h1 with h1 | ⟨⟨p, hp, sp⟩, q, hq, sq⟩
  · obtain ⟨z1, z2⟩ := scd_eq rx ry h1
    refine .inl ⟨z1, k _ _ H (Stp.refl _ _) (.bl _) ?_⟩
    rw [← z2]
    exact h2
  · refine .inr ⟨p, q, rx.dp hp, ry.dp hq, sp, sq, k _ _ H (Stp.refl _ _) (.bl _) ?_⟩
    unfold D.eqv at h2
    rw [hp, hq] at h2
    exact h2
/-- is None -/
def dIsN (x y : D) (Q : D → Prop) : Prop := match x, y with
  | .non, .non => Q (.bl true)
  | _, .non => Q (.bl false)
  | _, _ => False
def dNotN (x y : D) (Q : D → Prop) : Prop := match x, y with
  | .non, .non => Q (.bl false)
  | _, .non => Q (.bl true)
  | _, _ => False
theorem od_isN : OpD A (fun x y H Q => y = .non ∧ Q (.bl (decide (x = .non))) H) dIsN := by
  intro M H x y d e Q Qd hst hf rx ry h k
  cases ry <;> first | (cases rx <;> exact h.elim) | skip
  cases rx <;> exact ⟨rfl, k _ _ H (Stp.refl _ _) (.bl _) h⟩
theorem od_notN : OpD A (fun x y H Q => y = .non ∧ Q (.bl (!decide (x = .non))) H) dNotN := by
  intro M H x y d e Q Qd hst hf rx ry h k
  cases ry <;> first | (cases rx <;> exact h.elim) | skip
  cases rx <;> exact ⟨rfl, k _ _ H (Stp.refl _ _) (.bl _) h⟩
/-! ### in -/
def D.flat : D → Bool
  | .non | .bl _ | .int _ | .str _ => true
  | _ => false
def D.inl (x : D) (ds : List D) : Bool := ds.any fun y => D.eqv y x
def hasS (i j : Str) : Bool := !(Builtin.Str.occurrences j i 0 j.length 1).isEmpty
def dIn (x y : D) (Q : D → Prop) : Prop := match x, y with
  | .str i, .str j => Q (.bl (hasS i j))
  | x, .lst ds => (x.flat = true ∧ ds.all D.flat = true) ∧ Q (.bl (x.inl ds))
  | x, .tup ds => (x.flat = true ∧ ds.all D.flat = true) ∧ Q (.bl (x.inl ds))
  | _, _ => False
def dNotIn (x y : D) (Q : D → Prop) : Prop := dIn x y fun d => match d with
  | .bl b => Q (.bl (!b))
  | _ => False
theorem flatV_of {R : RC} {M : Addr → Prop} {H : Hp} {v : V} {d : D} (r : Rep R M H v d) (h : d.flat = true) : flatV v = true := by
  cases r <;> first | rfl | cases h
theorem flatL_of {R : RC} {M : Addr → Prop} {H : Hp} : ∀ {vs : List V} {ds : List D}, RepL R M H vs ds → ds.all D.flat = true → vs.all flatV = true
  | _, _, .nil, _ => rfl
  | _, _, .cons a b, h => by
    rw [List.all_cons, Bool.and_eq_true] at h ⊢
    exact ⟨flatV_of a h.1, flatL_of b h.2⟩
theorem eqV_of {R : RC} {M : Addr → Prop} {H : Hp} {v w : V} {d e : D} (r : Rep R M H v d) (q : Rep R M H w e) (h1 : d.flat = true) (h2 : e.flat = true) : eqV v w = D.eqv d e := by
  cases r <;> first | exact (Bool.false_ne_true h1).elim | skip
  all_goals (cases q <;> first | exact (Bool.false_ne_true h2).elim | rfl)
theorem inV_of {R : RC} {M : Addr → Prop} {H : Hp} {w : V} {e : D} (q : Rep R M H w e) (h2 : e.flat = true) : ∀ {vs : List V} {ds : List D}, RepL R M H vs ds → ds.all D.flat = true → inV w vs = e.inl ds
  | _, _, .nil, _ => rfl
  | _, _, .cons a b, h => by
    rw [List.all_cons, Bool.and_eq_true] at h
    unfold inV D.inl
    rw [List.any_cons, List.any_cons, eqV_of a q h.1 h2]
    exact congrArg _ (inV_of q h2 b h.2)
def rInAll (K : PySem.W.Frag) : R2 := fun x y H Q => (∃ i j, x = .str i ∧ y = .str j ∧ Q (.bl (!(Builtin.Str.occurrences j i 0 j.length 1).isEmpty)) H) ∨ rIn K false x y H Q
def rNotInAll (K : PySem.W.Frag) : R2 := fun x y H Q => (∃ i j, x = .str i ∧ y = .str j ∧ Q (.bl (!(!(Builtin.Str.occurrences j i 0 j.length 1).isEmpty))) H) ∨ rIn K true x y H Q
theorem op_inAll : OpR X (compareOp .In) (rInAll X.K) := op_in_str.or op_in_seq
theorem op_notInAll : OpR X (compareOp .NotIn) (rNotInAll X.K) := op_notin_str.or op_notIn_seq
theorem od_in : OpD A (rInAll A.R.K) dIn := by
  intro M H x y d e Q Qd hst hf rx ry h k
  cases ry with
  | str j =>
    cases rx <;> first | exact h.elim | skip
    exact .inl ⟨_, j, rfl, rfl, k _ _ H (Stp.refl _ _) (.bl _) h⟩
  | @lst a xs ds e1 n1 r1 =>
    have h' : (d.flat = true ∧ ds.all D.flat = true) ∧ Qd (.bl (d.inl ds)) := by cases rx <;> exact h
    refine .inr ⟨a, xs, rfl, .inl (SqL.of e1), flatV_of rx h'.1.1, flatL_of r1 h'.1.2, k _ _ H (Stp.refl _ _) (.bl _) ?_⟩
    rw [if_neg Bool.false_ne_true, inV_of rx h'.1.1 r1 h'.1.2]
    exact h'.2
  | @tup a xs ds t1 r1 =>
    have h' : (d.flat = true ∧ ds.all D.flat = true) ∧ Qd (.bl (d.inl ds)) := by cases rx <;> exact h
    refine .inr ⟨a, xs, rfl, .inr t1.sq, flatV_of rx h'.1.1, flatL_of r1 h'.1.2, k _ _ H (Stp.refl _ _) (.bl _) ?_⟩
    rw [if_neg Bool.false_ne_true, inV_of rx h'.1.1 r1 h'.1.2]
    exact h'.2
  | _ => cases rx <;> exact h.elim
theorem od_notIn : OpD A (rNotInAll A.R.K) dNotIn := by
  intro M H x y d e Q Qd hst hf rx ry h k
  cases ry with
  | str j =>
    cases rx <;> first | exact h.elim | skip
    exact .inl ⟨_, j, rfl, rfl, k _ _ H (Stp.refl _ _) (.bl _) h⟩
  | @lst a xs ds e1 n1 r1 =>
    have h' : (d.flat = true ∧ ds.all D.flat = true) ∧ Qd (.bl (!(d.inl ds))) := by cases rx <;> exact h
    refine .inr ⟨a, xs, rfl, .inl (SqL.of e1), flatV_of rx h'.1.1, flatL_of r1 h'.1.2, k _ _ H (Stp.refl _ _) (.bl _) ?_⟩
    rw [if_pos rfl, inV_of rx h'.1.1 r1 h'.1.2]
    exact h'.2
  | @tup a xs ds t1 r1 =>
    have h' : (d.flat = true ∧ ds.all D.flat = true) ∧ Qd (.bl (!(d.inl ds))) := by cases rx <;> exact h
    refine .inr ⟨a, xs, rfl, .inr t1.sq, flatV_of rx h'.1.1, flatL_of r1 h'.1.2, k _ _ H (Stp.refl _ _) (.bl _) ?_⟩
    rw [if_pos rfl, inV_of rx h'.1.1 r1 h'.1.2]
    exact h'.2
  | _ => cases rx <;> exact h.elim
/-! ### comparisons: as values and as tests -/
structure CMP (X : Cx) (A : Act) (op : CmpOp) (f : D → D → (D → Prop) → Prop) : Prop where
  ex : ∃ r, OpR X (compareOp op) r ∧ OpD A r f
theorem cm_eq (hu : X.A.units + 64 < cLine) (hK : A.R.K = X.K := by rfl) : CMP X A .Eq dEq := ⟨_, op_eqA hu, hK ▸ od_eq⟩
theorem cm_ne (hu : X.A.units + 64 < cLine) (hK : A.R.K = X.K := by rfl) : CMP X A .NotEq dNe := ⟨_, op_neA hu, hK ▸ od_ne⟩
theorem cm_lt : CMP X A .Lt dLt := ⟨_, op_lt, od_I0 fun _ _ _ _ => .bl _⟩
theorem cm_le : CMP X A .LtE dLe := ⟨_, op_le, od_I0 fun _ _ _ _ => .bl _⟩
theorem cm_gt : CMP X A .Gt dGt := ⟨_, op_gt, od_I0 fun _ _ _ _ => .bl _⟩
theorem cm_ge : CMP X A .GtE dGe := ⟨_, op_ge, od_I0 fun _ _ _ _ => .bl _⟩
theorem cm_isN : CMP X A .Is dIsN := ⟨_, op_isN, od_isN⟩
theorem cm_notN : CMP X A .IsNot dNotN := ⟨_, op_notN, od_notN⟩
theorem cm_in (hK : A.R.K = X.K := by rfl) : CMP X A .In dIn := ⟨_, op_inAll, hK ▸ od_in⟩
theorem cm_notIn (hK : A.R.K = X.K := by rfl) : CMP X A .NotIn dNotIn := ⟨_, op_notInAll, hK ▸ od_notIn⟩
theorem ge_c {op : CmpOp} {f : D → D → (D → Prop) → Prop} {a b : Expr} {pos} {ga gb : DE} (c : CMP X A op f) (ha : GE X A W a ga) (hb : GE X A W b gb) (hm : behindInMarks op b = false := by first | exact nomark _ | rfl) : GE X A W (.Compare a [op] [b] pos) (dop f ga gb) := by
  obtain ⟨r, o, od⟩ := c.ex
  exact ge_cmp o od ha hb hm
theorem gt_c {op : CmpOp} {f : D → D → (D → Prop) → Prop} {a b : Expr} {pos} {ga gb : DE} (c : CMP X A op f) (ha : GE X A W a ga) (hb : GE X A W b gb) (hm : behindInMarks op b = false := by first | exact nomark _ | rfl) : GT X A W (.Compare a [op] [b] pos) (dtest (dop f ga gb)) := by
  obtain ⟨r, o, od⟩ := c.ex
  exact gt_cmp o od ha hb hm
/-- a op b op' c -/
def dchain (f f' : D → D → (D → Prop) → Prop) (ga gb gc : DE) : DE := fun env Q Ed => ga env (fun x => gb env (fun y => f x y fun z => match z with
  | .bl b => if b = true then gc env (fun w => f' y w Q) Ed else Q (.bl false)
  | _ => False) Ed) Ed
theorem chain_of {op op' : CmpOp} {r r' : R2} {f f' : D → D → (D → Prop) → Prop} {ga gb gc : DE} {σ : St} {H : Hp} {Q : VK} (od : OpD A r f) (od' : OpD A r' f') (h : toE A W (dchain f f' ga gb gc) σ H Q) : tChain r r' (toE A W ga) (toE A W gb) (toE A W gc) σ H Q := by
  obtain ⟨env, Qd, Ed, E, h, q, x⟩ := h
  refine toE_step E h x fun v d H1 s1 E1 x1 r1 h1 => toE_step E1 h1 x1 fun w e H2 s2 E2 x2 r2 h2 => ?_
  refine od _ H2 v w d e _ _ E2.mst (fun a z => E2.fresh z) (r1.keep (E1.keep s2)) r2 h2 fun u d' H3 s3 r3 q3 => ?_
  match d', r3, q3 with
  | .bl true, .bl _, q3 =>
    dsimp only at q3
    rw [if_pos rfl] at q3
    refine ⟨true, rfl, iteT ?_⟩
    have E3 := E2.stp s3
    refine toE_step E3 q3 (x2.stp s3) fun w' e' H4 s4 E4 x4 r4 h4 => ?_
    exact od' _ H4 w w' e e' Q Qd E4.mst (fun a z => E4.fresh z) (r2.keep (E2.keep (s3.trans s4))) r4 h4 fun u2 d2 H5 s5 r5 q5 => q u2 d2 H5 ((((s1.trans s2).trans s3).trans s4).trans s5) r5 q5
  | .bl false, .bl _, q3 =>
    dsimp only at q3
    rw [if_neg Bool.false_ne_true] at q3
    refine ⟨false, rfl, iteF ?_⟩
    exact q _ _ H3 ((s1.trans s2).trans s3) (.bl _) q3
theorem ge_chain {op op' : CmpOp} {f f' : D → D → (D → Prop) → Prop} {a b c : Expr} {pos} {ga gb gc : DE} (k : CMP X A op f) (k' : CMP X A op' f') (ha : GE X A W a ga) (hb : GE X A W b gb) (hc : GE X A W c gc)
    (hP : ∀ r r' ta tb tc, OpR X (compareOp op) r → OpR X (compareOp op') r' → PE X a ta → PE X b tb → PE X c tc → PE X (.Compare a [op, op'] [b, c] pos) (tChain r r' ta tb tc) := by exact fun _ _ _ _ _ o o' a b c => pe_chain o o' a b c) : GE X A W (.Compare a [op, op'] [b, c] pos) (dchain f f' ga gb gc) := by
  obtain ⟨r, o, od⟩ := k.ex
  obtain ⟨r', o', od'⟩ := k'.ex
  exact ⟨pe_imp (hP _ _ _ _ _ o o' ha.p hb.p hc.p) fun σ H Q h => chain_of (op := op) (op' := op') od od' h⟩
/-! ### tests -/
def dtruth (g : DE) : DB := fun env Q Ed => g env (fun d => match d with
  | .bl b => Q b
  | _ => False) Ed
theorem gt_val {e : Expr} {g : DE} (h : GE X A W e g) (he : ∀ whole, isTrue e X.env whole = (do let v ← whole; standAt e.pos; holding [v] (truthy v)) := by intro _; rfl) : GT X A W e (dtruth g) := by
  refine ⟨pt_imp (pt_val h.p he) fun σ H Q ⟨env, Qd, Ed, E, h, q, x⟩ => toE_step E h x fun v d H1 s E1 _ r hd => ?_⟩
  match d, r, hd with
  | .bl b, .bl _, hd => exact ⟨b, rfl, q b H1 s hd⟩
theorem toB_step {g : DB} {σ : St} {H : Hp} {env : DEnv} {Q : Bool → Hp → Prop} {Qd : Bool → Prop} {Ed : Ex → Prop} (E : ERep A H σ env) (h : g env Qd Ed) (x : XOut A W σ env H Ed)
    (k : ∀ b H', Stp A.R H H' → ERep A H' σ env → XOut A W σ env H' Ed → Qd b → Q b H') : toB A W g σ H Q :=
  ⟨env, Qd, Ed, E, h, fun b H' s q => k b H' s (E.stp s) (x.stp s) q, x⟩
structure GW (X : Cx) (A : Act) (W : WX) (e : Expr) (g : DB) : Prop where
  p : PW X e (toB A W g)
theorem pw_imp {e : Expr} {t t' : TT} (h : PW X e t) (i : ∀ σ H Q, t' σ H Q → t σ H Q) : PW X e t' := ⟨fun wh pins s σ H Q I w => h.run wh pins s σ H Q I (i σ H Q w)⟩
def dand (g u : DB) : DB := fun env Q Ed => g env (fun b => if b = true then u env Q Ed else Q false) Ed
def dor (g u : DB) : DB := fun env Q Ed => g env (fun b => if b = true then Q true else u env Q Ed) Ed
def dnot (g : DB) : DB := fun env Q Ed => g env (fun b => Q (!b)) Ed
theorem gw_and1 {a : Expr} {pos} {g : DB} (h : GT X A W a g) : GW X A W (.BoolOp .And [a] pos) g := ⟨pw_and1 h.p⟩
theorem gw_or1 {a : Expr} {pos} {g : DB} (h : GT X A W a g) : GW X A W (.BoolOp .Or [a] pos) g := ⟨pw_or1 h.p⟩
theorem gw_and {a b : Expr} {rest : List Expr} {pos} {g u : DB} (h : GT X A W a g) (k : GW X A W (.BoolOp .And (b :: rest) pos) u) : GW X A W (.BoolOp .And (a :: b :: rest) pos) (dand g u) := by
  refine ⟨pw_imp (pw_and h.p k.p) fun σ H Q ⟨env, Qd, Ed, E, h, q, x⟩ => toB_step E h x fun c H1 s E1 x1 hd => ?_⟩
  cases c with
  | true => exact ⟨env, Qd, Ed, E1, hd, fun b H2 s2 qd => q b H2 (s.trans s2) qd, x1⟩
  | false => exact q false H1 s hd
theorem gw_or {a b : Expr} {rest : List Expr} {pos} {g u : DB} (h : GT X A W a g) (k : GW X A W (.BoolOp .Or (b :: rest) pos) u) : GW X A W (.BoolOp .Or (a :: b :: rest) pos) (dor g u) := by
  refine ⟨pw_imp (pw_or h.p k.p) fun σ H Q ⟨env, Qd, Ed, E, h, q, x⟩ => toB_step E h x fun c H1 s E1 x1 hd => ?_⟩
  cases c with
  | false => exact ⟨env, Qd, Ed, E1, hd, fun b H2 s2 qd => q b H2 (s.trans s2) qd, x1⟩
  | true => exact q true H1 s hd
theorem GW.t {e : Expr} {g : DB} (h : GW X A W e g) : GT X A W e g := ⟨h.p.pt⟩
theorem gt_not {a : Expr} {pos} {g : DB} (h : GT X A W a g) : GT X A W (.UnaryOp .Not a pos) (dnot g) :=
  ⟨pt_imp (pt_not h.p) fun σ H Q ⟨env, Qd, Ed, E, h, q, x⟩ => toB_step E h x fun b H1 s _ _ hd => q _ H1 s hd⟩
/-- and, or, not as values (of truths) -/
def dandV (g u : DE) : DE := fun env Q Ed => g env (fun d => match d with
  | .bl b => if b = true then u env Q Ed else Q (.bl false)
  | _ => False) Ed
def dorV (g u : DE) : DE := fun env Q Ed => g env (fun d => match d with
  | .bl b => if b = true then Q (.bl true) else u env Q Ed
  | _ => False) Ed
def dnotV (g : DE) : DE := fun env Q Ed => g env (fun d => match d with
  | .bl b => Q (.bl (!b))
  | _ => False) Ed
theorem ge_not {a : Expr} {pos} {g : DE} (h : GE X A W a g) (hP : ∀ t, PE X a t → PE X (.UnaryOp .Not a pos) (tNotV t) := by exact fun t h => pe_not h) : GE X A W (.UnaryOp .Not a pos) (dnotV g) := by
  refine ⟨pe_imp (hP _ h.p) fun σ H Q ⟨env, Qd, Ed, E, h, q, x⟩ => toE_step E h x fun v d H1 s E1 _ r hd => ?_⟩
  match d, r, hd with
  | .bl b, .bl _, hd => exact ⟨b, rfl, q _ _ H1 s (.bl _) hd⟩
theorem ge_and {a b : Expr} {rest : List Expr} {pos} {g u : DE} (h : GE X A W a g) (k : GE X A W (.BoolOp .And (b :: rest) pos) u) (hP : ∀ t u, PE X a t → PE X (.BoolOp .And (b :: rest) pos) u → PE X (.BoolOp .And (a :: b :: rest) pos) (tAndV t u) := by exact fun t u h k => pe_and h k) :
    GE X A W (.BoolOp .And (a :: b :: rest) pos) (dandV g u) := by
  refine ⟨pe_imp (hP _ _ h.p k.p) fun σ H Q ⟨env, Qd, Ed, E, h, q, x⟩ => toE_step E h x fun v d H1 s E1 x1 r hd => ?_⟩
  match d, r, hd with
  | .bl true, .bl _, hd => exact ⟨true, rfl, iteT ⟨env, Qd, Ed, E1, hd, fun v d H2 s2 r q2 => q v d H2 (s.trans s2) r q2, x1⟩⟩
  | .bl false, .bl _, hd => exact ⟨false, rfl, iteF (q _ _ H1 s (.bl _) hd)⟩
theorem ge_or {a b : Expr} {rest : List Expr} {pos} {g u : DE} (h : GE X A W a g) (k : GE X A W (.BoolOp .Or (b :: rest) pos) u) (hP : ∀ t u, PE X a t → PE X (.BoolOp .Or (b :: rest) pos) u → PE X (.BoolOp .Or (a :: b :: rest) pos) (tOrV t u) := by exact fun t u h k => pe_or h k) :
    GE X A W (.BoolOp .Or (a :: b :: rest) pos) (dorV g u) := by
  refine ⟨pe_imp (hP _ _ h.p k.p) fun σ H Q ⟨env, Qd, Ed, E, h, q, x⟩ => toE_step E h x fun v d H1 s E1 x1 r hd => ?_⟩
  match d, r, hd with
  | .bl false, .bl _, hd => exact ⟨false, rfl, iteF ⟨env, Qd, Ed, E1, hd, fun v d H2 s2 r q2 => q v d H2 (s.trans s2) r q2, x1⟩⟩
  | .bl true, .bl _, hd => exact ⟨true, rfl, iteT (q _ _ H1 s (.bl _) hd)⟩
theorem ge_one {a : Expr} {op} {pos} {g : DE} (h : GE X A W a g) (hP : ∀ t, PE X a t → PE X (.BoolOp op [a] pos) t := by exact fun t h => pe_one h) : GE X A W (.BoolOp op [a] pos) g := ⟨hP _ h.p⟩
def difE (c : DB) (g u : DE) : DE := fun env Q Ed => c env (fun b => if b = true then g env Q Ed else u env Q Ed) Ed
theorem ge_ifExp {c a b : Expr} {pos} {gc : DB} {g u : DE} (hc : GT X A W c gc) (ha : GE X A W a g) (hb : GE X A W b u) : GE X A W (.IfExp c a b pos) (difE gc g u) := by
  refine ⟨pe_imp (pe_ifExp hc.p ha.p hb.p) fun σ H Q ⟨env, Qd, Ed, E, h, q, x⟩ => toB_step E h x fun b H1 s E1 x1 hd => ?_⟩
  cases b with
  | true => exact ⟨env, Qd, Ed, E1, hd, fun v d H2 s2 r q2 => q v d H2 (s.trans s2) r q2, x1⟩
  | false => exact ⟨env, Qd, Ed, E1, hd, fun v d H2 s2 r q2 => q v d H2 (s.trans s2) r q2, x1⟩
end
end Nb
set_option maxRecDepth 100000
set_option maxHeartbeats 2000000
/-! Nb: items, slices, calls, comprehensions, defs. -/
namespace Nb
open PySem PySem.Spec PyProof.Rows L2
section
variable {X : Cx} {A : Act} {W : WX}
/-! ### xs[i] -/
def dIx (x y : D) (Q : D → Prop) : Prop := match x, y with
  | .lst ds, .int i => ∃ d, atI ds i = some d ∧ Q d
  | .tup ds, .int i => ∃ d, atI ds i = some d ∧ Q d
  | .str z, .int i => z.length ≤ LINE ∧ ∃ c, atI z.cps.toList i = some c ∧ Q (.str ⟨#[c]⟩)
  | _, _ => False
theorem RepL.atI {R : RC} {M : Addr → Prop} {H : Hp} {vs : List V} {ds : List D} (r : RepL R M H vs ds) {i : Int} {d : D} (h : L2.atI ds i = some d) : ∃ v, L2.atI vs i = some v ∧ Rep R M H v d := by
  unfold L2.atI at h ⊢
  rw [r.length]
  cases e : ixN ds.length i with
  | none => rw [e] at h; cases h
  | some j =>
    rw [e, Option.bind_some] at h
    obtain ⟨v, h1, h2⟩ := r.get h
    exact ⟨v, by rw [Option.bind_some]; exact h1, h2⟩
theorem od_ix : OpD A (rIx A.R.K) dIx := by
  intro M H x y d e Q Qd hst hf rx ry h k
  match d, e, rx, ry, h with
  | .lst ds, .int i, .lst (a := a) (xs := xs) e1 n r, .int _, ⟨d, h1, h2⟩ =>
    obtain ⟨v, h3, h4⟩ := r.atI h1
    exact .inl ⟨a, xs, i, v, rfl, rfl, SqL.of e1, h3, k _ _ H (Stp.refl _ _) h4 h2⟩
  | .tup ds, .int i, .tup (a := a) (xs := xs) t r, .int _, ⟨d, h1, h2⟩ =>
    obtain ⟨v, h3, h4⟩ := r.atI h1
    exact .inr (.inl ⟨a, xs, i, v, rfl, rfl, t.sq, h3, k _ _ H (Stp.refl _ _) h4 h2⟩)
  | .str z, .int i, .str _, .int _, ⟨hz, c, h1, h2⟩ => exact .inr (.inr ⟨z, i, c, rfl, rfl, by rw [line_is]; exact hz, h1, k _ _ H (Stp.refl _ _) (.str _) h2⟩)
theorem ge_ix {a b : Expr} {pos} {ga gb : DE} (ha : GE X A W a ga) (hb : GE X A W b gb) (hs : PlainIx b := by exact fun _ _ => rfl) (hK : A.R.K = X.K := by rfl) : GE X A W (.Subscript a b pos) (dop dIx ga gb) := ge_sub ix_seq (hK ▸ od_ix) ha hb hs
/-- an item of a list of the def's own -/
def dixO (i : Nat) (g : DE) : DE := fun env Q Ed => match env[i]? with
  | some (.own ds) => g env (fun d => match d with
    | .int n => ∃ y, atI ds n = some y ∧ Q y
    | _ => False) Ed
  | _ => False
theorem ge_ixO {i : Nat} {a b : Expr} {pos} {g : DE} (ha : PE X a (tVar i)) (hb : GE X A W b g) (hs : PlainIx b := by exact fun _ _ => rfl) : GE X A W (.Subscript a b pos) (dixO i g) := by
  refine ⟨pe_imp (pe_ix ix_list ha hb.p hs) fun σ H Q ⟨env, Qd, Ed, E, h, q, x⟩ => ?_⟩
  obtain ⟨ds, e1, h⟩ := own_of h
  obtain ⟨a, vs, h1, h2, h3, h4, h5⟩ := E.own i ds e1
  refine ⟨.ref a, h1, toE_step E h x fun v d H1 s E1 _ r hd => ?_⟩
  match d, r, hd with
  | .int n, .int _, ⟨y, h6, h7⟩ =>
    obtain ⟨v, h8, h9⟩ := (h3.keep (E.keep s)).atI h6
    exact ⟨a, vs, n, v, rfl, rfl, SqL.of (s.k a _ h2 fun z => h4 (E.ok.st a z)), h8, q _ _ H1 s h9 h7⟩
/-! ### slices -/
abbrev DO := DEnv → (Option Int → Prop) → (Ex → Prop) → Prop
def toO (A : Act) (W : WX) (g : DO) : TO := fun σ H Q => ∃ (env : DEnv) (Qd : Option Int → Prop) (Ed : Ex → Prop), ERep A H σ env ∧ g env Qd Ed ∧ (∀ o H', Stp A.R H H' → Qd o → Q o H') ∧ XOut A W σ env H Ed
structure GO (X : Cx) (A : Act) (W : WX) (e : Option Expr) (g : DO) : Prop where
  p : PO X e (toO A W g)
theorem po_imp {e : Option Expr} {t t' : TO} (h : PO X e t) (i : ∀ σ H Q, t' σ H Q → t σ H Q) : PO X e t' := ⟨fun pins s σ H Q I w => h.run pins s σ H Q I (i σ H Q w)⟩
def donone : DO := fun _ Q _ => Q none
def dosome (g : DE) : DO := fun env Q Ed => g env (fun d => match d with
  | .int i => Q (some i)
  | _ => False) Ed
theorem go_none : GO X A W none donone := ⟨po_imp po_none fun σ H Q ⟨env, Qd, Ed, E, h, q, x⟩ => q none H (Stp.refl _ _) h⟩
theorem go_some {e : Expr} {g : DE} (h : GE X A W e g) : GO X A W (some e) (dosome g) := by
  refine ⟨po_imp (po_some h.p) fun σ H Q ⟨env, Qd, Ed, E, h, q, x⟩ => toE_step E h x fun v d H1 s E1 _ r hd => ?_⟩
  match d, r, hd with
  | .int i, .int _, hd => exact ⟨i, rfl, q (some i) H1 s hd⟩
def cutD (xs : List D) (lo hi : Option Int) : List D := (xs.drop (HT.sIx xs.length 0 lo)).take (HT.sIx xs.length xs.length hi - HT.sIx xs.length 0 lo)
theorem RepL.cut {R : RC} {M : Addr → Prop} {H : Hp} {vs : List V} {ds : List D} (r : RepL R M H vs ds) (lo hi : Option Int) : RepL R M H (cutV vs lo hi) (cutD ds lo hi) := by
  unfold cutV cutD
  rw [r.length]
  exact (r.drop _).take _
def dSl (g : DE) (l u : DO) : DE := fun env Q Ed => g env (fun d => l env (fun lo => u env (fun hi => match d with
  | .lst ds => Q (.lst (cutD ds lo hi))
  | .str z => z.length ≤ LINE ∧ Q (.str (cutS z lo hi))
  | _ => False) Ed) Ed) Ed
def rSlAll (K : PySem.W.Frag) : V → Option Int → Option Int → Hp → VK → Prop := fun x lo hi H Q => rSlL K x lo hi H Q ∨ rSlS x lo hi H Q
theorem sl_all : SlR X (rSlAll X.K) := sl_list.or sl_str
theorem toO_step {g : DO} {σ : St} {H : Hp} {env : DEnv} {Q : Option Int → Hp → Prop} {Qd : Option Int → Prop} {Ed : Ex → Prop} (E : ERep A H σ env) (h : g env Qd Ed) (x : XOut A W σ env H Ed)
    (k : ∀ b H', Stp A.R H H' → ERep A H' σ env → XOut A W σ env H' Ed → Qd b → Q b H') : toO A W g σ H Q :=
  ⟨env, Qd, Ed, E, h, fun b H' s q => k b H' s (E.stp s) (x.stp s) q, x⟩
theorem ge_sl {e : Expr} {lo hi : Option Expr} {p2 pos : Pos} {g : DE} {l u : DO} (he : GE X A W e g) (hl : GO X A W lo l) (hu : GO X A W hi u) : GE X A W (.Subscript e (.Slice lo hi none p2) pos) (dSl g l u) := by
  refine ⟨pe_imp (pe_slice sl_all he.p hl.p hu.p) fun σ H Q ⟨env, Qd, Ed, E, h, q, x⟩ => toE_step E h x fun v d H1 s1 E1 x1 r h1 => toO_step E1 h1 x1 fun a H2 s2 E2 x2 h2 => toO_step E2 h2 x2 fun b H3 s3 E3 x3 h3 => ?_⟩
  have r3 := (r.keep (E1.keep (s2.trans s3)))
  match d, r3, h3 with
  | .lst ds, .lst (a := p) (xs := vs) e1 n rl, h3 =>
    refine .inl ⟨p, vs, rfl, SqL.of e1, fun c hc => ?_⟩
    have s : Stp A.R H3 (upd H3 c (.lst (cutV vs a b))) := Stp.new hc
    exact q _ _ _ ((s1.trans (s2.trans s3)).trans s) (.lst upd_same (E3.fresh hc) ((rl.cut a b).keep (E3.keep s))) h3
  | .str z, .str _, h3 => exact .inr ⟨z, rfl, by rw [line_is]; exact h3.1, q _ _ H3 (s1.trans (s2.trans s3)) (.str _) h3.2⟩
/-! ### calls by values -/
def CallD (A : Act) (r : List V → Hp → VK → Prop) (f : List D → (D → Prop) → Prop) : Prop := ∀ (M : Addr → Prop) (H : Hp) (xs : List V) (ds : List D) (Q : VK) (Qd : D → Prop), (∀ a, A.R.st = some a → M a) → (∀ a, H a = none → ¬ M a) → RepL A.R M H xs ds → f ds Qd →
  (∀ v d' H', Stp A.R H H' → Rep A.R M H' v d' → Qd d' → Q v H') → r xs H Q
def dcb (f : List D → (D → Prop) → Prop) (gs : DL) : DE := fun env Q Ed => gs env (fun ds => f ds Q) Ed
theorem toL_step {g : DL} {σ : St} {H : Hp} {env : DEnv} {Q : List V → Hp → Prop} {Qd : List D → Prop} {Ed : Ex → Prop} (E : ERep A H σ env) (h : g env Qd Ed) (x : XOut A W σ env H Ed)
    (k : ∀ v d H', Stp A.R H H' → ERep A H' σ env → XOut A W σ env H' Ed → RepL A.R (MM A σ env) H' v d → Qd d → Q v H') : toL A W g σ H Q :=
  ⟨env, Qd, Ed, E, h, fun v d H' s r q => k v d H' s (E.stp s) (x.stp s) r q, x⟩
theorem ge_cb {r : List V → Hp → VK → Prop} {f : List D → (D → Prop) → Prop} {e : Expr} {gs : DL} {es : List Expr} (hP : ∀ t, PA X es t → PE X e (tCB r t)) (c : CallD A r f) (ha : GL X A W es gs) : GE X A W e (dcb f gs) := by
  refine ⟨pe_imp (hP _ ha.p) fun σ H Q ⟨env, Qd, Ed, E, h, q, x⟩ => toL_step E h x fun vs ds H1 s E1 _ rl hd => ?_⟩
  exact c _ H1 vs ds Q Qd E1.mst (fun a z => E1.fresh z) rl hd fun v d H2 s2 r2 q2 => q v d H2 (s.trans s2) r2 q2
structure BLT (X : Cx) (A : Act) (f : Value) (g : List D → (D → Prop) → Prop) : Prop where
  ex : ∃ r, CallR X f r ∧ CallD A r g
theorem ge_blt {id : String} {f : List D → (D → Prop) → Prop} {x : Str} {p pos : Pos} {e : Expr} {es : List Expr} {gs : DL} (c : BLT X A (.builtin id) f) (hg : Gl X x) (hm : X.mg x = none) (hv : bootBuiltins x = some (.builtin id)) (ha : GL X A W (e :: es) gs)
    (hP : ∀ r t, Gl X x → X.mg x = none → bootBuiltins x = some (.builtin id) → CallR X (.builtin id) r → PA X (e :: es) t → PE X (.Call (.Name x p) (e :: es) [] pos) (tCB r t) := by exact fun r t hg hm hv c h => pe_callB c hg hm hv h) : GE X A W (.Call (.Name x p) (e :: es) [] pos) (dcb f gs) := by
  obtain ⟨r, cr, cd⟩ := c.ex
  exact ge_cb (fun t h => hP r t hg hm hv cr h) cd ha
theorem ge_bltT {T : String} {f : List D → (D → Prop) → Prop} {x : Str} {p pos : Pos} {e : Expr} {es : List Expr} {gs : DL} (c : BLT X A (.type T) f) (hg : Gl X x) (hm : X.mg x = none) (hv : bootBuiltins x = some (.type T)) (ha : GL X A W (e :: es) gs)
    (hP : ∀ r t, Gl X x → X.mg x = none → bootBuiltins x = some (.type T) → CallR X (.type T) r → PA X (e :: es) t → PE X (.Call (.Name x p) (e :: es) [] pos) (tCB r t) := by exact fun r t hg hm hv c h => pe_callTy c hg hm hv h) : GE X A W (.Call (.Name x p) (e :: es) [] pos) (dcb f gs) := by
  obtain ⟨r, cr, cd⟩ := c.ex
  exact ge_cb (fun t h => hP r t hg hm hv cr h) cd ha
def fLen (ds : List D) (Q : D → Prop) : Prop := match ds with
  | [.str x] => x.length ≤ LINE ∧ Q (.int x.length)
  | [.lst xs] => Q (.int xs.length)
  | [.tup xs] => Q (.int xs.length)
  | _ => False
theorem b_len (hK : A.R.K = X.K := by rfl) : BLT X A (.builtin "len") fLen := by
  refine ⟨_, call_len, ?_⟩
  intro M H xs ds Q Qd hst hf r h k
  match ds, r, h with
  | [.str x], .cons (.str _) .nil, h => exact ⟨.str x, x.length, rfl, ⟨by rw [line_is]; exact h.1, rfl⟩, k _ _ H (Stp.refl _ _) (.int _) h.2⟩
  | [.lst ds], .cons (.lst (a := a) (xs := vs) e n rl) .nil, h => exact ⟨.ref a, vs.length, rfl, .inl ⟨vs, SqL.of e, rfl⟩, by rw [rl.length]; exact k _ _ H (Stp.refl _ _) (.int _) h⟩
  | [.tup ds], .cons (.tup (a := a) (xs := vs) t rl) .nil, h => exact ⟨.ref a, vs.length, rfl, .inr ⟨vs, by rw [← hK]; exact t.sq, rfl⟩, by rw [rl.length]; exact k _ _ H (Stp.refl _ _) (.int _) h⟩
/-- len of a list of the def's own -/
def dlenO (i : Nat) : DE := fun env Q _ => match env[i]? with
  | some (.own ds) => Q (.int ds.length)
  | _ => False
theorem ge_lenO {i : Nat} {e : Expr} {p pos : Pos} (ho : PE X e (tVar i)) (hg : Gl X "len") (hm : X.mg "len" = none)
    (hP : ∀ r t, Gl X "len" → X.mg "len" = none → CallR X (.builtin "len") r → PA X [e] t → PE X (.Call (.Name "len" p) [e] [] pos) (tCB r t) := by exact fun r t hg hm c h => pe_callB c hg hm PySem.boot_len h)
    (hA : PE X e (tVar i) → PA X [e] (tCons (tVar i) tNil) := by exact fun h => pa_cons h pa_nil) : GE X A W (.Call (.Name "len" p) [e] [] pos) (dlenO i) := by
  refine ⟨pe_imp (hP _ _ hg hm call_len (hA ho)) fun σ H Q ⟨env, Qd, Ed, E, h, q, x⟩ => ?_⟩
  obtain ⟨ds, e1, h⟩ := own_of h
  obtain ⟨a, vs, h1, h2, h3, h4, h5⟩ := E.own i ds e1
  exact ⟨.ref a, h1, .ref a, vs.length, rfl, .inl ⟨vs, SqL.of h2, rfl⟩, by rw [h3.length]; exact q _ _ H (Stp.refl _ _) (.int _) h⟩
def fInt (ds : List D) (Q : D → Prop) : Prop := match ds with
  | [.int i] => Q (.int i)
  | [.bl b] => Q (.int (if b then 1 else 0))
  | [.str x] => ∃ n, PySem.intText? x = some n ∧ x.length ≤ 640 ∧ Q (.int n)
  | _ => False
theorem b_int : BLT X A (.type "int") fInt := by
  refine ⟨_, call_int1.or call_int_str, ?_⟩
  intro M H xs ds Q Qd hst hf r h k
  match ds, r, h with
  | [.int i], .cons (.int _) .nil, h => exact .inl (.inl ⟨i, rfl, k _ _ H (Stp.refl _ _) (.int _) h⟩)
  | [.bl b], .cons (.bl _) .nil, h => exact .inl (.inr ⟨b, rfl, k _ _ H (Stp.refl _ _) (.int _) h⟩)
  | [.str x], .cons (.str _) .nil, ⟨n, h1, h2, h3⟩ => exact .inr ⟨x, n, rfl, h1, h2, k _ _ H (Stp.refl _ _) (.int _) h3⟩
def fStr (ds : List D) (Q : D → Prop) : Prop := match ds with
  | [.int i] => i.natAbs.log2 < 1920 ∧ Q (.str (toString i))
  | [.str x] => Q (.str x)
  | _ => False
theorem b_str : BLT X A (.type "str") fStr := by
  refine ⟨_, call_str_int.or SkE.call_str_str, ?_⟩
  intro M H xs ds Q Qd hst hf r h k
  match ds, r, h with
  | [.int i], .cons (.int _) .nil, h => exact .inl ⟨i, rfl, h.1, k _ _ H (Stp.refl _ _) (.str _) h.2⟩
  | [.str x], .cons (.str _) .nil, h => exact .inr ⟨x, rfl, k _ _ H (Stp.refl _ _) (.str _) h⟩
def fAbs (ds : List D) (Q : D → Prop) : Prop := match ds with
  | [.int i] => Q (.int (if i < 0 then -i else i))
  | _ => False
theorem b_abs : BLT X A (.builtin "abs") fAbs := by
  refine ⟨_, call_abs, ?_⟩
  intro M H xs ds Q Qd hst hf r h k
  match ds, r, h with
  | [.int i], .cons (.int _) .nil, h => exact ⟨i, rfl, k _ _ H (Stp.refl _ _) (.int _) h⟩
def fMax (ds : List D) (Q : D → Prop) : Prop := match ds with
  | [.int i, .int j] => Q (.int (if j > i then j else i))
  | _ => False
def fMin (ds : List D) (Q : D → Prop) : Prop := match ds with
  | [.int i, .int j] => Q (.int (if j < i then j else i))
  | _ => False
theorem b_max (hc : X.calm = true) : BLT X A (.builtin "max") fMax := by
  refine ⟨_, call_max2 hc, ?_⟩
  intro M H xs ds Q Qd hst hf r h k
  match ds, r, h with
  | [.int i, .int j], .cons (.int _) (.cons (.int _) .nil), h => exact ⟨i, j, rfl, k _ _ H (Stp.refl _ _) (.int _) h⟩
theorem b_min (hc : X.calm = true) : BLT X A (.builtin "min") fMin := by
  refine ⟨_, call_min2 hc, ?_⟩
  intro M H xs ds Q Qd hst hf r h k
  match ds, r, h with
  | [.int i, .int j], .cons (.int _) (.cons (.int _) .nil), h => exact ⟨i, j, rfl, k _ _ H (Stp.refl _ _) (.int _) h⟩
/-- all, any of a list of truths -/
def fAll (ds : List D) (Q : D → Prop) : Prop := match ds with
  | [.lst xs] => ∃ bs : List Bool, xs = bs.map D.bl ∧ Q (.bl (bs.all id))
  | _ => False
def fAny (ds : List D) (Q : D → Prop) : Prop := match ds with
  | [.lst xs] => ∃ bs : List Bool, xs = bs.map D.bl ∧ Q (.bl (bs.any id))
  | _ => False
theorem b_all (hc : X.calm = true) : BLT X A (.builtin "all") fAll := by
  refine ⟨_, cr_all hc, ?_⟩
  intro M H xs ds Q Qd hst hf r h k
  match ds, r, h with
  | [.lst ds], .cons (.lst (a := a) (xs := vs) e n rl) .nil, ⟨bs, h1, h2⟩ =>
    subst h1
    rw [rl.blsV] at e
    exact ⟨a, bs, rfl, SqL.of e, k _ _ H (Stp.refl _ _) (.bl _) h2⟩
theorem b_any (hc : X.calm = true) : BLT X A (.builtin "any") fAny := by
  refine ⟨_, cr_any hc, ?_⟩
  intro M H xs ds Q Qd hst hf r h k
  match ds, r, h with
  | [.lst ds], .cons (.lst (a := a) (xs := vs) e n rl) .nil, ⟨bs, h1, h2⟩ =>
    subst h1
    rw [rl.blsV] at e
    exact ⟨a, bs, rfl, SqL.of e, k _ _ H (Stp.refl _ _) (.bl _) h2⟩
/-- list(x), tuple(x) of a list, a tuple -/
def fList (ds : List D) (Q : D → Prop) : Prop := match ds with
  | [.lst xs] => Q (.lst xs)
  | [.tup xs] => Q (.lst xs)
  | [.str z] => z.length ≤ LINE ∧ Q (.lst (sgnD z))
  | _ => False
def rListS : List V → Hp → VK → Prop := fun xs H Q => ∃ z : Str, xs = [.str z] ∧ z.length ≤ sizeLine ∧ ∀ l, H l = none → Q (.ref l) (upd H l (.lst (z.cps.toList.map fun c => V.str ⟨#[c]⟩)))
theorem signs_vals {z : Str} {acc : Array Value} (h : ItemsOf (SignAt z) acc z.cps.size) : Vals (z.cps.toList.map fun c => V.str ⟨#[c]⟩) acc.toList := by
  obtain ⟨h1, h2⟩ := h
  have key : ∀ (l : List Nat) (us : List Value), l.length = us.length → (∀ (j : Nat) (u : Value), us[j]? = some u → ∃ c t, l[j]? = some c ∧ u = Value.str ⟨#[c]⟩ t) → Vals (l.map fun c => V.str ⟨#[c]⟩) us := by
    intro l
    induction l with
    | nil =>
      intro us hl _
      cases us with
      | nil => exact .nil
      | cons _ _ => cases hl
    | cons c l ih =>
      intro us hl hq
      cases us with
      | nil => cases hl
      | cons u us =>
        obtain ⟨c', t, e1, e2⟩ := hq 0 u rfl
        cases e1
        exact .cons ⟨t, e2⟩ (ih us (by simpa using hl) fun j w hw => hq (j + 1) w (by simpa using hw))
  refine key _ _ (by rw [Array.length_toList, Array.length_toList, h1]) fun j u hu => ?_
  obtain ⟨c, t, e1, e2⟩ := h2 j u (by rw [← Array.getElem?_toList]; exact hu)
  exact ⟨c, t, by rw [Array.getElem?_toList]; exact e1, e2⟩
theorem call_listS (hc : X.calm = true) : CallR X (.type "list") rListS := by
  intro pins s σ H xs us Q I r h
  obtain ⟨z, rfl, hz, q⟩ := h
  obtain ⟨u, rfl, t, rfl⟩ := vals1 r
  refine call_list_str (I.ok.hd hc) z t (fun h' tk acc c k e hi => ?_) hz
  have rv := signs_vals hi
  refine ⟨.ref _, _, I.laid (t' := tk) (o := .lst (z.cps.toList.map fun c => V.str ⟨#[c]⟩)) k (Nat.le_refl _) ⟨?_, acc.toList, c, rv, e⟩, rfl, q _ (I.hok.fresh (Nat.le_refl _))⟩
  rw [List.length_map, Array.length_toList]
  exact hz
theorem rep_signs {R : RC} {M : Addr → Prop} {H : Hp} (l : List Nat) : RepL R M H (l.map fun c => V.str ⟨#[c]⟩) (l.map fun c => D.str ⟨#[c]⟩) := by
  induction l with
  | nil => exact .nil
  | cons c l ih => exact .cons (.str _) ih
theorem b_list (hc : X.calm = true) (hK : A.R.K = X.K := by rfl) : BLT X A (.type "list") fList := by
  refine ⟨_, call_list_of.or (call_listS hc), ?_⟩
  intro M H xs ds Q Qd hst hf r h k
  match ds, r, h with
  | [.lst ds], .cons (.lst (a := a) (xs := vs) e n rl) .nil, h =>
    refine .inl ⟨a, vs, rfl, .inl (SqL.of e), fun p hp => ?_⟩
    have s : Stp A.R H (upd H p (.lst vs)) := Stp.new hp
    exact k _ _ _ s (.lst upd_same (hf p hp) (rl.keep (s.keep hst))) h
  | [.tup ds], .cons (.tup (a := a) (xs := vs) t rl) .nil, h =>
    refine .inl ⟨a, vs, rfl, .inr (by rw [← hK]; exact t.sq), fun p hp => ?_⟩
    have s : Stp A.R H (upd H p (.lst vs)) := Stp.new hp
    exact k _ _ _ s (.lst upd_same (hf p hp) (rl.keep (s.keep hst))) h
  | [.str z], .cons (.str _) .nil, h =>
    refine .inr ⟨z, rfl, by rw [line_is]; exact h.1, fun p hp => ?_⟩
    have s : Stp A.R H (upd H p (.lst (z.cps.toList.map fun c => V.str ⟨#[c]⟩))) := Stp.new hp
    exact k _ _ _ s (.lst upd_same (hf p hp) (rep_signs _)) h.2
def fTuple (ds : List D) (Q : D → Prop) : Prop := match ds with
  | [.lst xs] => Q (.tup xs)
  | [.tup xs] => Q (.tup xs)
  | _ => False
theorem b_tuple (hK : A.R.K = X.K := by rfl) : BLT X A (.type "tuple") fTuple := by
  refine ⟨_, call_tuple_of, ?_⟩
  intro M H xs ds Q Qd hst hf r h k
  match ds, r, h with
  | [.lst ds], .cons (.lst (a := a) (xs := vs) e n rl) .nil, h =>
    refine ⟨a, vs, rfl, .inl ⟨SqL.of e, fun p hp => ?_⟩⟩
    have s : Stp A.R H (upd H p (.tup vs)) := Stp.new hp
    exact k _ _ _ s (.tup (TAt.new (hf p hp)) (rl.keep (s.keep hst))) h
  | [.tup ds], .cons (.tup (a := a) (xs := vs) t rl) .nil, h =>
    exact ⟨a, vs, rfl, .inr ⟨by rw [← hK]; exact t.sq, k _ _ H (Stp.refl _ _) (.tup t rl) h⟩⟩
/-! ### isinstance with a built-in type -/
def D.tyn : D → Option String
  | .non => some "NoneType" | .bl _ => some "bool" | .int _ => some "int" | .str _ => some "str" | .tup _ => some "tuple" | .lst _ => some "list" | .dct => some "dict"
  | _ => none
theorem tyx_of {R : RC} {M : Addr → Prop} {H : Hp} {v : V} {d : D} {t : String} (r : Rep R M H v d) (h : d.tyn = some t) : TyX R.K H v (.type t) := by
  cases r <;> first | (cases h; done) | skip
  · cases h; exact .base .non
  · cases h; exact .base (.bl _)
  · cases h; exact .base (.int _)
  · cases h; exact .base (.str _)
  · cases h
    rename_i a xs ds ta rl
    rcases ta with ⟨h, _⟩ | h | ⟨o, its, n, h1, h2, h3⟩
    · rcases h with h | ⟨o, h⟩
      · exact .base (.tup h)
      · exact .fTuple h
    · rcases h with h | ⟨_, h⟩ <;> cases h
    · exact .kTuple h1 h2
  · cases h
    exact .base (.lst (by assumption))
  · cases h
    exact .base (.dK (by assumption))
def fIsi (ds : List D) (Q : D → Prop) : Prop := match ds with
  | [x, .ty T] => ∃ t b, x.tyn = some t ∧ kitB t T = some b ∧ Q (.bl b)
  | _ => False
theorem b_isi (hK : A.R.K = X.K := by rfl) : BLT X A (.builtin "isinstance") fIsi := by
  refine ⟨_, call_isi, ?_⟩
  intro M H xs ds Q Qd hst hf r h k
  match ds, r, h with
  | [x, .ty T], .cons rx (.cons (.ty _) .nil), ⟨t, b, h1, h2, h3⟩ =>
    exact ⟨_, .ty T, _, _, b, rfl, .ty T, by rw [← hK]; exact tyx_of rx h1, kit_ty h2, k _ _ H (Stp.refl _ _) (.bl _) h3⟩
def fGcd (ds : List D) (Q : D → Prop) : Prop := match ds with
  | [.int i, .int j] => Q (.int ((Nat.gcd i.natAbs j.natAbs : Nat) : Int))
  | _ => False
theorem b_gcd : BLT X A (.builtin "math.gcd") fGcd := by
  refine ⟨_, cr_gcd, ?_⟩
  intro M H xs ds Q Qd hst hf r h k
  match ds, r, h with
  | [.int i, .int j], .cons (.int _) (.cons (.int _) .nil), h => exact ⟨i, j, rfl, k _ _ H (Stp.refl _ _) (.int _) h⟩
/-! ### methods of texts with one argument -/
def MtD (A : Act) (r : V → List V → Hp → VK → Prop) (f : D → D → (D → Prop) → Prop) : Prop := ∀ (M : Addr → Prop) (H : Hp) (x y : V) (d e : D) (Q : VK) (Qd : D → Prop), (∀ a, A.R.st = some a → M a) → (∀ a, H a = none → ¬ M a) → Rep A.R M H x d → Rep A.R M H y e → f d e Qd →
  (∀ v d' H', Stp A.R H H' → Rep A.R M H' v d' → Qd d' → Q v H') → r x [y] H Q
def dm1 (f : D → D → (D → Prop) → Prop) (g u : DE) : DE := fun env Q Ed => g env (fun x => match x with
  | .str z => u env (fun y => f (.str z) y Q) Ed
  | _ => False) Ed
theorem ge_m1 {r : V → List V → Hp → VK → Prop} {f : D → D → (D → Prop) → Prop} {o e w : Expr} {g u : DE} (hP : ∀ to te, PE X o to → PE X e te → PE X w (tM1 r to te)) (c : MtD A r f) (ho : GE X A W o g) (he : GE X A W e u) : GE X A W w (dm1 f g u) := by
  refine ⟨pe_imp (hP _ _ ho.p he.p) fun σ H Q ⟨env, Qd, Ed, E, h, q, x⟩ => toE_step E h x fun v d H1 s E1 x1 r1 hd => ?_⟩
  match d, r1, hd with
  | .str z, .str _, hd =>
    refine ⟨⟨z, rfl⟩, toE_step E1 hd x1 fun w e H2 s2 E2 _ r2 hd2 => ?_⟩
    exact c _ H2 _ w _ e Q Qd E2.mst (fun a n => E2.fresh n) (.str z) r2 hd2 fun u d' H3 s3 r3 q3 => q u d' H3 ((s.trans s2).trans s3) r3 q3
def fJoin (x y : D) (Q : D → Prop) : Prop := match x, y with
  | .str a, .lst ds => ∃ ys : List Str, ds = ys.map D.str ∧ (ys.map (·.length)).sum + ys.length * a.length ≤ LINE ∧ Q (.str (Txt.join a ys))
  | .str a, .tup ds => ∃ ys : List Str, ds = ys.map D.str ∧ (ys.map (·.length)).sum + ys.length * a.length ≤ LINE ∧ Q (.str (Txt.join a ys))
  | _, _ => False
theorem ge_join {o e : Expr} {apos pos : Pos} {g u : DE} (ho : GE X A W o g) (he : GE X A W e u) (hK : A.R.K = X.K := by rfl)
    (hP : ∀ to te, PE X o to → PE X e te → PE X (.Call (.Attribute o "join" apos) [e] [] pos) (tM1 (fun x xs H Q => ∃ a p, ∃ ys : List Str, x = .str a ∧ xs = [.ref p] ∧ (SqL X.K H p (ys.map V.str) ∨ SqT X.K H p (ys.map V.str)) ∧
      (ys.map (·.length)).sum + ys.length * a.length ≤ 16777216 ∧ Q (.str (Txt.join a ys)) H) to te) := by exact fun _ _ a b => pe_join a b) : GE X A W (.Call (.Attribute o "join" apos) [e] [] pos) (dm1 fJoin g u) := by
  refine ge_m1 hP ?_ ho he
  intro M H x y d e Q Qd hst hf rx ry h k
  match d, e, rx, ry, h with
  | .str a, .lst ds, .str _, .lst (a := p) (xs := vs) e1 n rl, ⟨ys, h1, h2, h3⟩ =>
    subst h1
    rw [rl.strsV] at e1
    exact ⟨a, p, ys, rfl, rfl, .inl (SqL.of e1), h2, k _ _ H (Stp.refl _ _) (.str _) h3⟩
  | .str a, .tup ds, .str _, .tup (a := p) (xs := vs) t rl, ⟨ys, h1, h2, h3⟩ =>
    subst h1
    refine ⟨a, p, ys, rfl, rfl, .inr ?_, h2, k _ _ H (Stp.refl _ _) (.str _) h3⟩
    rw [← rl.strsV, ← hK]
    exact t.sq
def fPart (x y : D) (Q : D → Prop) : Prop := match x, y with
  | .str a, .str b => (b.length == 0) = false ∧ a.length ≤ LINE ∧ Q (.tup [.str (Txt.partition a b).1, .str (Txt.partition a b).2.1, .str (Txt.partition a b).2.2])
  | _, _ => False
theorem ge_part {o e : Expr} {apos pos : Pos} {g u : DE} (ho : GE X A W o g) (he : GE X A W e u)
    (hP : ∀ to te, PE X o to → PE X e te → PE X (.Call (.Attribute o "partition" apos) [e] [] pos) (tM1 (fun x xs H Q => ∃ a b, x = .str a ∧ xs = [.str b] ∧ (b.length == 0) = false ∧ a.length ≤ sizeLine ∧
      ∀ p, H p = none → Q (.ref p) (upd H p (.tup [.str (Txt.partition a b).1, .str (Txt.partition a b).2.1, .str (Txt.partition a b).2.2]))) to te) := by exact fun _ _ a b => pe_partition a b) : GE X A W (.Call (.Attribute o "partition" apos) [e] [] pos) (dm1 fPart g u) := by
  refine ge_m1 hP ?_ ho he
  intro M H x y d e Q Qd hst hf rx ry h k
  match d, e, rx, ry, h with
  | .str a, .str b, .str _, .str _, h =>
    refine ⟨a, b, rfl, rfl, h.1, by rw [line_is]; exact h.2.1, fun p hp => ?_⟩
    have s : Stp A.R H (upd H p (.tup [.str (Txt.partition a b).1, .str (Txt.partition a b).2.1, .str (Txt.partition a b).2.2])) := Stp.new hp
    exact k _ _ _ s (.tup (TAt.new (hf p hp)) (.cons (.str _) (.cons (.str _) (.cons (.str _) .nil)))) h.2.2
def fSplit (x y : D) (Q : D → Prop) : Prop := match x, y with
  | .str a, .str b => (b.length == 0) = false ∧ a.length + 2 ≤ LINE ∧ Q (.lst ((Txt.split a b).map D.str))
  | _, _ => False
theorem ge_split {o e : Expr} {apos pos : Pos} {g u : DE} (ho : GE X A W o g) (he : GE X A W e u)
    (hP : ∀ to te, PE X o to → PE X e te → PE X (.Call (.Attribute o "split" apos) [e] [] pos) (tM1 (fun x xs H Q => ∃ a b, x = .str a ∧ xs = [.str b] ∧ (b.length == 0) = false ∧ a.length + 2 ≤ sizeLine ∧ rNewStrs (Txt.split a b) H Q) to te) := by exact fun _ _ a b => pe_split a b) : GE X A W (.Call (.Attribute o "split" apos) [e] [] pos) (dm1 fSplit g u) := by
  refine ge_m1 hP ?_ ho he
  intro M H x y d e Q Qd hst hf rx ry h k
  match d, e, rx, ry, h with
  | .str a, .str b, .str _, .str _, h =>
    refine ⟨a, b, rfl, rfl, h.1, by rw [line_is]; exact h.2.1, fun p hp => ?_⟩
    have s : Stp A.R H (upd H p (.lst ((Txt.split a b).map V.str))) := Stp.new hp
    exact k _ _ _ s (.lst upd_same (hf p hp) (RepL.strs _)) h.2.2
/-! ### [e for t in it if c] -/
/-- the slots of a block's own names forgotten -/
def wipeD (env : DEnv) : List Nat → DEnv
  | [] => env
  | v :: vs => (wipeD env vs).set v .un
theorem ERep.wipe {H : Hp} {σ : St} {env : DEnv} (E : ERep A H σ env) : ∀ vs : List Nat, ERep A H (L2.wipe σ vs) (wipeD env vs) ∧ Keep (MM A σ env) (MM A (L2.wipe σ vs) (wipeD env vs)) H H
  | [] => ⟨E, Keep.refl _ _⟩
  | v :: vs => by
    obtain ⟨E1, k1⟩ := ERep.wipe E vs
    obtain ⟨E2, k2⟩ := E1.forget (i := v)
    exact ⟨E2, k1.trans k2⟩
structure GTs (X : Cx) (A : Act) (W : WX) (ifs : List Expr) (g : DB) : Prop where
  p : PTs X ifs (toB A W g)
theorem pts_imp {e : List Expr} {t t' : TT} (h : PTs X e t) (i : ∀ σ H Q, t' σ H Q → t σ H Q) : PTs X e t' := ⟨fun pins s σ H Q I w => h.run pins s σ H Q I (i σ H Q w)⟩
def dyes : DB := fun _ Q _ => Q true
theorem gts_nil : GTs X A W [] dyes := ⟨pts_imp pts_nil fun σ H Q ⟨env, Qd, Ed, E, h, q, x⟩ => q true H (Stp.refl _ _) h⟩
theorem gts_one {c : Expr} {g : DB} (h : GT X A W c g) : GTs X A W [c] g := ⟨pts_one h.p⟩
end
end Nb
set_option maxRecDepth 100000
set_option maxHeartbeats 2000000
/-! Nb: blocks that make lists. -/
namespace Nb
open PySem PySem.Spec PyProof.Rows L2
def unown : SD → SD
  | .own _ => .un
  | x => x
/-- the slots in a block: its own names are forgotten, lists that may change too -/
def blkD (env : DEnv) (vs : List Nat) : DEnv := (wipeD env vs).map unown
theorem unown_own {x : SD} {ds : List D} (h : unown x = .own ds) : False := by
  cases x <;> cases h
theorem unown_val {x : SD} {d : D} (h : unown x = .val d) : x = .val d := by
  cases x <;> first | exact h | cases h
theorem blk_no {env : DEnv} {vs : List Nat} {i : Nat} {ds : List D} (h : (blkD env vs)[i]? = some (.own ds)) : False := by
  unfold blkD at h
  rw [List.getElem?_map] at h
  cases e : (wipeD env vs)[i]? with
  | none => rw [e] at h; cases h
  | some x =>
    rw [e] at h
    exact unown_own (Option.some.inj h)
theorem blk_val {env : DEnv} {vs : List Nat} {i : Nat} {d : D} (h : (blkD env vs)[i]? = some (.val d)) : (wipeD env vs)[i]? = some (.val d) := by
  unfold blkD at h
  rw [List.getElem?_map] at h
  cases e : (wipeD env vs)[i]? with
  | none => rw [e] at h; cases h
  | some x =>
    rw [e] at h
    rw [unown_val (Option.some.inj h)]
theorem wipeD_val {env : DEnv} {i : Nat} {d : D} : ∀ {vs : List Nat}, (wipeD env vs)[i]? = some (.val d) → env[i]? = some (.val d) ∧ i ∉ vs
  | [], h => ⟨h, by simp⟩
  | v :: vs, h => by
    unfold wipeD at h
    rw [get_set] at h
    by_cases c : v = i ∧ i < (wipeD env vs).length
    · rw [if_pos c] at h; cases h
    · rw [if_neg c] at h
      obtain ⟨h1, h2⟩ := wipeD_val h
      refine ⟨h1, fun z => ?_⟩
      rcases List.mem_cons.mp z with z | z
      · exact c ⟨z.symm, (List.getElem?_eq_some_iff.mp h).1⟩
      · exact h2 z
theorem wipeD_len {env : DEnv} : ∀ {vs : List Nat}, (wipeD env vs).length = env.length
  | [] => rfl
  | v :: vs => by
    unfold wipeD
    rw [List.length_set, wipeD_len]
theorem wipe_out {σ : St} {i : Nat} : ∀ {vs : List Nat}, i ∉ vs → (L2.wipe σ vs)[i]? = σ[i]?
  | [], _ => rfl
  | v :: vs, h => by
    unfold L2.wipe
    rw [List.getElem?_set_ne fun z => h (by rw [z]; exact List.mem_cons_self)]
    exact wipe_out fun z => h (List.mem_cons_of_mem _ z)
theorem wipe_in {σ : St} {i : Nat} : ∀ {vs : List Nat}, i ∈ vs → i < σ.length → (L2.wipe σ vs)[i]? = some none
  | v :: vs, h, hl => by
    unfold L2.wipe
    rw [get_set]
    by_cases c : v = i
    · rw [if_pos ⟨c, by rw [wipe_length]; exact hl⟩]
    · rw [if_neg fun z => c z.1]
      rcases List.mem_cons.mp h with z | z
      · exact absurd z.symm c
      · exact wipe_in z hl
theorem only_wipe {js vs : List Nat} {σ σ' : St} (o : Only js (L2.wipe σ vs) σ') (h : ∀ j ∈ js, j ∈ vs) : L2.wipe σ' vs = L2.wipe σ vs := by
  have hl : σ'.length = σ.length := o.1.trans (wipe_length σ vs)
  refine List.ext_getElem? fun i => ?_
  by_cases c : i ∈ vs
  · by_cases q : i < σ.length
    · rw [wipe_in c q, wipe_in c (by rw [hl]; exact q)]
    · rw [List.getElem?_eq_none (by rw [wipe_length, hl]; omega), List.getElem?_eq_none (by rw [wipe_length]; omega)]
  · rw [wipe_out c, o.2 i fun z => c (h i z)]
/-- the activation of a block: all that may change is out of its reach -/
abbrev Act.blk (A : Act) (H : Hp) (M : Addr → Prop) : Act := ⟨A.R, H, M, false⟩
section
variable {A : Act} {H H' H3 : Hp} {σ : St} {env : DEnv} {D0 : Addr}
abbrev MB (A : Act) (σ : St) (env : DEnv) (D0 : Addr) (a : Addr) : Prop := MM A σ env a ∨ a = D0
theorem ERep.block (E : ERep A H σ env) (hD : H D0 = none) (s : Stp A.R H H') (h0 : H' D0 ≠ none) (vs : List Nat) :
    ERep (A.blk H' (MB A σ env D0)) H' (L2.wipe σ vs) (blkD env vs) := by
  refine ⟨⟨s.s E.inv, fun a h => .inl (E.mst a h), fun a h => ?_⟩, by unfold blkD; rw [List.length_map, wipeD_len, wipe_length]; exact E.len, fun i d h => ?_, fun i ds h => (blk_no h).elim, fun i j ds es a h => (blk_no h).elim, Stp.refl _ _⟩
  · rcases h with h | h
    · exact (E.stp s).mtrk h
    · rw [h]; exact h0
  obtain ⟨h1, h2⟩ := wipeD_val (blk_val h)
  obtain ⟨v, h3, h4⟩ := E.val i d h1
  refine ⟨v, by rw [wipe_out h2]; exact h3, h4.keep ⟨fun a o e n => s.k a o e fun z => n (E.mst a z), fun a z => ?_⟩⟩
  rcases z with z | ⟨j, ds, z, _⟩
  · rcases z with z | z
    · exact .inl z
    · exact .inr (by rw [z]; exact hD)
  · exact (blk_no z).elim
end
section
variable {X : Cx} {A : Act} {W : WX}
abbrev W0 : WX := fun _ _ _ _ => False
theorem xout0 {A : Act} {σ : St} {env : DEnv} {H : Hp} : XOut A W0 σ env H fun _ => False := fun _ _ _ _ _ _ h => h
@[irreducible] def dlc (gi : DI) (t : DG) (c : DB) (ge : DE) (vs : List Nat) : DF := fun env Q Ed => gi env (fun ds => ∃ I : Nat → List D → Prop, I 0 [] ∧
  (∀ i d acc, ds[i]? = some d → I i acc → t d (blkD env vs) fun env2 => c env2 (fun b => if b = true then ge env2 (fun y => acc.length < LINE ∧ I (i + 1) (acc ++ [y])) (fun _ => False) else I (i + 1) acc) fun _ => False) ∧
  ∀ acc, I ds.length acc → Q acc) Ed
theorem lc_of {gi : DI} {t : DG} {c : DB} {ge : DE} {vs js : List Nat} {wi : TI} {g : TG} {tt : TT} {te : TE} (hj : ∀ j ∈ js, j ∈ vs) {σ : St} {H : Hp} {Q : VK}
    (hi : ∀ σ H Q, toI A W gi σ H Q → wi σ H Q)
    (hg : ∀ (B : Act), B.R = A.R → ∀ v σ H Q, toG B js t v σ H Q → g v σ H Q) (ht : ∀ (B : Act), B.R = A.R → ∀ σ H Q, toB B W0 c σ H Q → tt σ H Q) (he : ∀ (B : Act), B.R = A.R → ∀ σ H Q, toE B W0 ge σ H Q → te σ H Q)
    (h : toF A W (dlc gi t c ge vs) σ H Q) : tLc wi g tt te vs σ H Q := by
  obtain ⟨env, Qd, Ed, E, h, q, x⟩ := h
  unfold dlc at h
  refine hi σ H _ ⟨env, _, Ed, E, h, fun J ds H1 s1 wk hd D0 hD => ?_, x⟩
  obtain ⟨I, i0, it, ie⟩ := hd
  have E1 := E.stp s1
  have nst : A.R.st ≠ some D0 := fun z => by
    obtain ⟨ns, e, _⟩ := E1.inv D0 z
    rw [hD] at e; cases e
  have ups : ∀ {H2 : Hp} {ys : List V}, Stp A.R H1 H2 → Stp A.R H1 (upd H2 D0 (.lst ys)) := fun {H2 ys} s => ⟨fun a o e n => by rw [upd_ne (ne_of_none e hD)]; exact s.k a o e n, fun z a e => by
    obtain ⟨ns, e1, e2⟩ := s.s z a e
    exact ⟨ns, by rw [upd_ne fun z => nst (by rw [e, z])]; exact e1, e2⟩⟩
  refine ⟨fun i m H => m = ds.length - i ∧ i ≤ ds.length ∧ ∃ av ad, H D0 = some (.lst av) ∧ RepL A.R (MB A σ env D0) H av ad ∧ I i ad ∧ Stp A.R H1 H, ⟨ds.length, rfl, Nat.zero_le _, [], [], upd_same, .nil, i0, ups (Stp.refl _ _)⟩, ?_⟩
  rintro i m H2 ⟨rfl, hi2, av, ad, h2, ra, hI, s2⟩
  have kk : Keep (MM A σ env) (MB A σ env D0) H1 H2 := ⟨(E1.keep s2).k, fun a z => z.elim .inl fun z => .inr (by rw [z]; exact hD)⟩
  by_cases hlt : i < ds.length
  · have e : ds[i]? = some ds[i] := List.getElem?_eq_getElem hlt
    have E2 := E1.stp s2
    obtain ⟨g1, g2⟩ := wk.yld _ H2 kk (fun a z w => w.elim (fun w => E2.fresh z w) fun w => by rw [w, h2] at z; cases z) E2.inv i _ e
    refine .inr ⟨g1, fun H' => ∃ av ad, H' D0 = some (.lst av) ∧ RepL A.R (MB A σ env D0) H' av ad ∧ I (i + 1) ad ∧ Stp A.R H1 H', fun H' h => ⟨ds.length - (i + 1), by omega, rfl, hlt, h⟩, fun x H' y => ?_⟩
    obtain ⟨s3, rx⟩ := g2 x H' y
    have EB := (E1.block hD s2 (by rw [h2]; exact fun z => by cases z) vs).stp s3
    refine hg (A.blk H2 (MB A σ env D0)) rfl x _ H' _ ⟨blkD env vs, _, _, EB, rx.keep (keep_sub fun a z => z.elim id fun z => (let ⟨j, ds, z, _⟩ := z; blk_no z).elim), it i _ ad e hI, fun σ2 env2 E3 k3 o3 h3 => ⟨only_wipe o3 hj, ?_⟩⟩
    refine ht (A.blk H2 (MB A σ env D0)) rfl σ2 H' _ ⟨env2, _, _, E3, h3, fun b H4 s4 hb => ?_, xout0⟩
    have E4 := E3.stp s4
    cases b with
    | false =>
      simp only [Bool.false_eq_true, if_false] at hb ⊢
      have s5 : Stp A.R H2 H4 := s3.trans s4
      exact ⟨av, ad, s5.k D0 _ h2 nst, ra.keep (s5.keep fun a z => .inl (E1.mst a z)), hb, s2.trans s5⟩
    | true =>
      simp only [if_true] at hb ⊢
      refine he (A.blk H2 (MB A σ env D0)) rfl σ2 H4 _ ⟨env2, _, _, E4, hb, fun y d H5 s5 r hq => ?_, xout0⟩
      have s6 : Stp A.R H2 H5 := (s3.trans s4).trans s5
      have h6 := s6.k D0 _ h2 nst
      have r6 := ra.keep (s6.keep fun a z => .inl (E1.mst a z))
      refine ⟨av, h6, by rw [ra.length, line_is]; exact hq.1, av ++ [y], ad ++ [d], upd_same, ?_, hq.2, ups (s2.trans s6)⟩
      have r7 : Rep A.R (MB A σ env D0) H5 y d := r.keep (keep_sub fun a z => .inl z)
      exact (r6.append (.cons r7 .nil)).keep ⟨fun a o e n => by rw [upd_ne fun z => n (.inr z)]; exact e, fun a z => .inl z⟩
  · have e : i = ds.length := by omega
    subst e
    exact .inl ⟨wk.stop _ H2 kk, q D0 av ad H2 (Stp.none E.inv s1 hD) (s1.trans s2) h2 ra (ie ad hI)⟩
/-- [e for t in it if c] -/
theorem gf_lc {elt tg iter : Expr} {ifs : List Expr} {scope : Scope} {own : List (Str × Nat)} {pos : Pos} {gi : DI} {t : DG} {c : DB} {ge : DE} {js : List Nat} (hc : X.calm = true) (hN : X.N.Nodup) (hi : GI X A W tg iter gi) (ok : blkC X.N X.env.scope scope own = true)
    (hj : ∀ j ∈ js, j ∈ own.map (·.2))
    (hg : ∀ (B : Act), B.R = A.R → ∀ (s : Shared) (H : Hp) (C : Addr) (cl : List (Str × Addr)) (fp : List Addr), GG (X.blk s H scope (compEnvC scope cl C X.env) fp) B js tg t)
    (ht : ∀ (B : Act), B.R = A.R → ∀ (s : Shared) (H : Hp) (C : Addr) (cl : List (Str × Addr)) (fp : List Addr), GTs (X.blk s H scope (compEnvC scope cl C X.env) fp) B W0 ifs c)
    (he : ∀ (B : Act), B.R = A.R → ∀ (s : Shared) (H : Hp) (C : Addr) (cl : List (Str × Addr)) (fp : List Addr), GE (X.blk s H scope (compEnvC scope cl C X.env) fp) B W0 elt ge)
    (hs : ∀ x, foldedSetIterable iter X.env x = pure x := by intro _; rfl) : GF X A W (.ListComp elt [⟨tg, iter, ifs, 0⟩] scope pos) (dlc gi t c ge (own.map (·.2))) := by
  refine ⟨pe_imp (pe_lc (wi := toI A W gi) (g := fun v σ H Q => ∃ B : Act, B.R = A.R ∧ toG B js t v σ H Q) (tt := fun σ H Q => ∃ B : Act, B.R = A.R ∧ toB B W0 c σ H Q) (te := fun σ H Q => ∃ B : Act, B.R = A.R ∧ toE B W0 ge σ H Q) hc hN hi.p (blkOk_by ok) ?_ ?_ ?_ hs) fun σ H Q h => ?_⟩
  · exact fun s H C cl fp => ⟨fun pins s' σ H' v u Q I r ⟨B, e, w⟩ => (hg B e s H C cl fp).p.run pins s' σ H' v u Q I r w⟩
  · exact fun s H C cl fp => ⟨fun pins s' σ H' Q I ⟨B, e, w⟩ => (ht B e s H C cl fp).p.run pins s' σ H' Q I w⟩
  · exact fun s H C cl fp => ⟨fun pins s' σ H' Q I ⟨B, e, w⟩ => (he B e s H C cl fp).p.run pins s' σ H' Q I w⟩
  · exact lc_of hj (fun _ _ _ h => h) (fun B e v σ H Q h => ⟨B, e, h⟩) (fun B e σ H Q h => ⟨B, e, h⟩) (fun B e σ H Q h => ⟨B, e, h⟩) h
/-- name = [..] on one line -/
theorem gs_asgLc {i : Nat} {y : Str} {py : Pos} {elt tg iter : Expr} {ifs : List Expr} {scope : Scope} {own : List (Str × Nat)} {pos spos : Pos} {gi : DI} {t : DG} {c : DB} {ge : DE} {js : List Nat} (hc : X.calm = true) (hN : X.N.Nodup) (hy : X.N[i]? = some y) (hyl : X.env.scope.names.lookup y = some .local)
    (hsw : swapsWith (.ListComp elt [⟨tg, iter, ifs, 0⟩] scope pos) (some (.Name y py)) spos.line X.env = pure true) (hi : GI X A W tg iter gi) (ok : blkC X.N X.env.scope scope own = true)
    (hj : ∀ j ∈ js, j ∈ own.map (·.2))
    (hg : ∀ (B : Act), B.R = A.R → ∀ (s : Shared) (H : Hp) (C : Addr) (cl : List (Str × Addr)) (fp : List Addr), GG (X.blk s H scope (compEnvC scope cl C X.env) fp) B js tg t)
    (ht : ∀ (B : Act), B.R = A.R → ∀ (s : Shared) (H : Hp) (C : Addr) (cl : List (Str × Addr)) (fp : List Addr), GTs (X.blk s H scope (compEnvC scope cl C X.env) fp) B W0 ifs c)
    (he : ∀ (B : Act), B.R = A.R → ∀ (s : Shared) (H : Hp) (C : Addr) (cl : List (Str × Addr)) (fp : List Addr), GE (X.blk s H scope (compEnvC scope cl C X.env) fp) B W0 elt ge)
    (hs : ∀ x, foldedSetIterable iter X.env x = pure x := by intro _; rfl) : GS X A W (.Assign [.Name y py] (.ListComp elt [⟨tg, iter, ifs, 0⟩] scope pos) spos) (dasgO i (dlc gi t c ge (own.map (·.2)))) := by
  refine ⟨ps_imp (ps_setLc (wi := toI A W gi) (g := fun v σ H Q => ∃ B : Act, B.R = A.R ∧ toG B js t v σ H Q) (tt := fun σ H Q => ∃ B : Act, B.R = A.R ∧ toB B W0 c σ H Q) (te := fun σ H Q => ∃ B : Act, B.R = A.R ∧ toE B W0 ge σ H Q) hc hN hy hyl hsw hi.p (blkOk_by ok) ?_ ?_ ?_ hs) fun De σ H ⟨env, K, E, h, q1, q2, q3, q4, q5⟩ => ?_⟩
  · exact fun s H C cl fp => ⟨fun pins s' σ H' v u Q I r ⟨B, e, w⟩ => (hg B e s H C cl fp).p.run pins s' σ H' v u Q I r w⟩
  · exact fun s H C cl fp => ⟨fun pins s' σ H' Q I ⟨B, e, w⟩ => (ht B e s H C cl fp).p.run pins s' σ H' Q I w⟩
  · exact fun s H C cl fp => ⟨fun pins s' σ H' Q I ⟨B, e, w⟩ => (he B e s H C cl fp).p.run pins s' σ H' Q I w⟩
  · refine lc_of hj (fun _ _ _ h => h) (fun B e v σ H Q h => ⟨B, e, h⟩) (fun B e σ H Q h => ⟨B, e, h⟩) (fun B e σ H Q h => ⟨B, e, h⟩) ⟨env, _, _, E, h, fun p vs ds H' hp s e r hq => ?_, xout_of E q5⟩
    obtain ⟨E2, k2⟩ := E.setOwn (i := i) hp s e r
    exact q1 _ H' _ k2 E2 hq
end
end Nb
set_option maxRecDepth 100000
set_option maxHeartbeats 2000000
/-! Nb: promises, calls. -/
namespace Nb
open PySem PySem.Spec PyProof.Rows L2
/-- what a def says of data: its arguments, what it may hand back, what it may raise -/
abbrev DSp := List D → (D → Prop) → (Ex → Prop) → Prop
def OutRep (R : RC) (M : Addr → Prop) (H H' : Hp) (fr : Bool) (v : V) (d : D) : Prop :=
  if fr = true then ∃ p vs ds, v = .ref p ∧ d = .lst ds ∧ H p = none ∧ H' p = some (.lst vs) ∧ RepL R (fun a => M a ∨ a = p) H' vs ds else Rep R M H' v d
def spD (K : PySem.W.Frag) (mg : Str → Option Value) (fr : Bool) (S : DSp) : Sp := fun vs H Q E => ∃ (R : RC) (M : Addr → Prop) (ds : List D) (Qd : D → Prop) (Ed : Ex → Prop),
  (R.K = K ∧ R.mg = mg ∧ R.hx = none) ∧ HInv R H ∧ (∀ a, R.st = some a → M a) ∧ (∀ a, M a → H a ≠ none) ∧ RepL R M H vs ds ∧ S ds Qd Ed ∧
  (∀ v d H', Stp R H H' → OutRep R M H H' fr v d → Qd d → Q v H') ∧ ∀ x cls dd H', Stp R H H' → XRep R M H' cls dd x → Ed x → E cls dd H'
def startD (N : List Str) (ds : List D) : DEnv := ds.map SD.val ++ List.replicate (N.length - ds.length) .un
theorem erep_start {A : Act} (ok : A.Ok) {N : List Str} {vs : List V} {ds : List D} (r : RepL A.R A.M0 A.H0 vs ds) : ERep A A.H0 (L2.start N vs) (startD N ds) := by
  have hl := r.length
  have no : ∀ {i : Nat} {es : List D}, (startD N ds)[i]? = some (.own es) → False := fun {i es} h => by
    unfold startD at h
    rw [List.getElem?_append] at h
    split at h
    · rw [List.getElem?_map] at h
      cases e : ds[i]? with
      | none => rw [e] at h; cases h
      | some d => rw [e] at h; cases h
    · rw [List.getElem?_replicate] at h
      split at h <;> cases h
  refine ⟨ok, by unfold L2.start startD; simp [hl], fun i d h => ?_, fun i es h => (no h).elim, fun i j es fs a h => (no h).elim, Stp.refl _ _⟩
  unfold startD at h
  rw [List.getElem?_append] at h
  split at h
  · rename_i hi
    rw [List.length_map] at hi
    rw [List.getElem?_map] at h
    cases e : ds[i]? with
    | none => rw [e] at h; cases h
    | some d' =>
      rw [e] at h
      cases h
      obtain ⟨v, h1, h2⟩ := r.get e
      refine ⟨v, ?_, h2.keep (keep_sub fun a z => ?_)⟩
      · unfold L2.start
        rw [List.getElem?_append_left (by rw [List.length_map, hl]; exact hi), List.getElem?_map, h1]
        rfl
      · rcases z with z | ⟨j, es, z, _⟩
        · exact z
        · exact (no z).elim
  · rw [List.getElem?_replicate] at h
    split at h <;> cases h
section
variable {X : Cx} {A : Act} {W : WX}
def dcall (S : DSp) (gs : DL) : DE := fun env Q Ed => gs env (fun ds => S ds Q Ed) Ed
def dcallF (S : DSp) (gs : DL) : DF := fun env Q Ed => gs env (fun ds => S ds (fun d => match d with
  | .lst es => Q es
  | _ => False) Ed) Ed
/-- what a call wants of its place -/
structure CallOk (X : Cx) (W : WX) (x : Str) (fr : Bool) (S : DSp) : Prop where
  ex : ∃ k f fd ps, FnOk X.prog X.w X.K X.mg X.base (L2.CX X.prog X.w) k f fd ps (spD X.K X.mg fr S) ∧ Room k X.A ∧ Gl X x ∧ X.mg x = some (.ref f) ∧ PySem.W.keepIn X.K (.ref f) = true ∧ Binds X.K fd ps [] ∧ (∀ σ, PassesAt (L2.CX X.prog X.w) X σ (WE W σ)) ∧ (x == ("__debug__" : Str)) = false
theorem spD_of {fr : Bool} {S : DSp} {σ : St} {H1 : Hp} {env : DEnv} {vs : List V} {ds : List D} {Q : VK} {Qd : D → Prop} {Ed : Ex → Prop} {K : PySem.W.Frag} {mg : Str → Option Value} (hK : A.R.K = K) (hm : A.R.mg = mg) (h0 : A.R.hx = none) (E1 : ERep A H1 σ env) (r : RepL A.R (MM A σ env) H1 vs ds) (hS : S ds Qd Ed)
    (q : ∀ v d H', Stp A.R H1 H' → OutRep A.R (MM A σ env) H1 H' fr v d → Qd d → Q v H') (x : XOut A W σ env H1 Ed) : spD K mg fr S vs H1 Q (WE W σ) :=
  ⟨A.R, MM A σ env, ds, Qd, Ed, ⟨hK, hm, h0⟩, E1.inv, E1.mst, fun a z => E1.mtrk z, r, hS, q, fun e cls dd H' s2 r2 hq => x e cls dd H' s2 r2 hq⟩
theorem ge_call {x : Str} {S : DSp} {e : Expr} {es : List Expr} {gs : DL} {p pos : Pos} (c : CallOk X W x false S) (ha : GL X A W (e :: es) gs) (h0 : A.R.hx = none) (hK : A.R.K = X.K := by rfl) (hm : A.R.mg = X.mg := by rfl)
    (he : starEach (e :: es) X.env = (false, eval e X.env) :: starEach es X.env := by rfl) (hpl : (backTo pos (starEach es X.env)).any (·.1) = false := by rfl) : GE X A W (.Call (.Name x p) (e :: es) [] pos) (dcall S gs) := by
  obtain ⟨k, f, fd, ps, F, hr, hg, hmx, hk, hb, hx, hd⟩ := c.ex
  refine ⟨pe_imp (pe_callS F hr hg hmx hk hb hx ha.p hd he hpl) fun σ H Q ⟨env, Qd, Ed, E, h, q, x⟩ => ?_⟩
  refine ⟨env, _, Ed, E, h, fun vs ds H1 s r hS => spD_of hK hm h0 (E.stp s) r hS (fun v d H' s2 r2 hq => ?_) (x.stp s), x⟩
  unfold OutRep at r2
  rw [if_neg Bool.false_ne_true] at r2
  exact q v d H' (s.trans s2) r2 hq
theorem gf_call {x : Str} {S : DSp} {e : Expr} {es : List Expr} {gs : DL} {p pos : Pos} (c : CallOk X W x true S) (ha : GL X A W (e :: es) gs) (h0 : A.R.hx = none) (hK : A.R.K = X.K := by rfl) (hm : A.R.mg = X.mg := by rfl)
    (he : starEach (e :: es) X.env = (false, eval e X.env) :: starEach es X.env := by rfl) (hpl : (backTo pos (starEach es X.env)).any (·.1) = false := by rfl) : GF X A W (.Call (.Name x p) (e :: es) [] pos) (dcallF S gs) := by
  obtain ⟨k, f, fd, ps, F, hr, hg, hmx, hk, hb, hx, hd⟩ := c.ex
  refine ⟨pe_imp (pe_callS F hr hg hmx hk hb hx ha.p hd he hpl) fun σ H Q ⟨env, Qd, Ed, E, h, q, x⟩ => ?_⟩
  refine ⟨env, _, Ed, E, h, fun vs ds H1 s r hS => spD_of hK hm h0 (E.stp s) r hS (fun v d H' s2 r2 hq => ?_) (x.stp s), x⟩
  unfold OutRep at r2
  rw [if_pos rfl] at r2
  obtain ⟨p, us, es', rfl, rfl, hp, h1, r3⟩ := r2
  exact q p us es' H' (Stp.none E.inv s hp) (s.trans s2) h1 r3 hq
end
/-- what is wanted at the ends of a def -/
def endD (fr : Bool) (Qd : D → Prop) (Ed : Ex → Prop) : KEnd := { nx := fun _ => fr = false ∧ Qd .non, rt := fun d _ => Qd d, ex := fun x _ => Ed x }
section
variable {P : Program} {w : World} {K : PySem.W.Frag} {mg : Str → Option Value} {base : Heap}
/-- a def holds its promise: its body as a term of rules, and the reading of that term over data -/
theorem fn_ok {x qual : Str} {st : Stmt} {f : Addr} {fd : FuncData} {N ps : List Str} {k : Nat} {fr : Bool} {S : DSp} (F : Fun K x qual st f fd) (sc : FnScope N ps (defScope st)) (len : ∀ ds Qd Ed, S ds Qd Ed → ds.length = ps.length)
    (hb : ∀ (cdv : Value) (Ar : Around) (outer : List Env) (s : Shared) (H : Hp) (E : XK) (R : RC) (M : Addr → Prop) (ds : List D) (Qd : D → Prop) (Ed : Ex → Prop), Room k (Ar.deeper (envOfC qual (defScope st) s.heap.objs.size f cdv)) → R.K = K → R.mg = mg → R.hx = none → S ds Qd Ed →
      ∃ g, GSs (cxOf (L2.CX P w) P w K mg base N qual (defScope st) f cdv Ar outer s H E) ⟨R, H, M, fr⟩ (fun cls d _ H => E cls d H) (defBody st) g ∧ g (endD fr Qd Ed) (startD N ds)) :
    FnOk P w K mg base (L2.CX P w) (k + 1) f fd ps (spD K mg fr S) := by
  refine F.okX sc (fun vs H Q E ⟨R, M, ds, Qd, Ed, _, _, _, _, r, h, _⟩ => r.length.trans (len _ _ _ h)) fun cdv Ar outer s H vs Q E hr ⟨R, M, ds, Qd, Ed, ⟨hK, hm, hx⟩, hi, hM1, hM2, r, h, q, x⟩ => ?_
  obtain ⟨g, G, hg⟩ := hb cdv Ar outer s H E R M ds Qd Ed hr hK hm hx h
  refine ⟨_, G.p, ?_⟩
  have ok : Act.Ok ⟨R, H, M, fr⟩ := ⟨hi, hM1, hM2⟩
  have E0 : ERep ⟨R, H, M, fr⟩ H (L2.start N vs) (startD N ds) := erep_start (A := ⟨R, H, M, fr⟩) ok r
  have sub : ∀ {σ' : St} {env' : DEnv}, ∀ a, M a → MM ⟨R, H, M, fr⟩ σ' env' a := fun a z => .inl z
  refine ⟨startD N ds, endD fr Qd Ed, E0, hg, fun σ' H' env' _ E' hq => ?_, fun _ _ _ _ _ hq => hq.elim, fun _ _ _ _ _ hq => hq.elim, fun v d σ' H' env' E' rr hq => ?_, fun e cls dd σ' H' env' _ E' rx hq => ?_⟩
  · refine q .non .non H' E'.base ?_ hq.2
    unfold OutRep
    rw [hq.1, if_neg Bool.false_ne_true]
    exact .non
  · exact q v d H' E'.base rr hq
  · refine x e cls dd H' E'.base ?_ hq
    obtain ⟨C, h1, h2, h3⟩ := rx
    refine ⟨C, h1, h2, h3.imp id fun ⟨d, fv, a1, a2, a3, a4⟩ => ⟨d, fv, a1, a2, fun z => a3 (.inl z), a4.keep (keep_sub fun a z => .inl z)⟩⟩
/-- the law itself: called with data, it answers; nothing is raised -/
def spL (K : PySem.W.Frag) (mg : Str → Option Value) (S : List D → (D → Prop) → Prop) : Sp := fun vs H Q _ => ∃ ds Qd, RepL ⟨K, mg, none, none⟩ (fun _ => False) H vs ds ∧ S ds Qd ∧ ∀ v d H', Rep ⟨K, mg, none, none⟩ (fun _ => False) H' v d → Qd d → Q v H'
theorem fnl_ok {x qual : Str} {st : Stmt} {f : Addr} {fd : FuncData} {N ps : List Str} {k : Nat} {S : List D → (D → Prop) → Prop} (F : Fun K x qual st f fd) (sc : FnScope N ps (defScope st)) (len : ∀ ds Qd, S ds Qd → ds.length = ps.length)
    (hb : ∀ (cdv : Value) (Ar : Around) (outer : List Env) (s : Shared) (H : Hp) (E : XK) (ds : List D) (Qd : D → Prop), Room k (Ar.deeper (envOfC qual (defScope st) s.heap.objs.size f cdv)) → S ds Qd →
      ∃ g, GSs (cxOf (L2.CX P w) P w K mg base N qual (defScope st) f cdv Ar outer s H E) ⟨⟨K, mg, none, none⟩, H, fun _ => False, false⟩ (fun cls d _ H => E cls d H) (defBody st) g ∧ g (endD false Qd fun _ => False) (startD N ds)) :
    FnOk P w K mg base (L2.CX P w) (k + 1) f fd ps (spL K mg S) := by
  refine F.okX sc (fun vs H Q E ⟨ds, Qd, r, h, _⟩ => r.length.trans (len _ _ h)) fun cdv Ar outer s H vs Q E hr ⟨ds, Qd, r, h, q⟩ => ?_
  obtain ⟨g, G, hg⟩ := hb cdv Ar outer s H E ds Qd hr h
  refine ⟨_, G.p, ?_⟩
  have ok : Act.Ok ⟨⟨K, mg, none, none⟩, H, fun _ => False, false⟩ := ⟨fun _ z => (by cases z), fun _ z => (by cases z), fun _ z => z.elim⟩
  refine ⟨startD N ds, _, erep_start (A := ⟨⟨K, mg, none, none⟩, H, fun _ => False, false⟩) ok r, hg, fun σ' H' env' _ E' hq => q .non .non H' .non hq.2, fun _ _ _ _ _ hq => hq.elim, fun _ _ _ _ _ hq => hq.elim, fun v d σ' H' env' E' rr hq => ?_, fun _ _ _ _ _ _ _ _ _ z => z.elim⟩
  unfold RetRep at rr
  rw [if_neg Bool.false_ne_true] at rr
  exact q v d H' rr hq
end
end Nb
set_option maxRecDepth 100000
set_option maxHeartbeats 2000000
/-! Nb: defs by name. -/
namespace Nb
open PySem PySem.Spec PyProof.Rows L2
/-- the def that stands under the name x, and what it promises, with room for k calls -/
structure Has (P : Program) (w : World) (K : PySem.W.Frag) (mg : Str → Option Value) (base : Heap) (x : Str) (k : Nat) (fr : Bool) (S : DSp) : Prop where
  ex : ∃ f fd ps, FnOk P w K mg base (L2.CX P w) k f fd ps (spD K mg fr S) ∧ mg x = some (.ref f) ∧ PySem.W.keepIn K (.ref f) = true ∧ Binds K fd ps []
theorem Has.mono {P : Program} {w : World} {K : PySem.W.Frag} {mg : Str → Option Value} {base : Heap} {x : Str} {j k : Nat} {fr : Bool} {S : DSp} (h : Has P w K mg base x j fr S) (hk : j ≤ k) : Has P w K mg base x k fr S := by
  obtain ⟨f, fd, ps, F, a, b, c⟩ := h.ex
  exact ⟨f, fd, ps, F.mono hk, a, b, c⟩
/-- a weaker promise -/
theorem Has.imp {P : Program} {w : World} {K : PySem.W.Frag} {mg : Str → Option Value} {base : Heap} {x : Str} {k : Nat} {fr : Bool} {S S' : DSp} (h : Has P w K mg base x k fr S) (i : ∀ ds Q E, S' ds Q E → S ds Q E) : Has P w K mg base x k fr S' := by
  obtain ⟨f, fd, ps, F, a, b, c⟩ := h.ex
  exact ⟨f, fd, ps, F.imp fun vs H Q E ⟨R, M, ds, Qd, Ed, h1, h2, h3, h4, h5, h6, h7⟩ => ⟨R, M, ds, Qd, Ed, h1, h2, h3, h4, h5, i _ _ _ h6, h7⟩, a, b, c⟩
theorem Has.call {X : Cx} {W : WX} {x : Str} {k : Nat} {fr : Bool} {S : DSp} (h : Has X.prog X.w X.K X.mg X.base x k fr S) (hr : Room k X.A) (tk : Takes X W) (hg : Gl X x := by rfl) (hd : (x == ("__debug__" : Str)) = false := by decide) : CallOk X W x fr S := by
  obtain ⟨f, fd, ps, F, a, b, c⟩ := h.ex
  exact ⟨k, f, fd, ps, F, hr, hg, a, b, c, fun σ => passAt tk σ, hd⟩
/-- a def of the text becomes one that has its promise -/
theorem Fun.has {P : Program} {w : World} {K : PySem.W.Frag} {mg : Str → Option Value} {base : Heap} {x qual : Str} {st : Stmt} {f : Addr} {fd : FuncData} {ps : List Str} {k : Nat} {fr : Bool} {S : DSp} (F : Fun K x qual st f fd) (hm : mg x = some (.ref f)) (hb : Binds K fd ps [])
    (o : FnOk P w K mg base (L2.CX P w) k f fd ps (spD K mg fr S)) : Has P w K mg base x k fr S := ⟨f, fd, ps, o, hm, F.kp, hb⟩
/-- a module's constant -/
theorem ge_glob {X : Cx} {A : Act} {W : WX} {x : Str} {v : V} {d : D} {u : Value} {pos : Pos} (hg : Gl X x) (hm : X.mg x = some u) (r : RelV v u) (rd : ∀ M H, Rep A.R M H v d) (hd : (x == ("__debug__" : Str)) = false := by decide) : GE X A W (.Name x pos) (dk d) := ge_const (pe_glob hg hm r hd) rd
end Nb
set_option maxRecDepth 100000
set_option maxHeartbeats 2000000
/-! Nb: more of values. -/
namespace Nb
open PySem PySem.Spec PyProof.Rows L2
theorem room_units {k : Nat} {A : Around} (r : Room k A) : A.units + 64 < cLine := by
  have := r.un
  omega
section
variable {X : Cx} {A : Act} {W : WX}
/-- a built-in class as a value -/
theorem ge_tyc {x : Str} {n : String} {pos : Pos} (hg : Gl X x) (hm : X.mg x = none) (hv : bootBuiltins x = some (.type n) := by decide +kernel) (hP : Gl X x → X.mg x = none → bootBuiltins x = some (.type n) → PE X (.Name x pos) (tC (.ty n)) := by exact fun hg hm hv => pe_bltn hg hm hv rfl) : GE X A W (.Name x pos) (dk (.ty n)) :=
  ge_const (hP hg hm hv) fun _ _ => .ty n
/-- text.index(text) -/
def fIndex (x y : D) (Q : D → Prop) : Prop := match x, y with
  | .str a, .str b => ∃ i rest, Builtin.Str.occurrences a b 0 a.length 1 = i :: rest ∧ Q (.int (i : Nat))
  | _, _ => False
end
end Nb
set_option maxRecDepth 100000
set_option maxHeartbeats 2000000
/-! Nb: sorted(text), text.index(text), text[::-1]. -/
namespace Nb
open PySem PySem.Spec PyProof.Rows L2
section
variable {prog : Program} {w : World} {A : Around} {E : Value → Shared → Prop} {s : Shared}
theorem collect_txt {Q : List Value → Shared → Prop} (hh : A.handled = none) (x : Str) (t : Tok) (hn : x.cps.size ≤ sizeLine)
    (hQ : ∀ (h' : Heap) (tk : Nat) (acc : Array Value), (∀ b o, s.heap.get? b = some o → h'.get? b = some o) → s.heap.objs.size < h'.objs.size → ItemsOf (SignAt x) acc x.cps.size → Q acc.toList { s with heap := h', toks := tk }) :
    wpAny (model prog w) A (collect (.str x t)) Q E s := by
  unfold collect
  refine wpAny_bind (wpAny_runValue (codeAny_builtin F.entry_proto_collect ?_))
  rw [Around.under_plainId F.plain_proto_collect _]
  show wpAny _ A.in1 (newList [] >>= fun l => again (.builtin "list.__iadd__" ⟨[l, .str x t], []⟩)) _ _ s
  refine wpAny_bind (wpAny_newObj_type ?_)
  refine wpAny_pure ⟨plainId_quiet F.plain_list_iadd _, codeAny_builtin F.entry_list_iadd ?_⟩
  rw [Around.under_plainId F.plain_list_iadd _]
  show wpAny _ A.in1 (Builtin.List.listExtendWith (.ref s.heap.objs.size) (.str x t) (.ref s.heap.objs.size)) _ _ _
  have hS : (s.heap.push { cls := .type "list", data := .seq ([] : List Value).toArray }).get? s.heap.objs.size = some { cls := .type "list", data := .seq #[] 0 } := Heap.get?_push_size _ rfl
  refine wpAny_mono (wpAny_extend_str (A := A) (R := fun rr s' => rr = .ok (.ret (.ref s.heap.objs.size)) ∧ ∃ (h' : Heap) (tk : Nat) (acc : Array Value) (c' : Nat), s' = { s with heap := h', toks := tk } ∧
      (∀ b o, s.heap.get? b = some o → h'.get? b = some o) ∧ h'.get? s.heap.objs.size = some { cls := .type "list", dict := none, data := .seq acc c', slots := #[] } ∧ ItemsOf (SignAt x) acc x.cps.size)
    (s := { s with heap := s.heap.push { cls := .type "list", data := .seq ([] : List Value).toArray } }) hh x t _ _ 0 hS
    (fun h' tk acc c' hk e hi => ⟨rfl, h', tk, acc, c', rfl, fun b o q => hk b o (Nat.ne_of_lt (Heap.lt_size q)) (Heap.get?_push_of_some _ q), e, hi⟩) hn) (fun fin s' h => ?_) (fun e s' h => ?_)
  · cases fin with
    | done f =>
      obtain ⟨e, h', tk, acc, c', rfl, hk, hS', hi⟩ := h
      cases e
      show wpAny _ A (load s.heap.objs.size >>= _) _ _ _
      exact wpAny_bind (wpAny_load hS' (wpAny_pure (hQ h' tk acc hk (Heap.lt_size hS') hi)))
    | again c' =>
      refine ⟨h.1, codeAny_mono h.2 fun rr s'' hr' => ?_⟩
      obtain ⟨rfl, h', tk, acc, c', rfl, hk, hS', hi⟩ := hr'
      show wpAny _ A (load s.heap.objs.size >>= _) _ _ _
      exact wpAny_bind (wpAny_load hS' (wpAny_pure (hQ h' tk acc hk (Heap.lt_size hS') hi)))
  · exact absurd h.1 (by simp)
theorem sorted_txt {Q : Value → Shared → Prop} (hh : A.handled = none) (x : Str) (t : Tok) (hn : x.cps.size ≤ sizeLine)
    (h : ∀ (h' : Heap) (tk : Nat) (p : Addr) (out : List Value) (ss : List Str) (e : Nat), (∀ b o, s.heap.get? b = some o → h'.get? b = some o) → s.heap.objs.size ≤ p → h'.get? p = some (seqObj "list" out.toArray e) →
      StrsAre out ss → ss.Perm (x.cps.toList.map fun c => (⟨#[c]⟩ : Str)) → sortedS ss = true → Q (.ref p) { s with heap := h', toks := tk }) :
    wpAny (model prog w) A (call (.builtin "sorted") [.str x t]) Q E s := by
  refine Calls.call_function_entry kind_sorted plain_sorted entry_sorted (args_sorted1 _) ?_
  unfold Builtin.«sorted»
  refine wpAny_bind (m := checkCount "sorted" 1 1 _) (wpAny_pure ?_)
  refine wpAny_bind (collect_txt ?_ x t hn fun h1 tk acc k1 hz1 hi => ?_)
  · exact hh
  have hV := signs_vals hi
  have hS : StrsAre acc.toList (x.cps.toList.map fun c => (⟨#[c]⟩ : Str)) := by
    have e : (x.cps.toList.map fun c => V.str ⟨#[c]⟩) = (x.cps.toList.map fun c => (⟨#[c]⟩ : Str)).map V.str := by rw [List.map_map]; rfl
    rw [e] at hV
    exact hV.strs
  have hL : acc.toList.length ≤ sizeLine := by rw [Array.length_toList, hi.1]; exact hn
  refine wpAny_bind (wpAny_newList ?_)
  have hoL : (h1.push (seqObj "list" acc.toList.toArray 0)).get? h1.objs.size = some (seqObj "list" acc.toList.toArray 0) := Heap.get?_push_size _ rfl
  show wpAny _ _ _ _ _ { s with heap := h1.push (seqObj "list" acc.toList.toArray 0), toks := tk }
  refine wpAny_bind (wpAny_holding (wpAny_call_entry slot_list_sort ⟨_, hoL, rfl⟩ entry_list_sort (list_sort_treeKAny strKind_oneLt hoL hS.keysOf (fun v₁ v₂ rest e => keyKind_strs (by rw [← e]; exact hS)) hL fun st' a1 a2 => ⟨_, rfl, ?_⟩) (args_list_sort _)))
  refine wpAny_pure ⟨_, rfl, ?_⟩
  obtain ⟨ss', b1, b2, b3⟩ := sorted_out_str hS a1 a2
  obtain ⟨e, he⟩ := sortedHeap_at (vs := acc.toList) (out := (arrOf st').map (·.2)) hoL
  have hz : s.heap.objs.size ≤ h1.objs.size := Nat.le_of_lt hz1
  refine h _ tk _ _ ss' e (fun b o q => ?_) hz (by rw [Array.toArray_toList]; exact he) b1 b2 b3
  have q1 := k1 b o q
  have lt := Heap.lt_size q1
  rw [sortedHeap_old (Nat.ne_of_lt lt) (by rw [size_push']; exact Nat.lt_succ_of_lt lt), Heap.get?_push_ne _ _ _ (Nat.ne_of_lt lt)]
  exact q1
end
section
variable {X : Cx} {A : Act} {W : WX}
def signsS (z : Str) : List Str := z.cps.toList.map fun c => (⟨#[c]⟩ : Str)
theorem sgnD_eq (z : Str) : sgnD z = (signsS z).map D.str := by
  unfold sgnD signsS
  rw [List.map_map]
  rfl
/-- sorted(text) -/
def rSortT : List V → Hp → VK → Prop := fun xs H Q => ∃ z : Str, xs = [.str z] ∧ z.length ≤ sizeLine ∧ ∀ (p : Addr) (ss : List Str), H p = none → ss.Perm (signsS z) → sortedS ss = true → Q (.ref p) (upd H p (.lst (ss.map V.str)))
theorem call_sortT (hc : X.calm = true) : CallR X (.builtin "sorted") rSortT := by
  intro pins s σ H xs us Q I r h
  obtain ⟨z, rfl, hz, q⟩ := h
  obtain ⟨u, rfl, t, rfl⟩ := vals1 r
  refine sorted_txt (I.ok.hd hc) z t hz fun h' tk p out ss e k hp ho hS hP hs => ?_
  have hl : (ss.map V.str).length ≤ sizeLine := by
    rw [List.length_map, hP.length_eq, List.length_map, Array.length_toList]
    exact hz
  exact ⟨.ref p, _, I.laid (t' := tk) (o := .lst (ss.map V.str)) k hp ⟨hl, out, e, vals_of_strs hS, ho⟩, rfl, q p ss (I.hok.fresh hp) hP hs⟩
def fSortT (ds : List D) (Q : List D → Prop) : Prop := match ds with
  | [.str z] => z.length ≤ LINE ∧ ∀ ss : List Str, ss.Perm (signsS z) → sortedS ss = true → Q (ss.map D.str)
  | _ => False
def dcbF (f : List D → (List D → Prop) → Prop) (gs : DL) : DF := fun env Q Ed => gs env (fun ds => f ds Q) Ed
theorem gf_sorted {p pos : Pos} {e : Expr} {g : DE} (hc : X.calm = true) (hm : X.mg "sorted" = none) (he : GE X A W e g)
    (hP : ∀ r t, X.mg "sorted" = none → CallR X (.builtin "sorted") r → PA X [e] t → PE X (.Call (.Name "sorted" p) [e] [] pos) (tCB r t) := by exact fun r t hm c h => pe_callB c (by rfl) hm (by decide +kernel) h)
    (hA : GE X A W e g → GL X A W [e] (dcons g dnil) := by exact fun h => gl_cons h gl_nil) : GF X A W (.Call (.Name "sorted" p) [e] [] pos) (dcbF fSortT (dcons g dnil)) := by
  refine ⟨pe_imp (hP _ _ hm (call_sortT hc) (hA he).p) fun σ H Q ⟨env, Qd, Ed, E, h, q, x⟩ => toL_step E h x fun vs ds H1 s1 E1 x1 r h1 => ?_⟩
  match ds, r, h1 with
  | [.str z], .cons (.str _) .nil, ⟨hz, h1⟩ =>
    refine ⟨z, rfl, by rw [line_is]; exact hz, fun p ss hp hP hs => ?_⟩
    exact q p _ _ _ (Stp.none E.inv s1 hp) (s1.trans (Stp.new hp)) upd_same (RepL.strs _) (h1 ss hP hs)
/-- text.index(text) -/
theorem ge_index {o e : Expr} {apos pos : Pos} {g u : DE} (ho : GE X A W o g) (he : GE X A W e u)
    (hP : ∀ to te, PE X o to → PE X e te → PE X (.Call (.Attribute o "index" apos) [e] [] pos) (tM1 (fun x xs H Q => ∃ a b i rest, x = .str a ∧ xs = [.str b] ∧ Builtin.Str.occurrences a b 0 a.length 1 = i :: rest ∧ Q (.int (i : Nat)) H) to te) := by
      exact fun _ _ a b => pe_m1 PySem.F.slot_str_index PySem.F.type_str_index mt_sindex a b) : GE X A W (.Call (.Attribute o "index" apos) [e] [] pos) (dm1 fIndex g u) := by
  refine ge_m1 hP ?_ ho he
  intro M H x y d e Q Qd hst hf rx ry h k
  match d, e, rx, ry, h with
  | .str a, .str b, .str _, .str _, ⟨i, rest, h1, h2⟩ => exact ⟨a, b, i, rest, rfl, rfl, h1, k _ _ H (Stp.refl _ _) (.int _) h2⟩
/-- list(x), a new list -/
def fListF (ds : List D) (Q : List D → Prop) : Prop := match ds with
  | [.lst xs] => Q xs
  | [.tup xs] => Q xs
  | [.str z] => z.length ≤ LINE ∧ Q (sgnD z)
  | _ => False
end
end Nb
set_option maxRecDepth 100000
set_option maxHeartbeats 2000000
/-! Nb: text[::-1], list(..), xs.append(ys.pop(k)). -/
namespace Nb
open PySem PySem.Spec PyProof.Rows L2
section
variable {X : Cx} {A : Act} {W : WX}
/-- the text behind [::-1] -/
def revS (z : Str) : Str := ⟨((Builtin.Str.strSliceIndices none none (-1) z.length).filterMap (z.cps[·]?)).toArray⟩
def tRevT (te : TE) : TE := fun σ H Q => te σ H fun x H1 => ∃ z : Str, x = .str z ∧ (revS z).length ≤ sizeLine ∧ Q (.str (revS z)) H1
theorem pe_revT {e : Expr} {te : TE} {k : Nat} {p1 p2 p3 pos : Pos} (he : PE X e te) : PE X (.Subscript e (.Slice none none (some (.UnaryOp .USub (.Constant (.int 1) k p1) p2)) p3) pos) (tRevT te) := by
  refine ⟨fun pins s σ H Q I h => ?_⟩
  refine Subscript_ (thn (he.run pins s σ H _ I h) fun v s1 ⟨x, H1, I1, r1, q1⟩ => ?_)
  obtain ⟨z, ex, hz, q⟩ := q1
  subst ex
  obtain ⟨t, rfl⟩ := r1
  have hst : PO X (some (.UnaryOp .USub (.Constant (.int 1) k p1) p2)) (tPart (tUn (rU fun i => .int (-i)) (tC (.int 1)))) := po_some (pe_un un_neg pe_int)
  refine wpAny_Slice (thn (po_none.run pins s1 σ H1 (fun o H2 => o = none ∧ H2 = H1) I1 ⟨rfl, rfl⟩) fun vl s2 ⟨l, H2, I2, pl, el, e2⟩ => ?_)
  subst el e2
  refine thn (po_none.run pins s2 σ H2 (fun o H3 => o = none ∧ H3 = H2) I2 ⟨rfl, rfl⟩) fun vu s3 ⟨u, H3, I3, pu, eu, e3⟩ => ?_
  subst eu e3
  refine thn (hst.run pins s3 σ H3 (fun o H4 => o = some (-1) ∧ H4 = H3) I3 ⟨1, rfl, -1, rfl, rfl, rfl⟩) fun vs s4 ⟨o, H4, I4, ps, eo, e4⟩ => ?_
  subst eo e4
  have I5 : Inv X pins σ H4 { s4 with heap := s4.heap.push { cls := .type "slice", data := .fields #[vl, vu, vs] } } := I4.kept (t' := s4.toks) fun b ob q => Heap.get?_push_of_some _ q
  obtain ⟨l, rfl, hl1⟩ := IsPart.raw pl
  obtain ⟨u, rfl, hu1⟩ := IsPart.raw pu
  obtain ⟨st, rfl, hs1⟩ := IsPart.raw ps
  have el : l = none := by cases l with
    | none => rfl
    | some x => cases hl1
  have eu : u = none := by cases u with
    | none => rfl
    | some x => cases hu1
  subst el eu
  show wpAny (model X.prog X.w) X.A (subscriptTail e (.Slice none none (some (.UnaryOp .USub (.Constant (.int 1) k p1) p2)) p3) (.str z t) (.ref s4.heap.objs.size)) (EP X pins σ Q) X.xe { s4 with heap := s4.heap.push { cls := .type "slice", data := .fields #[_, _, _] } }
  refine tail_any (ops := [.str z t, .ref s4.heap.objs.size]) (typeIs_str _ z t) (F.slot_str_getitem.lookup) ?_ (by with_unfolding_all rfl)
  refine wpAny_getItem_str_slice (l := none) (u := none) (st := st) ⟨_, Heap.get?_push_size _ rfl, rfl, rfl⟩ (by rw [hs1]; rfl) ?_
  cases st with
  | none => cases hs1
  | some p =>
    obtain ⟨j, tj⟩ := p
    cases hs1
    have hp : slicePicked z none none (some (-1, tj)) = Builtin.Str.strSliceIndices none none (-1) z.length := rfl
    show Made.post (if ((-1 : Int) == 1 && (slicePicked z none none (some (-1, tj))).length == z.length) = true then Made.val (.str z t) else Made.str (revS z)) (EP X pins σ Q) _
    rw [if_neg (by simp)]
    exact ⟨hz, .str (revS z), H4, I5.tok _, ⟨_, rfl⟩, q⟩
def dRev (g : DE) : DE := fun env Q Ed => g env (fun d => match d with
  | .str z => (revS z).length ≤ LINE ∧ Q (.str (revS z))
  | _ => False) Ed
theorem ge_revS {e : Expr} {g : DE} {k : Nat} {p1 p2 p3 pos : Pos} (he : GE X A W e g) : GE X A W (.Subscript e (.Slice none none (some (.UnaryOp .USub (.Constant (.int 1) k p1) p2)) p3) pos) (dRev g) := by
  refine ⟨pe_imp (pe_revT he.p) fun σ H Q ⟨env, Qd, Ed, E, h, q, x⟩ => toE_step E h x fun v d H1 s E1 _ r hd => ?_⟩
  cases r <;> first | exact hd.elim | skip
  exact ⟨_, rfl, by rw [line_is]; exact hd.1, q _ _ H1 s (.str _) hd.2⟩
/-- xs.append(ys.pop(k)) -/
def dappPop (i j : Nat) (g : DE) : DS := fun K env => match env[i]? with
  | some (.own ds) => (match env[j]? with
    | some (.own es) => g env (fun d => match d with
      | .int n => -(2 ^ 63) ≤ n ∧ n < 2 ^ 63 ∧ ∃ k y, seqIndex? n es.length = some k ∧ es[k]? = some y ∧ ds.length < LINE ∧ K.nx ((env.set j (.own (es.eraseIdx k))).set i (.own (ds ++ [y])))
      | _ => False) fun x => K.ex x env
    | _ => False)
  | _ => False
theorem gs_appPop {i j : Nat} {o r e : Expr} {g : DE} {pos cpos apos cpos2 apos2 : Pos} (hij : i ≠ j) (ho : PE X o (tVar i)) (hr : PE X r (tVar j)) (he : GE X A W e g)
    (hS : ∀ te, PE X o (tVar i) → PE X r (tVar j) → PE X e te → PS X (.Expr (.Call (.Attribute o "append" apos) [.Call (.Attribute r "pop" apos2) [e] [] cpos2] [] cpos) pos) (tDrop (tBM X.K "list" rAppend (tVar i) (tCons (tBM X.K "list" rPopAt (tVar j) (tCons te tNil)) tNil))) := by
      exact fun te ho hr h => ps_expr (pe_bm PySem.F.plainAttrs_list PySem.F.slot_list_append PySem.F.type_list_append mt_append ho (pa_cons (pe_bm PySem.F.plainAttrs_list PySem.F.slot_list_pop PySem.F.type_list_pop mt_popAt hr (pa_cons h pa_nil)) pa_nil))) :
    GS X A W (.Expr (.Call (.Attribute o "append" apos) [.Call (.Attribute r "pop" apos2) [e] [] cpos2] [] cpos) pos) (dappPop i j g) := by
  refine ⟨ps_imp (hS _ ho hr he.p) fun De σ H ⟨env, K, E, h, q1, q2, q3, q4, q5⟩ => ?_⟩
  obtain ⟨ds, e1, h⟩ := own_of h
  obtain ⟨es, e2, h⟩ := own_of h
  obtain ⟨a, vs, h1, h2, h3, h4, h5⟩ := E.own i ds e1
  obtain ⟨b, ws, g1, g2, g3, g4, g5⟩ := E.own j es e2
  refine ⟨.ref a, h1, .inl ⟨rfl, _, SqL.of h2⟩, .ref b, g1, .inl ⟨rfl, _, SqL.of g2⟩, toE_step E h (xout_of E q5) fun v d H1 s E1 _ rv hq => ?_⟩
  match d, rv, hq with
  | .int n, .int _, ⟨z1, z2, k, y, hk, hy, hl, hn⟩ =>
    have b2 : H1 b = some (.lst ws) := s.k b _ g2 fun z => g4 (E.ok.st b z)
    have a2 : H1 a = some (.lst vs) := s.k a _ h2 fun z => h4 (E.ok.st a z)
    have rw1 := g3.keep (E.keep s)
    obtain ⟨u, hu, ru⟩ := rw1.get hy
    have hab : a ≠ b := fun z => by
      subst z
      exact hij (E.one i j ds es a e1 e2 h1 g1)
    refine ⟨b, ws, n, k, u, rfl, rfl, b2, z1, z2, by rw [g3.length]; exact hk, hu, ?_⟩
    obtain ⟨E2, k2⟩ := E1.mut (us := ws) e2 g1 (rw1.eraseIdx k)
    have e3 : (env.set j (.own (es.eraseIdx k)))[i]? = some (.own ds) := by
      rw [List.getElem?_set_ne (Ne.symm hij)]
      exact e1
    have a3 : upd H1 b (.lst (ws.eraseIdx k)) a = some (.lst vs) := by rw [upd_ne hab]; exact a2
    refine ⟨a, vs, u, rfl, rfl, a3, by rw [h3.length, line_is]; exact hl, ?_⟩
    obtain ⟨E3, k3⟩ := E2.mut (us := vs) e3 h1 (((h3.keep (E.keep s)).keep k2).append (.cons (ru.keep k2) .nil))
    exact q1 _ _ _ (((E.keep s).trans k2).trans k3) E3 hn
/-- list(x), a new list -/
theorem gf_list {p pos : Pos} {e : Expr} {g : DE} (hc : X.calm = true) (hm : X.mg "list" = none) (he : GE X A W e g) (hK : A.R.K = X.K := by rfl)
    (hP : ∀ r t, X.mg "list" = none → CallR X (.type "list") r → PA X [e] t → PE X (.Call (.Name "list" p) [e] [] pos) (tCB r t) := by exact fun r t hm c h => pe_callTy c (by rfl) hm PyProof.Rows.boot_list h)
    (hA : GE X A W e g → GL X A W [e] (dcons g dnil) := by exact fun h => gl_cons h gl_nil) : GF X A W (.Call (.Name "list" p) [e] [] pos) (dcbF fListF (dcons g dnil)) := by
  refine ⟨pe_imp (hP _ _ hm (call_list_of.or (call_listS hc)) (hA he).p) fun σ H Q ⟨env, Qd, Ed, E, h, q, x⟩ => toL_step E h x fun vs ds H1 s1 E1 x1 r h1 => ?_⟩
  have fin : ∀ {us : List V} {es : List D}, RepL A.R (MM A σ env) H1 us es → Qd es → ∀ p, H1 p = none → Q (.ref p) (upd H1 p (.lst us)) := fun {us es} r hq p hp => by
    have s : Stp A.R H1 (upd H1 p (.lst us)) := Stp.new hp
    exact q p _ _ _ (Stp.none E.inv s1 hp) (s1.trans s) upd_same (r.keep ⟨(E1.keep s).k, fun a z => z.elim .inl fun z => .inr (by rw [z]; exact hp)⟩) hq
  match ds, r, h1 with
  | [.lst ds], .cons (.lst (a := a) (xs := vs) e n rl) .nil, h => exact .inl ⟨a, vs, rfl, .inl (SqL.of e), fin rl h⟩
  | [.tup ds], .cons (.tup (a := a) (xs := vs) t rl) .nil, h => exact .inl ⟨a, vs, rfl, .inr (by rw [← hK]; exact t.sq), fin rl h⟩
  | [.str z], .cons (.str _) .nil, h => exact .inr ⟨z, rfl, by rw [line_is]; exact h.1, fin (rep_signs _) h.2⟩
end
end Nb
set_option maxRecDepth 100000
set_option maxHeartbeats 2000000
/-! Nb: own exceptions whose __init__ calls super().__init__ with a text, then stores its fields. -/
namespace Nb
open PySem PySem.Spec PyProof.Rows L2 PySem.W PySem.Calls
/-- what the written part says of such a class, at C; of its __init__, at fI; of the cell that holds the class -/
structure SupTxt (P : Program) (K : PySem.W.Frag) (mg : Str → Option Value) (x : Str) (C fI : Addr) (fs : List Str) (st : Stmt) : Prop where
  gC : mg x = some (.ref C)
  cls : ∃ nm q N bs bm sn sub ab col dd k0 k1 k2 k3 k5, K.lookup C = some (excClassObj nm q C N bs bm true sn sub ab col dd k0 k1 k2 k3 k5 "ValueError.__new__") ∧ PySem.HandSPX.refsVE bm = true
  sa : findIn K (.ref C) "__setattr__" = some (some (.builtin "object.__setattr__"))
  ga : findIn K (.ref C) "__getattribute__" = some (some (.builtin "BaseException.__getattribute__"))
  gg : findIn K (.ref C) "__getattr__" = some none
  noN : ∀ f ∈ fs, findIn K (.ref C) f = some none
  iC : findIn K (.ref C) "__init__" = some (some (.ref fI))
  tC : typeIn K (.ref fI) = some (.type "function")
  kC : keepIn K (.ref C) = true
  exC : subIn K (.ref C) (.type "BaseException") = some true
  veC : subIn K (.ref C) (.type "ValueError") = some true
  tyC : typeIn K (.ref C) = some (.type "type")
  hdC : hasDictIn K C = true
  te : exmOne K (.ref C) (.ref C) = some true
  sup : ks_superIn K C C "__init__" = some (some (.builtin "ValueError.__init__"))
  sCC : mroIn K C (.ref C) = some true
  opq : nsIn K cStatics "thirdparty.any" = some none
  sN : mg "super" = none
  top : (P.main.scope.names.lookup ("super" : Str)).isSome = false
  fn : ∃ (cc cda : Addr) (oc : Value) (od : Option Addr) (doc pm : Value) (an : Option Addr) (ct : Value) (osl : Array (Option Value)) (qual : Str) (ccl cl : Value) (cdd cld : Option Addr) (ccs csl : Array (Option Value)) (vs : Array Value) (file : Str) (tf : Tok),
    K.lookup fI = some ⟨oc, od, .func (ksFn "__init__" qual (defArgs st) (defBody st) (defScope st) .none .none doc pm an (.ref cda) ct cc), osl⟩ ∧ codeIn K (.ref cda) qual = true ∧
    K.lookup cc = some ⟨cl, cld, .cell (some (.ref C)), csl⟩ ∧ K.lookup cda = some ⟨ccl, cdd, .fields vs, ccs⟩ ∧ vs[2]? = some (.str file tf) ∧ ((P.main.file : Str) == file) = true
/-- the module's names and the built-ins, in the heap -/
structure NsAt (mg : Str → Option Value) (h : Heap) : Prop where
  g : h.Ns mainGlobals mg
  b : ∃ mb, h.Ns builtinsNs mb ∧ ∀ x : Str, x ≠ "__name__" → mb x = bootBuiltins x
section
variable {prog : Program} {w : World} {A : Around} {E : Value → Shared → Prop} {s : Shared} {K : PySem.W.Frag} {mg : Str → Option Value} {C fI : Addr}
/-- super().__init__('..') in a class of own exceptions -/
theorem sup_init {x : Addr} {t0 cda cc L : Addr} {body : List Stmt} {q : Str} {scope : Scope} {fd : FuncData} {ar : Arg} {m : Str → Option Value} {vs : Array Value} {file : Str} {tf : Tok} {oc ccl cl : Value} {od cdd cld : Option Addr} {osl ccs csl : Array (Option Value)}
    {msg : Str} {j : Nat} {p0 p1 p2 p3 p4 p5 : Pos} {cn : Str} {fs : List Str} {st : Stmt} {Q : Flow → Shared → Prop} (T : SupTxt prog K mg cn C fI fs st) (X : K.In s.heap) (N : NsAt mg s.heap) (hx : s.heap.get? x = some (PySem.HandSPX.excO C t0)) (hL : s.heap.Ns L m)
    (hf : K.lookup fI = some ⟨oc, od, .func fd, osl⟩) (hp : (fd.params.posonlyargs ++ fd.params.args).head? = some ar) (hv : m ar.arg = some (.ref x))
    (hcode : K.lookup cda = some ⟨ccl, cdd, .fields vs, ccs⟩) (hvs : vs[2]? = some (.str file tf)) (hfile : ((prog.main.file : Str) == file) = true) (hcell : K.lookup cc = some ⟨cl, cld, .cell (some (.ref C)), csl⟩)
    (hks : scope.names.lookup ("super" : Str) = some .globalImplicit) (hkc : scope.names.lookup ("__class__" : Str) = some .free) (hka : scope.names.lookup ar.arg = some .local) (hk : scope.kind = .function) {pl : Sem Bool}
    (he : eval (.Call (.Attribute (.Call (.Name "super" p0) [] [] p1) "__init__" p2) [.Constant (.str msg) j p3] [] p4) (ksEnv q scope L fI (.ref cda) cc) = (do
      let ov ← attributeBase (.Call (.Name "super" p0) [] [] p1) "__init__" (ksEnv q scope L fI (.ref cda) cc) (eval (.Call (.Name "super" p0) [] [] p1) (ksEnv q scope L fI (.ref cda) cc))
      standAt p2.atName
      let (f, first) ← holding [ov] (getMethod ov "__init__" pl)
      callWith p4 f first (backTo p4 (starEach [.Constant (.str msg) j p3] (ksEnv q scope L fI (.ref cda) cc))) []))
    (h : ∀ h' tk t', (∀ b o, b ≠ x → s.heap.get? b = some o → h'.get? b = some o) → h'.get? x = some (PySem.HandSPX.excO C t') → s.heap.objs.size ≤ h'.objs.size → Q .next { s with heap := h', toks := tk }) :
    _root_.PySem.wpAt (model prog w) A (.func body (ksEnv q scope L fI (.ref cda) cc)) (exec (.Expr (.Call (.Attribute (.Call (.Name "super" p0) [] [] p1) "__init__" p2) [.Constant (.str msg) j p3] [] p4) p5) (ksEnv q scope L fI (.ref cda) cc)) Q E s := by
  refine ks_wpAt_Expr_any ?_ (by show (scope.kind == .module && _) = false; rw [hk]; rfl) (by rfl)
  refine ks_wpAt_MethodCall (pl := pl) ?_ he
  obtain ⟨nm, qn, N', bs, bm, sn, sub, ab, col, dd, k0, k1, k2, k3, k5, hC, hbm⟩ := T.cls
  have hCh := X _ _ hC
  obtain ⟨hh, g, d, t, os⟩ := s
  have I : InstAt hh x (PySem.HandSPX.excO C t0) C none := ⟨hx, rfl, rfl, trivial⟩
  refine ks_wpAt_super_base (env := ksEnv q scope L fI (.ref cda) cc) hks hkc (by decide) rfl (X _ _ hf) rfl hp rfl (X _ _ hcode) rfl hvs hfile T.top ?_
  obtain ⟨mb, hb1, hb2⟩ := N.b
  refine ks_loadName_global hk hks (loadGlobal_builtin (env := ksEnv q scope L fI (.ref cda) cc) N.g T.sN hb1 ((hb2 "super" (by decide)).trans (show bootBuiltins "super" = some (.type "super") by decide +kernel)) ⟨rfl, ?_⟩)
  refine wpAny_loadName_free hk hkc rfl ⟨_, X _ _ hcell, rfl⟩ ?_
  refine wpAny_loadName_local hk hka hL hv ?_
  refine ks_wpAny_isType_cls hCh rfl ⟨rfl, ?_⟩
  refine ks_wpAny_call_super hCh rfl I.at_ I.cls (fun c e => by cases e) (looks_mroIn X T.sCC) (fun h1 e1 k1' => ?_)
  -- the object of super's: its __init__
  have X1 : K.In h1 := X.keeps k1'
  have I1 : InstAt h1 x (PySem.HandSPX.excO C t0) C none := ⟨k1' _ _ hx, rfl, rfl, trivial⟩
  have hcl : clsIn K C = some { name := nm, bases := bs, mro := .ref C :: bm, ns := N', qualname := qn, hasDict := true, slotNames := sn, subclasses := sub, abstract := ab, collection := col, hasDel := false } := by unfold clsIn; rw [hC] <;> rfl
  have hsup := T.sup
  unfold ks_superIn at hsup
  rw [hcl] at hsup
  have hI : Looks (model prog w) h1 (isInstance (.ref x) (.type "ValueError")) true := I1.type.andThen (looks_subIn X1 T.veC)
  refine kxs_getMethod kxs_ValueError e1 (looks_opaque X1 T.opq) (l₀ := .ref C :: bm) ?_ rfl X1 hsup hI (ks_ne X1 I1 hcl) (by decide) ?_
  · exact fun A Q E s k q => wpAny_bind ((looks_clsIn X1 hcl) A _ E s k (wpAny_pure q))
  have hmw : (h1.push (kxs_mw "ValueError.__init__" x)).get? h1.objs.size = some (kxs_mw "ValueError.__init__" x) := Heap.get?_push_size _ rfl
  refine kxs_callWith (i := "ValueError.__init__") (x := x) (by rfl) ?_
  refine evalArgs_plain (rest := []) (spliced_cons ?_)
  simp only [Bool.false_eq_true, if_false]
  refine wpAny_Constant_str (spliced_nil ⟨hmw, ?_⟩)
  have hC2 : (h1.push (kxs_mw "ValueError.__init__" x)).get? C = some (excClassObj nm qn C N' bs bm true sn sub ab col dd k0 k1 k2 k3 k5 "ValueError.__new__") := Heap.get?_push_of_some _ (k1' _ _ hCh)
  have hx2 : (h1.push (kxs_mw "ValueError.__init__" x)).get? x = some (PySem.HandSPX.excO C t0) := Heap.get?_push_of_some _ (k1' _ _ hx)
  show wpAny _ _ (call (.ref h1.objs.size) [.str msg (t + 1)]) _ _ _
  refine wpAny_call (codeAny_of_tree ?_)
  show wpAny _ A.in1 (callAny (.ref h1.objs.size) ⟨[.str msg (t + 1)], []⟩) _ _ _
  simp only [callAny]
  refine wpAny_bind (wpAny_load hmw ?_)
  simp only [kxs_mw, show (Value.type "method-wrapper" == Value.type "method" || Value.type "method-wrapper" == Value.type "builtin_function_or_method" || Value.type "method-wrapper" == Value.type "method-wrapper") = true by decide, if_true]
  refine KFB.if_so (by decide) ?_
  refine wpAny_bind (check_bound_init PySem.F.excBase_ValueError.toExcCallFacts hC2 hx2 rfl ?_)
  refine wpAny_bind (wpAny_pure (wpAny_pure ?_))
  refine ⟨plainId_quiet PySem.F.excBase_ValueError.init.plain _, codeAny_builtin PySem.F.excBase_ValueError.initEntry ?_⟩
  refine exc_init_tree (cls := .ref C) (t0 := t0) (dv := none) (c2 := .none) (c3 := .none) (b4 := .bool false) hx2 (by show 1 ≤ sizeLine; rw [sizeLine_eq]; omega) fun h' k3 e3 e4 => ?_
  refine h h' _ _ (fun b o hb e => k3 b o hb (Heap.get?_push_of_some _ (k1' b o e))) e3 ?_
  have z1 := Heap.lt_size e1
  have z2 := Heap.lt_size e4
  have z3 : (h1.push (kxs_mw "ValueError.__init__" x)).objs.size = h1.objs.size + 1 := size_push' _ _
  have z4 : (h1.push (kxs_mw "ValueError.__init__" x)).objs.size < h'.objs.size := z2
  have z5 : hh.objs.size < h1.objs.size := z1
  show hh.objs.size ≤ h'.objs.size
  omega
theorem kept_but {K : Frag} {h h' : Heap} {x : Addr} (X : K.In h) (hx : K.lookup x = none) (k : ∀ b o, b ≠ x → h.get? b = some o → h'.get? b = some o) : K.In h' := fun a o e =>
  k a o (fun z => by rw [z, hx] at e; cases e) (X a o e)
/-- the text of an __init__ with one field -/
structure Init1 (st : Stmt) (f : Str) : Prop where
  ex : ∃ (a : Str) (msg : Str) (j : Nat) (p0 p1 p2 p3 p4 p5 q1 q2 q3 q4 : Pos) (a1 a2 : Pos), defBody st = [.Expr (.Call (.Attribute (.Call (.Name "super" p0) [] [] p1) "__init__" p2) [.Constant (.str msg) j p3] [] p4) p5, .Assign [.Attribute (.Name "self" q1) f q2] (.Name a q3) q4] ∧
    defArgs st = { posonlyargs := [], args := [{ arg := "self", annotation := none, pos := a1 }, { arg := a, annotation := none, pos := a2 }], vararg := none, kwonlyargs := [], kw_defaults := [], kwarg := none, defaults := [] } ∧ a ≠ "self" ∧ (a == ("__debug__" : Str)) = false ∧ (a == ("__classdict__" : Str)) = false ∧
    (defScope st).names.lookup a = some .local ∧ (defScope st).names.lookup ("self" : Str) = some .local ∧ (defScope st).names.lookup ("super" : Str) = some .globalImplicit ∧ (defScope st).names.lookup ("__class__" : Str) = some .free ∧ (defScope st).kind = .function ∧
    (defScope st).isCoroutine = false ∧ (defScope st).isGenerator = false ∧ (∀ y ∈ (defScope st).names, y.2 ≠ .cell) ∧
    (∀ (qual : Str) (doc pm cdv ct : Value) (an : Option Addr) (cc : Addr) (x v : Value), bindArgs (ksFn "__init__" qual (defArgs st) (defBody st) (defScope st) .none .none doc pm an cdv ct cc) ⟨[x, v], []⟩ = pure ([(("self" : Str), x), (a, v)] : List (Str × Value))) ∧
    (∀ env : Env, swapsWith (.Name a q3) (some (.Attribute (.Name "self" q1) f q2)) q4.line env = pure false) ∧
    ∀ (env : Env), ∃ pl : Sem Bool, eval (.Call (.Attribute (.Call (.Name "super" p0) [] [] p1) "__init__" p2) [.Constant (.str msg) j p3] [] p4) env = (do
      let ov ← attributeBase (.Call (.Name "super" p0) [] [] p1) "__init__" env (eval (.Call (.Name "super" p0) [] [] p1) env)
      standAt p2.atName
      let (f, first) ← holding [ov] (getMethod ov "__init__" pl)
      callWith p4 f first (backTo p4 (starEach [.Constant (.str msg) j p3] env)) [])
/-- what __init__ leaves of a fresh exception at x -/
structure InitEnd1 (h h' : Heap) (x C dx t1 : Addr) (f : Str) (v : Value) : Prop where
  keep : ∀ b o, b ≠ x → h.get? b = some o → h'.get? b = some o
  obj : h'.get? x = some { cls := .ref C, dict := some dx, data := .fields #[.ref t1, .none, .none, .none, .bool false, .none] }
  dbig : h.objs.size ≤ dx
  dne : dx ≠ x
  ns : h'.Ns1 dx (fun y => if y = f then some v else none)
theorem init1 {R : Result → Shared → Prop} {cn f : Str} {st : Stmt} (T : SupTxt prog K mg cn C fI [f] st) (TI : Init1 st f) {x t0 : Addr} {v : Value} (X : K.In s.heap) (N : NsAt mg s.heap) (hlim : s.heap.NoLimit) (hx : s.heap.get? x = some (PySem.HandSPX.excO C t0)) (hnx : K.lookup x = none) (hroom : A.depth < recursionLimit)
    (hq : ∀ h' tk dx t1, InitEnd1 s.heap h' x C dx t1 f v → R (.ok (.ret .none)) { s with heap := h', toks := tk }) :
    codeAny (model prog w) A (.call (.ref fI) ⟨[.ref x, v], []⟩) R s := by
  obtain ⟨cc, cda, oc, od, doc, pm, an, ct, osl, qual, ccl, cl, cdd, cld, ccs, csl, vs, file, tf, ho, hcd, hcell, hcode, hvs, hfile⟩ := T.fn
  obtain ⟨a, msg, j, p0, p1, p2, p3, p4, p5, q1, q2, q3, q4, a1, a2, hB, hA, ha1, ha2, ha3, la, ls, lsu, lcl, hk, hco, hgen, hnc, hbd, hsw, hev⟩ := TI.ex
  obtain ⟨nm, q, N', bs, bm, sn, sub, ab, col, dd, k0, k1, k2, k3, k5, hC, hbm⟩ := T.cls
  have hcl : clsIn K C = some { name := nm, bases := bs, mro := .ref C :: bm, ns := N', qualname := q, hasDict := true, slotNames := sn, subclasses := sub, abstract := ab, collection := col, hasDel := false } := by unfold clsIn; rw [hC] <;> rfl
  refine ks_codeAny_call_defAt (fd := ksFn "__init__" qual (defArgs st) (defBody st) (defScope st) .none .none doc pm an (.ref cda) ct cc) (body := defBody st) (binds := [("self", .ref x), (a, v)]) hroom (X _ _ ho) rfl hlim (codeRec_of X hcd) rfl (BindsTo.of_eq ?_) hnc (fun y hy => ?_) (fun h₁ hns hk₁ => ?_) hco hgen hk
  · exact hbd _ _ _ _ _ _ _ _ _
  · rcases List.mem_cons.mp hy with e | e
    · rw [e]; exact ls
    · rw [List.mem_singleton.mp e]; exact la
  · have hn1 : (fun y => ([("self", Value.ref x), (a, v)] : List (Str × Value)).reverse.lookup y) a = some v := by simp
    have hn2 : (fun y => ([("self", Value.ref x), (a, v)] : List (Str × Value)).reverse.lookup y) ("self" : Str) = some (.ref x) := by
      have : (("self" : Str) == a) = false := by simpa using fun e => ha1 e.symm
      simp [List.lookup, this]
    have hxL : s.heap.objs.size ≠ x := Nat.ne_of_gt (Heap.lt_size hx)
    have X1 : K.In h₁ := X.keeps hk₁
    have hx1 := hk₁ _ _ hx
    have N1 : NsAt mg h₁ := ⟨N.g.keeps hk₁, let ⟨mb, b1, b2⟩ := N.b; ⟨mb, b1.keeps hk₁, b2⟩⟩
    obtain ⟨pl, hpl⟩ := hev (ksEnv qual (defScope st) s.heap.objs.size fI (.ref cda) cc)
    have go : _root_.PySem.wpAt (model prog w) (A.deeper (ksEnv qual (defScope st) s.heap.objs.size fI (.ref cda) cc)) (.func (defBody st) (ksEnv qual (defScope st) s.heap.objs.size fI (.ref cda) cc))
        (execs [.Expr (.Call (.Attribute (.Call (.Name "super" p0) [] [] p1) "__init__" p2) [.Constant (.str msg) j p3] [] p4) p5, .Assign [.Attribute (.Name "self" q1) f q2] (.Name a q3) q4] (ksEnv qual (defScope st) s.heap.objs.size fI (.ref cda) cc)) (fun f s' => R (.ok (.ret (match f with | .ret v => v | _ => .none))) s')
        (fun e s' => wpAny (model prog w) (A.deeper (ksEnv qual (defScope st) s.heap.objs.size fI (.ref cda) cc)) (leaving (ksEnv qual (defScope st) s.heap.objs.size fI (.ref cda) cc) e) (fun _ s'' => R (.error e) s'') (fun e' s'' => R (.error e') s'') s')
        { s with heap := h₁, toks := s.toks + 2 } := by
      refine ks_wpAt_execs_cons (sup_init (s := { s with heap := h₁, toks := s.toks + 2 }) (ar := { arg := "self", annotation := none, pos := a1 }) T X1 N1 hx1 hns ho (by show ((defArgs st).posonlyargs ++ (defArgs st).args).head? = _; rw [hA]; rfl) hn2 hcode hvs hfile hcell lsu lcl ls hk hpl fun h2 tk2 t2 k2 hx2 hz2 => ?_)
      have hns2 : h2.Ns s.heap.objs.size (fun y => ([("self", Value.ref x), (a, v)] : List (Str × Value)).reverse.lookup y) := hns.at fun o e => k2 _ o hxL e
      have X2 : K.In h2 := kept_but X1 hnx k2
      refine wpAt_of_wpAny ?_
      show wpAny _ _ (execs _ _) _ _ _
      refine wpAny_execs_cons (plainObj_wpAny_Assign_Attribute ?_ (hsw _))
      refine wpAny_Name ?_ ha2
      refine wpAny_loadName_local (env := ksEnv qual (defScope st) s.heap.objs.size fI (.ref cda) cc) (m := fun y => ([("self", Value.ref x), (a, v)] : List (Str × Value)).reverse.lookup y) hk la hns2 hn1 ?_
      refine wpAny_Name ?_ (by decide)
      refine wpAny_loadName_local (env := ksEnv qual (defScope st) s.heap.objs.size fI (.ref cda) cc) (m := fun y => ([("self", Value.ref x), (a, v)] : List (Str × Value)).reverse.lookup y) hk ls hns2 hn2 ?_
      refine set_plain X2 (ox := PySem.HandSPX.excO C t2) (od := none) ⟨hx2, rfl, rfl, trivial⟩ T.sa ?_
      refine PySem.HandSPX.exc_osa X2 hx2 hcl (show PySem.HandSPX.refsVE (.ref C :: bm) = true from hbm) rfl (T.noN f List.mem_cons_self) (fun h3 tk3 dx k3 dn dne hx3 hn3 => ?_)
      show wpAny _ _ (execs _ _) _ _ _
      have z1 : s.heap.objs.size < h₁.objs.size := hns.lt
      have z2 : h₁.objs.size ≤ h2.objs.size := hz2
      have z3 : h2.objs.size ≤ dx := dn
      exact wpAny_execs_nil (hq h3 tk3 dx t2 ⟨fun b o hb e => k3 b o hb (k2 b o hb (hk₁ b o e)), hx3, by omega, dne, hn3⟩)
    rw [← hB] at go
    exact go
/-- a made one -/
structure Made1 (h h' : Heap) (e C d : Addr) (f : Str) (v : Value) : Prop where
  keep : ∀ b o, h.get? b = some o → h'.get? b = some o
  new : h.objs.size ≤ e
  obj : ∃ oe vs, h'.get? e = some oe ∧ oe.cls = .ref C ∧ oe.dict = some d ∧ oe.data = .fields vs ∧ vs[1]? = some .none
  dbig : h.objs.size ≤ d
  dne : d ≠ e
  ns : h'.Ns1 d (fun y => if y = f then some v else none)
theorem made1 {R : Result → Shared → Prop} {cn f : Str} {st : Stmt} (T : SupTxt prog K mg cn C fI [f] st) (TI : Init1 st f) {v : Value} (X : K.In s.heap) (N : NsAt mg s.heap) (hlim : s.heap.NoLimit) (hroom : A.depth + 1 < recursionLimit)
    (hq : ∀ h' tk e d, Made1 s.heap h' e C d f v → R (.ok (.ret (.ref e))) { s with heap := h', toks := tk }) :
    codeAny (model prog w) A (.call (.ref C) ⟨[v], []⟩) R s := by
  obtain ⟨nm, q, N', bs, bm, sn, sub, ab, col, dd, k0, k1, k2, k3, k5, hC, hbm⟩ := T.cls
  obtain ⟨hp, g, dr, tk, os⟩ := s
  have k : ∀ b o, hp.get? b = some o → ((hp.push (kdv_tup [v])).push (PySem.HandSPX.excO C hp.objs.size)).get? b = some o := fun b o e => Heap.get?_push_of_some _ (Heap.get?_push_of_some _ e)
  have hget : ((hp.push (kdv_tup [v])).push (PySem.HandSPX.excO C hp.objs.size)).get? (hp.objs.size + 1) = some (PySem.HandSPX.excO C hp.objs.size) := by heap_get
  have hnx : K.lookup (hp.objs.size + 1) = none := by
    cases e : K.lookup (hp.objs.size + 1) with
    | none => rfl
    | some o =>
      have z : hp.get? (hp.objs.size + 1) = some o := X _ _ e
      exact absurd (Nat.lt_of_succ_lt (Heap.lt_size z)) (Nat.lt_irrefl _)
  refine PySem.HandSPX.call_own PySem.F.excBase_ValueError (fun X => PySem.HandSPX.refsVE_contains X bm hbm) (X _ _ hC) (looks_findIn X T.iC) (fun self => bind_fn X self T.tC) (by show 1 ≤ sizeLine; rw [sizeLine_eq]; omega) ?_
  refine init1 (s := ⟨(hp.push (kdv_tup [v])).push (PySem.HandSPX.excO C hp.objs.size), g, dr, tk, os⟩) T TI (X.keeps k) ⟨N.g.keeps k, let ⟨mb, b1, b2⟩ := N.b; ⟨mb, b1.keeps k, b2⟩⟩ (hlim.keeps k) hget hnx ?_ fun h' tk' dx t1 ⟨k', hx, dn, dne, hns⟩ => ?_
  · show A.depth + 1 < recursionLimit
    exact hroom
  · have old : ∀ b o, hp.get? b = some o → h'.get? b = some o := fun b o e => k' b o (Nat.ne_of_lt (Nat.lt_succ_of_lt (Heap.lt_size e))) (k b o e)
    have z : hp.objs.size + 1 + 1 ≤ dx := by
      first
        | (simpa only [Heap.size_push] using dn)
        | exact dn
        | (have q := dn; rw [Heap.size_push, Heap.size_push] at q; exact q)
    exact ⟨rfl, hq h' tk' (hp.objs.size + 1) dx ⟨old, Nat.le_succ _, ⟨_, _, hx, rfl, rfl, rfl, rfl⟩, Nat.le_trans (Nat.le_trans (Nat.le_succ _) (Nat.le_succ _)) z, dne, hns⟩⟩
end
theorem relO_1 {f0 : Str} {v : V} {v' : Value} (r : RelV v v') (f : Str) : RelO (List.lookup f [(f0, v)]) (if f = f0 then some v' else none) := by
  by_cases hw : f = f0
  · subst hw
    rw [if_pos rfl]
    have q : List.lookup f [(f, v)] = some v := by simp [List.lookup]
    rw [q]
    exact r
  · rw [if_neg hw]
    have qw : (f == f0) = false := by simpa using hw
    have q2 : List.lookup f [(f0, v)] = none := by simp [List.lookup, qw]
    rw [q2]
    trivial
section
variable {X : Cx} {A : Act} {C fI : Addr}
/-- C(e), one field -/
def tMk1 (C : Addr) (f : Str) (ta : TA) : St → Hp → XK → Prop := fun σ H Q => ta σ H fun vs H1 => ∃ v, vs = [v] ∧ ∀ d, H1 d = none → Q (.ref C) (some d) (upd H1 d (.xd [(f, v)]))
theorem nsAt_of {pins : List (Addr × Obj)} {σ : St} {H : Hp} {s : Shared} (I : Inv X pins σ H s) : NsAt X.mg s.heap := by
  obtain ⟨mb, h1, h2⟩ := I.ok.mod.blt
  exact ⟨I.ok.mod.glob.keeps I.bk, mb, h1.keeps I.bk, h2⟩
theorem pmk_1 {x f : Str} {a : Expr} {ta : TA} {st : Stmt} {p pos : Pos} {k : Nat} (T : SupTxt X.prog X.K X.mg x C fI [f] st) (TI : Init1 st f) (hr : Room k X.A) (ha : PA X [a] ta) (hg : Gl X x) (hdb : (x == ("__debug__" : Str)) = false := by decide)
    (he : starEach (a :: []) X.env = (false, eval a X.env) :: starEach [] X.env := by rfl) (hpl : (backTo pos (starEach [] X.env)).any (·.1) = false := by rfl) :
    PMk X (.Call (.Name x p) [a] [] pos) (tMk1 C f ta) := by
  intro pins s σ H Q I h
  refine wpAny_Call_Name_kw (ld_glob I hg T.gC ?_ hdb)
  refine PySem.W.callWith_K (h₀ := X.base) I.ok.mod.kin T.kC (thn (ha.run pos pins s σ H _ I h) fun us s1 hh => ?_) he hpl
  obtain ⟨vs, H1, I1, r1, v, ev, q1⟩ := hh
  subst ev
  refine ⟨I1.kIn, ?_⟩
  cases r1 with
  | cons rv rn =>
    rename_i v' us'
    cases rn
    show wpAny _ _ (call (.ref C) [v']) _ _ _
    have hlim := I1.nolimit
    have hN := nsAt_of I1
    obtain ⟨hp, g, dr, tk, os⟩ := s1
    refine wpAny_call (made1 T TI I1.kIn hN hlim (by have := hr.dp; omega) fun h' tk' e d M => ?_)
    show MkP X pins σ Q (.ref e) ⟨h', g, dr, tk', os⟩
    obtain ⟨oe, fv, hoe, hc, hd, hdat, h1⟩ := M.obj
    have hns := M.ns
    obtain ⟨G', g1, g2⟩ := restrict h' fun b => decide (b ≠ e)
    have gk : ∀ b, b ≠ e → G'.get? b = h'.get? b := fun b hb => g1 b (decide_eq_true hb)
    have ge : G'.get? e = none := g2 e (by simp)
    have old : ∀ b o, hp.get? b = some o → G'.get? b = some o := fun b o q => (gk b (Nat.ne_of_lt (Nat.lt_of_lt_of_le (Heap.lt_size q) M.new))).trans (M.keep b o q)
    have ob : ObjOk X.prog X.w (upd H1 d (.xd [(f, v)])) G' d (.xd [(f, v)]) :=
      ⟨_, hns.at (fun o q => (gk d M.dne).trans q), fun g => relO_1 rv g⟩
    have J : Inv X pins σ (upd H1 d (.xd [(f, v)])) ⟨G', g, dr, tk', os⟩ := I1.laid (t' := tk') old M.dbig ob
    refine ⟨e, oe, fv, ⟨G', g, dr, tk', os⟩, _, .ref C, some d, rfl, J, fun b o q => ?_, ge, hoe, ⟨hc, hd⟩, hdat, h1, ?_, rfl, I1.bare, raises_own T.exC T.tyC, q1 d (I1.hok.fresh M.dbig)⟩
    · by_cases hb : b = e
      · have q' : G'.get? b = some o := q
        rw [hb, ge] at q'; cases q'
      · exact (gk b hb).symm.trans q
    · rw [upd_ne (Ne.symm M.dne)]
      exact I1.hok.fresh M.new
/-- raise C(e): data -/
def draise1 (x f : Str) (g : DE) : DS := fun K env => g env (fun d => K.ex (x, [(f, d)]) env) fun e => K.ex e env
theorem gs_raise1 {W : WX} {x f : Str} {a : Expr} {g : DE} {st : Stmt} {p pos pos2 : Pos} {k : Nat} (hc : X.calm = true) (T : SupTxt X.prog X.K X.mg x C fI [f] st) (TI : Init1 st f) (hr : Room k X.A) (tk : Takes X W) (ha : GE X A W a g) (hg : Gl X x) (hm : A.R.mg = X.mg) (hdb : (x == ("__debug__" : Str)) = false := by decide)
    (hA : GE X A W a g → GL X A W [a] (dcons g dnil) := by exact fun h => gl_cons h gl_nil)
    (he : starEach (a :: []) X.env = (false, eval a X.env) :: starEach [] X.env := by rfl) (hpl : (backTo pos (starEach [] X.env)).any (·.1) = false := by rfl) :
    GS X A W (.Raise (some (.Call (.Name x p) [a] [] pos)) none pos2) (draise1 x f g) := by
  refine ⟨ps_imp (ps_raise hc tk (pmk_1 T TI hr (hA ha).p hg hdb he hpl)) fun De σ H ⟨env, K, E, h, q1, q2, q3, q4, q5⟩ => ?_⟩
  have h' : dcons g dnil env (fun ds => match ds with
    | [d] => K.ex (x, [(f, d)]) env
    | _ => False) (fun e => K.ex e env) := h
  refine toL_step E h' (xout_of E q5) fun vs ds H1 s1 E1 x1 r h1 => ?_
  match ds, r, h1 with
  | [d], .cons (v := v) rv .nil, h1 =>
    refine ⟨v, rfl, fun a hd => ?_⟩
    have s2 : Stp A.R H1 (upd H1 a (.xd [(f, v)])) := Stp.new hd
    have kk := (E.keep s1).trans (E1.keep s2)
    exact q5 (x, [(f, d)]) _ _ σ _ env kk (E1.stp s2) ⟨C, rfl, by rw [hm]; exact T.gC, .inr ⟨a, _, rfl, upd_same, E1.fresh hd, .cons (rv.keep (E1.keep s2)) .nil⟩⟩ h1
end
end Nb
set_option maxRecDepth 100000
set_option maxHeartbeats 2000000
/-! Nb: what is caught: the suite, the defs that it calls, isinstance, fields. -/
namespace Nb
open PySem PySem.Spec PyProof.Rows L2
mutual
def D.noexc : D → Bool
  | .exc _ _ => false
  | .tup ds => D.noexcL ds
  | .lst ds => D.noexcL ds
  | .ins _ fs => D.noexcF fs
  | _ => true
def D.noexcL : List D → Bool
  | [] => true
  | d :: ds => D.noexc d && D.noexcL ds
def D.noexcF : List (Str × D) → Bool
  | [] => true
  | (_, d) :: ds => D.noexc d && D.noexcF ds
end
def RC.hold (R : RC) (h : Option (Addr × Addr × Option Addr)) : RC := { R with hx := h }
section
variable {R : RC} {M : Addr → Prop} {H : Hp} {h : Option (Addr × Addr × Option Addr)}
mutual
/-- data that is no exception's means the same whatever exception is at hand -/
theorem Rep.hold : ∀ {v : V} {d : D}, Rep R M H v d → D.noexc d = true → Rep (R.hold h) M H v d
  | _, _, .non, _ => .non
  | _, _, .bl b, _ => .bl b
  | _, _, .int i, _ => .int i
  | _, _, .str x, _ => .str x
  | _, _, .ty n, _ => .ty n
  | _, _, .tup t l, e => .tup t (RepL.hold l (by unfold D.noexc at e; exact e))
  | _, _, .lst t n l, e => .lst t n (RepL.hold l (by unfold D.noexc at e; exact e))
  | _, _, .sto e, _ => .sto e
  | _, _, .exc0 _ _, e => by unfold D.noexc at e; cases e
  | _, _, .excF _ _ _ _ _, e => by unfold D.noexc at e; cases e
  | _, _, .ins t n b l, e => .ins t n b (RepF.hold l (by unfold D.noexc at e; exact e))
  | _, _, .dct t n, _ => .dct t n
theorem RepL.hold : ∀ {v : List V} {d : List D}, RepL R M H v d → D.noexcL d = true → RepL (R.hold h) M H v d
  | _, _, .nil, _ => .nil
  | _, _, .cons a b, e => by
    unfold D.noexcL at e
    rw [Bool.and_eq_true] at e
    exact .cons (Rep.hold a e.1) (RepL.hold b e.2)
theorem RepF.hold : ∀ {v : List (Str × V)} {d : List (Str × D)}, RepF R M H v d → D.noexcF d = true → RepF (R.hold h) M H v d
  | _, _, .nil, _ => .nil
  | _, _, .cons a b, e => by
    unfold D.noexcF at e
    rw [Bool.and_eq_true] at e
    exact .cons (Rep.hold a e.1) (RepF.hold b e.2)
end
mutual
theorem Rep.none0 (e : R.hx = none) : ∀ {v : V} {d : D}, Rep R M H v d → D.noexc d = true
  | _, _, .non => rfl
  | _, _, .bl b => rfl
  | _, _, .int i => rfl
  | _, _, .str x => rfl
  | _, _, .ty n => rfl
  | _, _, .tup t l => by unfold D.noexc; exact RepL.none0 e l
  | _, _, .lst t n l => by unfold D.noexc; exact RepL.none0 e l
  | _, _, .sto _ => rfl
  | _, _, .exc0 q _ => by rw [e] at q; cases q
  | _, _, .excF q _ _ _ _ => by rw [e] at q; cases q
  | _, _, .ins t n b l => by unfold D.noexc; exact RepF.none0 e l
  | _, _, .dct _ _ => rfl
theorem RepL.none0 (e : R.hx = none) : ∀ {v : List V} {d : List D}, RepL R M H v d → D.noexcL d = true
  | _, _, .nil => rfl
  | _, _, .cons a b => by unfold D.noexcL; rw [Rep.none0 e a, RepL.none0 e b]; rfl
theorem RepF.none0 (e : R.hx = none) : ∀ {v : List (Str × V)} {d : List (Str × D)}, RepF R M H v d → D.noexcF d = true
  | _, _, .nil => rfl
  | _, _, .cons a b => by unfold D.noexcF; rw [Rep.none0 e a, RepF.none0 e b]; rfl
end
end
/-- the activation within a suite -/
abbrev Act.hold (A : Act) (h : Option (Addr × Addr × Option Addr)) : Act := ⟨A.R.hold h, A.H0, A.M0, A.fr⟩
section
variable {A : Act} {H H' : Hp} {σ : St} {env : DEnv}
theorem Stp.hold {R : RC} {h : Option (Addr × Addr × Option Addr)} (s : Stp R H H') : Stp (R.hold h) H H' := ⟨s.k, s.s⟩
theorem Stp.unhold {R : RC} {h : Option (Addr × Addr × Option Addr)} (s : Stp (R.hold h) H H') : Stp R H H' := ⟨s.k, s.s⟩
theorem ERep.hold (E : ERep A H σ env) (e : A.R.hx = none) (h : Option (Addr × Addr × Option Addr)) : ERep (A.hold h) H σ env := by
  refine ⟨⟨E.ok.inv, E.ok.st, E.ok.m⟩, E.len, fun i d q => ?_, fun i ds q => ?_, E.one, E.base.hold⟩
  · obtain ⟨v, h1, h2⟩ := E.val i d q
    exact ⟨v, h1, h2.hold (h2.none0 e)⟩
  · obtain ⟨a, vs, h1, h2, h3, h4, h5⟩ := E.own i ds q
    exact ⟨a, vs, h1, h2, h3.hold (h3.none0 e), h4, h5⟩
theorem ERep.blank {A : Act} {H : Hp} (ok : A.Ok) (b : Stp A.R A.H0 H) (σ : St) : ERep A H σ (List.replicate σ.length .un) := by
  have no : ∀ {i : Nat} {x : SD}, (List.replicate σ.length SD.un)[i]? = some x → x = .un := fun {i x} h => by
    rw [List.getElem?_replicate] at h
    split at h <;> cases h
    rfl
  exact ⟨ok, List.length_replicate, fun i d h => (by cases no h), fun i ds h => (by cases no h), fun i j ds es a h => (by cases no h), b⟩
theorem RepF.hold0 {R : RC} {M : Addr → Prop} {v : List (Str × V)} {d : List (Str × D)} (r : RepF R M H v d) (e : R.hx = none) (h : Option (Addr × Addr × Option Addr)) : RepF (R.hold h) M H v d := r.hold (r.none0 e)
end
section
variable {X : Cx} {A : Act} {W : WX}
/-- try: body, except x as n: suite, where the suite hands back something -/
@[irreducible] def dtry (ok : Str → Prop) (i : Nat) (s u : DS) : DS := fun K env => s { K with ex := fun x env' => ok x.1 ∧ u { nx := fun _ => False, rt := fun d _ => d.noexc = true ∧ ∀ e, K.rt d e, ex := fun _ _ => False } (env'.set i (.val (.exc x.1 x.2))) } env
theorem gs_try {x n : Str} {c : Value} {i : Nat} {body suite : List Stmt} {b₀ : Stmt} {np pos pos' : Pos} {ok : Str → Prop} {s u : DS} (h0 : A.R.hx = none) (hfr : A.fr = false) (hs : X.stack = X.env :: X.outer) (hf : X.env.frame = some X.env.locals) (hN : X.N.Nodup) (hi : X.N[i]? = some n) (hln : X.env.kindOf n = some .local) (hc : Names X x c) (tk : Takes X W)
    (hex : ∀ m C, ok m → A.R.mg m = some (.ref C) → PySem.W.exmOne X.K (.ref C) c = some true)
    (hb : ∀ (W : WX) (pn : List (Addr × Obj)) (xe : Value → Shared → Prop), Takes (X.tr pn xe) W → PassesOwn (model X.prog X.w) X.A X.env xe → GSs (X.tr pn xe) A W body s)
    (hsu : ∀ (a C : Addr) (oe : Obj) (d : Option Addr) (pn : List (Addr × Obj)), Zc (.ref C) d oe → (∃ vs, oe.data = .fields vs) → GSs (X.suite a ((a, oe) :: pn)) (A.hold (some (a, C, d))) W0 (b₀ :: suite) u) :
    GS X A W (.Try body [.ExceptHandler (some (.Name x np)) (some n) (b₀ :: suite) pos'] [] [] pos) (dtry ok i s u) := by
  refine ⟨ps_imp (ps_try_as (tb := fun W => toS A W s) (ts := fun a cls d => fun De σ H => ∃ C, cls = .ref C ∧ toS (A.hold (some (a, C, d))) W0 u De σ H) (Wout := W) hs hf hN hi hln hc tk (fun W pn xe t p => (hb W pn xe t p).p) (fun a oe cls d pn hz hv => ?_)) fun De σ H ⟨env, K, E, h, q1, q2, q3, q4, q5⟩ => ?_⟩
  · exact ⟨fun pins s' σ H De I ⟨C, e, w⟩ => by subst e; exact (hsu a C oe d pn hz hv).p.run pins s' σ H De I w⟩
  · unfold dtry at h
    refine ⟨env, _, E, h, q1, q2, q3, q4, fun e cls dd σ' H' env' kk E' rx ⟨ho, hu⟩ => ?_⟩
    obtain ⟨C, rfl, hm, hd⟩ := rx
    refine ⟨true, hex _ C ho hm, fun _ a ha => ⟨C, rfl, ?_⟩, fun z => Bool.noConfusion z⟩
    have Eh := E'.hold h0 (some (a, C, dd))
    have rx : Rep (A.hold (some (a, C, dd))).R (MM (A.hold (some (a, C, dd))) σ' env') H' (.ref a) (.exc e.1 e.2) := by
      rcases hd with ⟨h1, h2⟩ | ⟨d, fv, h1, h2, h3, h4⟩
      · subst h2
        rw [h1]
        exact .exc0 rfl hm
      · subst h1
        exact .excF rfl hm h2 h3 (h4.hold0 h0 _)
    refine ⟨_, _, Eh.set (i := i) rx, hu, fun _ _ _ _ _ z => z.elim, fun _ _ _ _ _ z => z.elim, fun _ _ _ _ _ z => z.elim, fun v d σ2 H2 env2 E2 rr hq => ?_, fun _ _ _ _ _ _ _ _ _ z => z.elim⟩
    refine q4 v d σ2 H2 _ (ERep.blank E'.ok E2.base.unhold σ2) ?_ (hq.2 _)
    unfold RetRep at rr ⊢
    rw [hfr, if_neg Bool.false_ne_true] at rr ⊢
    have z := rr.hold (h := none) hq.1
    have e0 : (A.R.hold (some (a, C, dd))).hold none = A.R := by
      have e1 : A.R.hold none = A.R := by
        show ({ A.R with hx := none } : RC) = A.R
        rw [← h0]
      exact e1
    exact e0 ▸ z
end
end Nb
set_option maxRecDepth 100000
set_option maxHeartbeats 2000000
/-! Nb: defs that a suite calls; isinstance of the exception, its fields. -/
namespace Nb
open PySem PySem.Spec PyProof.Rows L2
/-- the context holds the exception at a -/
structure ExcAt (X : Cx) (a C : Addr) (d : Option Addr) : Prop where
  ex : ∃ oe vs, (a, oe) ∈ X.pn ∧ Zc (.ref C) d oe ∧ oe.data = .fields vs
theorem ExcAt.suite {X : Cx} {a C : Addr} {oe : Obj} {d : Option Addr} {pn : List (Addr × Obj)} (hz : Zc (.ref C) d oe) (hv : ∃ vs, oe.data = .fields vs) : ExcAt (X.suite a ((a, oe) :: pn)) a C d :=
  let ⟨vs, e⟩ := hv
  ⟨oe, vs, List.mem_cons_self, hz, e⟩
/-- a class whose instances are asked in a suite -/
structure XCls (K : PySem.W.Frag) (C : Addr) : Prop where
  cl : (PySem.W.clsIn K C).isSome = true
  ga : PySem.W.findIn K (.ref C) "__getattribute__" = some (some (.builtin "BaseException.__getattribute__"))
  gg : PySem.W.findIn K (.ref C) "__getattr__" = some none
  sb : PySem.W.subIn K (.ref C) (.type "BaseException") = some true
  hd : PySem.W.hasDictIn K C = true
  ca : PySem.W.findIn K (.ref C) "__class__" = some (some (.builtin "object.__class__"))
  sp : PySem.W.specialIn K (.builtin "object.__class__") "__get__" = some (some (.builtin "getset_descriptor.__get__"))
  tk : PySem.W.takesIn K (.builtin "object.__class__") = some true
  mo : PySem.W.mroIn K C (.type "object") = some true
/-- the exception's object in the heap, its dict too -/
theorem inst_at {X : Cx} {pins : List (Addr × Obj)} {σ : St} {H : Hp} {s : Shared} {a C : Addr} {d : Option Addr} (I : Inv X pins σ H s) (x : ExcAt X a C d) (hd : ∀ dd, d = some dd → ∃ fs, H dd = some (.xd fs)) : ∃ oe od, PySem.W.InstAt s.heap a oe C od := by
  obtain ⟨oe, vs, h1, h2, h3⟩ := x.ex
  obtain ⟨hg, _⟩ := I.pin (a, oe) (List.mem_append_left _ h1)
  have hn : PySem.W.notCls oe = true := by unfold PySem.W.notCls; rw [h3] <;> rfl
  cases d with
  | none => exact ⟨oe, none, hg, h2.1, hn, by rw [h2.2]; trivial⟩
  | some dd =>
    obtain ⟨fs, hf⟩ := hd dd rfl
    obtain ⟨mA, hns, _⟩ := I.hok dd _ hf
    obtain ⟨od, ho, _⟩ := lookIn_ns hns
    exact ⟨oe, some od, hg, h2.1, hn, by rw [h2.2]; exact ho⟩
/-- isinstance(e, c) -/
def rIsX (K : PySem.W.Frag) (a C : Addr) (d : Option Addr) : List V → Hp → VK → Prop := fun xs H Q => XCls K C ∧ (∀ dd, d = some dd → ∃ fs, H dd = some (.xd fs)) ∧ ∃ (c : V) (cv : Value) (b : Bool), xs = [.ref a, c] ∧ (∀ u, RelV c u → u = cv) ∧ PySem.W.kitOne K (.ref C) cv = some b ∧ Q (.bl b) H
theorem call_isX {X : Cx} {a C : Addr} {d : Option Addr} (x : ExcAt X a C d) : CallR X (.builtin "isinstance") (rIsX X.K a C d) := by
  intro pins s σ H xs us Q I r ⟨c, hd, cc, cv, b, e1, hcv, hk, q⟩
  subst e1
  match us, r with
  | [_, _], .cons rx (.cons rt .nil) =>
    obtain rfl := hcv _ rt
    cases rx
    obtain ⟨oe, od, J⟩ := inst_at I x hd
    exact PySem.W.kia_one (PySem.W.kitx_exc c.cl c.ga c.gg c.sb c.ca c.sp c.tk c.mo) I.kIn J hk (fun z => nomatch z) fun tk => ⟨.bl b, H, I.kept (t' := tk) fun _ _ z => z, rfl, q⟩
section
variable {X : Cx} {A : Act} {W : WX}
def disX (ok : Str → Prop) (S : Str → Bool) (g : DE) : DE := fun env Q Ed => g env (fun d => match d with
  | .exc n _ => ok n ∧ Q (.bl (S n))
  | _ => False) Ed
theorem exc_dict {R : RC} {M : Addr → Prop} {H : Hp} {v : V} {n : Str} {fs : List (Str × D)} (r : Rep R M H v (.exc n fs)) : ∃ a C d, v = .ref a ∧ R.hx = some (a, C, d) ∧ R.mg n = some (.ref C) ∧ (∀ dd, d = some dd → ∃ fv, H dd = some (.xd fv)) := by
  cases r with
  | exc0 h1 h2 => exact ⟨_, _, _, rfl, h1, h2, fun dd z => by cases z⟩
  | excF h1 h2 h3 h4 h5 => exact ⟨_, _, _, rfl, h1, h2, fun dd z => by cases z; exact ⟨_, h3⟩⟩
theorem ge_isX {a C : Addr} {d : Option Addr} {e ce : Expr} {g : DE} {cx : V} {cv : Value} {ok : Str → Prop} {S : Str → Bool} {p pos : Pos} (hx : A.R.hx = some (a, C, d)) (x : ExcAt X a C d) (c : ∀ n, ok n → A.R.mg n = some (.ref C) → XCls X.K C) (hg : Gl X "isinstance") (hm : X.mg "isinstance" = none) (he : GE X A W e g)
    (hc : PE X ce (tC cx)) (hcv : ∀ u, RelV cx u → u = cv) (hS : ∀ n, ok n → A.R.mg n = some (.ref C) → PySem.W.kitOne X.K (.ref C) cv = some (S n))
    (hP : ∀ r t, Gl X "isinstance" → X.mg "isinstance" = none → CallR X (.builtin "isinstance") r → PA X [e, ce] t → PE X (.Call (.Name "isinstance" p) [e, ce] [] pos) (tCB r t) := by exact fun r t hg hm c h => pe_callB c hg hm (by decide +kernel) h)
    (hA : ∀ te tc, PE X e te → PE X ce tc → PA X [e, ce] (tCons te (tCons tc tNil)) := by exact fun te tc h1 h2 => pa_cons h1 (pa_cons h2 pa_nil)) :
    GE X A W (.Call (.Name "isinstance" p) [e, ce] [] pos) (disX ok S g) := by
  refine ⟨pe_imp (hP _ _ hg hm (call_isX x) (hA _ _ he.p hc)) fun σ H Q ⟨env, Qd, Ed, E, h, q, xo⟩ => toE_step E h xo fun v dd H1 s1 E1 x1 r hd => ?_⟩
  match dd, r, hd with
  | .exc n fs, r, ⟨ho, hq⟩ =>
    obtain ⟨a', C', d', rfl, e1, e2, e3⟩ := exc_dict r
    rw [hx] at e1
    cases e1
    exact ⟨c n ho e2, e3, cx, cv, S n, rfl, hcv, hS n ho e2, q _ _ H1 s1 (.bl _) hq⟩
/-- e.f -/
def dxf (ok : Str → Prop) (f : Str) (g : DE) : DE := fun env Q Ed => g env (fun d => match d with
  | .exc n fs => ok n ∧ ∃ v, fs.lookup f = some v ∧ Q v
  | _ => False) Ed
theorem RepF.look {R : RC} {M : Addr → Prop} {H : Hp} {f : Str} {d : D} : ∀ {fv : List (Str × V)} {fs : List (Str × D)}, RepF R M H fv fs → fs.lookup f = some d → ∃ v, fv.lookup f = some v ∧ Rep R M H v d
  | _, _, .nil, e => by cases e
  | _, _, .cons (f := k) (v := v) a b, e => by
    by_cases c : (f == k) = true
    · rw [List.lookup, c] at e ⊢
      cases e
      exact ⟨v, rfl, a⟩
    · have c' : (f == k) = false := by simpa using c
      rw [List.lookup, c'] at e ⊢
      exact RepF.look b e
theorem ge_xf {a C : Addr} {d : Option Addr} {e : Expr} {g : DE} {f : Str} {ok : Str → Prop} {pos : Pos} (hx : A.R.hx = some (a, C, d)) (x : ExcAt X a C d) (c : ∀ n, ok n → A.R.mg n = some (.ref C) → XCls X.K C) (he : GE X A W e g) (hno : ∀ n, ok n → A.R.mg n = some (.ref C) → PySem.W.findIn X.K (.ref C) f = some none)
    (hb : attributeBase e f X.env (eval e X.env) = eval e X.env := by rfl) : GE X A W (.Attribute e f pos) (dxf ok f g) := by
  refine ⟨⟨fun pins s σ H Q I ⟨env, Qd, Ed, E, h, q, xo⟩ => ?_⟩⟩
  have go : toE A W g σ H fun v H1 => ∃ dd fv w, v = .ref a ∧ d = some dd ∧ H1 dd = some (.xd fv) ∧ fv.lookup f = some w ∧ XCls X.K C ∧ PySem.W.findIn X.K (.ref C) f = some none ∧ Q w H1 := by
    refine toE_step E h xo fun v dd H1 s1 E1 x1 r hd => ?_
    match dd, r, hd with
    | .exc n fs, r, ⟨ho, w, hl, hq⟩ =>
      cases r with
      | exc0 h1 h2 => cases hl
      | excF h1 h2 h3 h4 h5 =>
        rw [hx] at h1
        cases h1
        obtain ⟨u, hu, ru⟩ := h5.look hl
        exact ⟨_, _, u, rfl, rfl, h3, hu, c n ho h2, hno n ho h2, q u w H1 s1 ru hq⟩
  refine attr_of hb (thn (he.p.run pins s σ H _ I go) fun u s1 hh => ?_)
  obtain ⟨v, H1, I1, rv, dd, fv, w, e1, e2, e3, e4, c, e5, hq⟩ := hh
  subst e1
  subst e2
  obtain rfl : u = Value.ref a := rv
  obtain ⟨oe, vs, m1, m2, m3⟩ := x.ex
  obtain ⟨hget, _⟩ := I1.pin (a, oe) (List.mem_append_left _ m1)
  obtain ⟨mA, hns, hr⟩ := I1.hok dd _ e3
  obtain ⟨od, ho, hl⟩ := lookIn_ns hns
  obtain ⟨y, hy, ry⟩ := RelO.some_of (v := w) (o := mA f) (by rw [← e4]; exact hr f)
  have J : PySem.W.InstAt s1.heap a oe C (some od) := ⟨hget, m2.1, by unfold PySem.W.notCls; rw [m3] <;> rfl, by rw [m2.2]; exact ho⟩
  exact HandSPX.exc_get I1.kIn J c.ga c.gg c.sb (PySem.W.findObj_own c.hd e5 rfl (by rw [hl, hy])) (handed_of ry) ⟨w, H1, I1.tok _, ry, hq⟩
end
end Nb
set_option maxRecDepth 100000
set_option maxHeartbeats 2000000
/-! Nb: defs that a suite calls. -/
namespace Nb
open PySem PySem.Spec PyProof.Rows L2
def spQ (K : PySem.W.Frag) (mg : Str → Option Value) (fr : Bool) (S : DSp) (p : Addr × Obj) : Sp := fun vs H Q E => ∃ (R : RC) (M : Addr → Prop) (ds : List D) (Qd : D → Prop) (C : Addr) (d : Option Addr),
  (R.K = K ∧ R.mg = mg) ∧ (R.hx = some (p.1, C, d) ∧ Zc (.ref C) d p.2 ∧ ∃ ws, p.2.data = .fields ws) ∧ HInv R H ∧ (∀ a, R.st = some a → M a) ∧ (∀ a, M a → H a ≠ none) ∧ RepL R M H vs ds ∧ S ds Qd (fun _ => False) ∧
  ∀ v d H', Stp R H H' → OutRep R M H H' fr v d → Qd d → Q v H'
structure FnQ (P : Program) (w : World) (K : PySem.W.Frag) (mg : Str → Option Value) (base : Heap) (k : Nat) (f : Addr) (fd : FuncData) (ps : List Str) (fr : Bool) (S : DSp) : Prop where
  len : ∀ ds Qd Ed, S ds Qd Ed → ds.length = ps.length
  run : ∀ (Ar : Around) (outer : List Env) (s : Shared) (H : Hp) (args : Args) (us : List Value) (vs : List V) (Q : VK) (E : XK) (p : Addr × Obj), L2H.RoomH k Ar → L2H.PinOk outer H s p → Env0 P w K mg base Ar outer s H → BindsTo s fd args (ps.zip us) → Vals vs us →
    spQ K mg fr S p vs H Q E → codeAny (model P w) Ar (.call (.ref f) args) (CR (L2.CX P w) outer P w H s Q E) s
structure HasQ (P : Program) (w : World) (K : PySem.W.Frag) (mg : Str → Option Value) (base : Heap) (x : Str) (k : Nat) (fr : Bool) (S : DSp) : Prop where
  ex : ∃ f fd ps, FnQ P w K mg base k f fd ps fr S ∧ mg x = some (.ref f) ∧ PySem.W.keepIn K (.ref f) = true ∧ Binds K fd ps []
section
variable {P : Program} {w : World} {K : PySem.W.Frag} {mg : Str → Option Value} {base : Heap}
/-- the context of such a def's body -/
abbrev cxQ (P : Program) (w : World) (K : PySem.W.Frag) (mg : Str → Option Value) (base : Heap) (N : List Str) (qual : Str) (scope : Scope) (f : Addr) (cd : Value) (A : Around) (outer : List Env) (s : Shared) (H : Hp) (E : XK) (p : Addr × Obj) : Cx :=
  { cxOf (L2.CX P w) P w K mg base N qual scope f cd A outer s H E with calm := false, pn := [p] }
theorem fnq_ok {x qual : Str} {st : Stmt} {f : Addr} {fd : FuncData} {N ps : List Str} {k : Nat} {fr : Bool} {S : DSp} (F : Fun K x qual st f fd) (sc : FnScope N ps (defScope st)) (len : ∀ ds Qd Ed, S ds Qd Ed → ds.length = ps.length)
    (hb : ∀ (cdv : Value) (Ar : Around) (outer : List Env) (s : Shared) (H : Hp) (E : XK) (R : RC) (M : Addr → Prop) (ds : List D) (Qd : D → Prop) (p : Addr × Obj) (C : Addr) (d : Option Addr), L2H.RoomH k (Ar.deeper (envOfC qual (defScope st) s.heap.objs.size f cdv)) → R.K = K → R.mg = mg →
      R.hx = some (p.1, C, d) → Zc (.ref C) d p.2 → (∃ ws, p.2.data = .fields ws) → S ds Qd (fun _ => False) →
      ∃ g, GSs (cxQ P w K mg base N qual (defScope st) f cdv Ar outer s H E p) ⟨R, H, M, fr⟩ W0 (defBody st) g ∧ g (endD fr Qd fun _ => False) (startD N ds)) :
    FnQ P w K mg base (k + 1) f fd ps fr S := by
  obtain ⟨oc, od, kV, doc, pm, an, cdv, ct, osl, rfl, lk, hcd⟩ := F.ex
  refine ⟨len, fun Ar outer s H args us vs Q E p hr hpin e0 hbi r ⟨R, M, ds, Qd, C, d, ⟨hK, hm⟩, ⟨hx, hz, hw⟩, hi, hM1, hM2, rr, hS, q⟩ => ?_⟩
  have inK : K.In s.heap := e0.mod.kin.keeps fun b o e => (e0.bs b o e).1
  have nolim : s.heap.NoLimit := e0.mod.nolimit.keeps fun b o e => (e0.bs b o e).1
  have kinds : ∀ y ∈ ps.zip us, (defScope st).names.lookup y.1 = some .local ∨ ((defScope st).names.lookup y.1 = some .cell ∧ ((cellsFrom (s.heap.objs.size + 1) (defScope st).names []).lookup y.1).isSome = true) := by
    rintro ⟨n, v⟩ hy
    rcases sc.par n (List.of_mem_zip hy).1 with z | z
    · exact Or.inl z
    · exact Or.inr ⟨z, PySem.W.cellsFrom_some _ _ _ (Or.inl z)⟩
  refine codeAny_call_function hr.depth (inK _ _ lk) rfl sc.co sc.gen rfl (PySem.W.codeRec_of inK hcd) (hbi _ _ _ _ (wpAny_newFunctionEnv_cells sc.kind kinds fun env he s1 y => ?_))
  subst he
  refine ⟨nolim.keeps y.toInCall.keep, codeAny_func ?_⟩
  obtain ⟨g, G, hg⟩ := hb cdv Ar outer s H E R M ds Qd p C d (hr.deeper _) hK hm hx hz hw hS
  have I : Inv (cxQ P w K mg base N qual (defScope st) f cdv Ar outer s H E p) [] (L2.start N vs) H s1 := L2H.inv_startH sc hpin e0 (rr.length.trans (len _ _ _ hS)) r y
  have ok : Act.Ok ⟨R, H, M, fr⟩ := ⟨hi, hM1, hM2⟩
  have Es : ERep ⟨R, H, M, fr⟩ H (L2.start N vs) (startD N ds) := erep_start (A := ⟨R, H, M, fr⟩) ok rr
  have want : toS ⟨R, H, M, fr⟩ W0 g { nx := fun _ H' => Q .non H', rt := Q } (L2.start N vs) H := by
    refine ⟨startD N ds, _, Es, hg, fun σ' H' env' _ E' hq => ?_, fun _ _ _ _ _ z => z.elim, fun _ _ _ _ _ z => z.elim, fun v d σ' H' env' E' ro hq => q v d H' E'.base ro hq, fun _ _ _ _ _ _ _ _ _ z => z.elim⟩
    refine q .non .non H' E'.base ?_ hq.2
    unfold OutRep
    rw [hq.1, if_neg Bool.false_ne_true]
    exact .non
  refine wpAny_mono (G.p.run [] s1 (L2.start N vs) H _ I want) (fun fl s' hs => ?_) fun _ _ z => z
  cases fl with
  | ret u => exact (let ⟨v, σ', H', J, rv, qq⟩ := hs; ⟨v, H', J.os, J.bare, J.base, J.hok, rv, qq⟩)
  | next => exact (let ⟨σ', H', J, qq⟩ := hs; ⟨V.non, H', J.os, J.bare, J.base, J.hok, rfl, qq⟩)
  | brk => exact (let ⟨_, _, _, z⟩ := hs; False.elim z)
  | cont => exact (let ⟨_, _, _, z⟩ := hs; False.elim z)
end
section
variable {X : Cx} {A : Act} {W : WX}
/-- the promise at a call in a suite -/
theorem pe_callQ {x : Str} {k : Nat} {fr : Bool} {S : DSp} {e : Expr} {es : List Expr} {t : TA} {q pos : Pos} {a C : Addr} {d : Option Addr} {oe : Obj} (h : HasQ X.prog X.w X.K X.mg X.base x k fr S) (hr : L2H.RoomH k X.A) (hp : (a, oe) ∈ X.pn) (hg : Gl X x) (ha : PA X (e :: es) t) (hdb : (x == ("__debug__" : Str)) = false)
    (he : starEach (e :: es) X.env = (false, eval e X.env) :: starEach es X.env) (hpl : (backTo pos (starEach es X.env)).any (·.1) = false) :
    PE X (.Call (.Name x q) (e :: es) [] pos) (fun σ H Q => t σ H fun vs H1 => spQ X.K X.mg fr S (a, oe) vs H1 Q (fun _ _ _ => False)) := by
  obtain ⟨f, fd, ps, F, hm, hk, hb⟩ := h.ex
  refine ⟨fun pins s σ H Q I w => ?_⟩
  refine wpAny_Call_Name_kw (ld_glob I hg hm ?_ hdb)
  refine PySem.W.callWith_K (h₀ := X.base) I.ok.mod.kin hk (thn (ha.run pos pins s σ H _ I w) fun us s1 ⟨vs, H1, I1, r, w1⟩ => ⟨I1.kIn, ?_⟩) he hpl
  have n1 : us.length = ps.length := by
    obtain ⟨R, M, ds, Qd, C', d', _, _, _, _, _, rr, hS, _⟩ := w1
    rw [← r.length, rr.length]
    exact F.len _ _ _ hS
  have b := hb s1 us I1.kIn (by rw [List.append_nil]; exact n1)
  rw [List.append_nil] at b
  obtain ⟨g1, g2, g3, g4, g5⟩ := I1.pin (a, oe) (List.mem_append_left _ hp)
  have pin : L2H.PinOk X.stack H1 s1 (a, oe) := ⟨g1, g2, fun z => (List.mem_cons.mp (I1.stkSub a z)).elim g3 g4, g5⟩
  show wpAny (model X.prog X.w) X.A (call (.ref f) ([] ++ us)) _ _ _
  refine wpAny_call (codeAny_mono (F.run X.A X.stack s1 H1 ⟨us, []⟩ us vs Q (fun _ _ _ => False) (a, oe) hr pin I1.env0 b r w1) fun r2 s' hq => ?_)
  cases r2 with
  | error e =>
    obtain ⟨_, _, _, _, _, _, _, _, _, _, _, _, z⟩ := hq
    exact z.elim
  | ok fl =>
    cases fl with
    | ret u => exact I1.after hq
    | next => exact hq.elim
    | brk => exact hq.elim
    | cont => exact hq.elim
def dcallQ (S : DSp) (gs : DL) : DE := fun env Q Ed => gs env (fun ds => S ds Q fun _ => False) Ed
def dcallQF (S : DSp) (gs : DL) : DF := fun env Q Ed => gs env (fun ds => S ds (fun d => match d with
  | .lst es => Q es
  | _ => False) fun _ => False) Ed
theorem spQ_of {fr : Bool} {S : DSp} {σ : St} {H1 : Hp} {env : DEnv} {vs : List V} {ds : List D} {Q : VK} {Qd : D → Prop} {K : PySem.W.Frag} {mg : Str → Option Value} {a C : Addr} {oe : Obj} {d : Option Addr} (hK : A.R.K = K) (hm : A.R.mg = mg) (hx : A.R.hx = some (a, C, d)) (hz : Zc (.ref C) d oe) (hv : ∃ ws, oe.data = .fields ws)
    (E1 : ERep A H1 σ env) (r : RepL A.R (MM A σ env) H1 vs ds) (hS : S ds Qd fun _ => False) (q : ∀ v d H', Stp A.R H1 H' → OutRep A.R (MM A σ env) H1 H' fr v d → Qd d → Q v H') : spQ K mg fr S (a, oe) vs H1 Q fun _ _ _ => False :=
  ⟨A.R, MM A σ env, ds, Qd, C, d, ⟨hK, hm⟩, ⟨hx, hz, hv⟩, E1.inv, E1.mst, fun a z => E1.mtrk z, r, hS, q⟩
theorem ge_callQ {x : Str} {k : Nat} {S : DSp} {e : Expr} {es : List Expr} {gs : DL} {q pos : Pos} {a C : Addr} {d : Option Addr} (h : HasQ X.prog X.w X.K X.mg X.base x k false S) (hr : L2H.RoomH k X.A) (hx : A.R.hx = some (a, C, d)) (xa : ExcAt X a C d) (ha : GL X A W (e :: es) gs) (hK : A.R.K = X.K := by rfl) (hm : A.R.mg = X.mg := by rfl) (hg : Gl X x := by rfl)
    (hdb : (x == ("__debug__" : Str)) = false := by decide) (he : starEach (e :: es) X.env = (false, eval e X.env) :: starEach es X.env := by rfl) (hpl : (backTo pos (starEach es X.env)).any (·.1) = false := by rfl) : GE X A W (.Call (.Name x q) (e :: es) [] pos) (dcallQ S gs) := by
  obtain ⟨oe, vs, m1, m2, m3⟩ := xa.ex
  refine ⟨pe_imp (pe_callQ (oe := oe) (a := a) (C := C) (d := d) h hr m1 hg ha.p hdb he hpl) fun σ H Q ⟨env, Qd, Ed, E, w, q, xo⟩ => ?_⟩
  refine ⟨env, _, Ed, E, w, fun us ds H1 s r hS => spQ_of hK hm hx m2 ⟨vs, m3⟩ (E.stp s) r hS fun v dd H' s2 r2 hq => ?_, xo⟩
  unfold OutRep at r2
  rw [if_neg Bool.false_ne_true] at r2
  exact q v dd H' (s.trans s2) r2 hq
theorem gf_callQ {x : Str} {k : Nat} {S : DSp} {e : Expr} {es : List Expr} {gs : DL} {q pos : Pos} {a C : Addr} {d : Option Addr} (h : HasQ X.prog X.w X.K X.mg X.base x k true S) (hr : L2H.RoomH k X.A) (hx : A.R.hx = some (a, C, d)) (xa : ExcAt X a C d) (ha : GL X A W (e :: es) gs) (hK : A.R.K = X.K := by rfl) (hm : A.R.mg = X.mg := by rfl) (hg : Gl X x := by rfl)
    (hdb : (x == ("__debug__" : Str)) = false := by decide) (he : starEach (e :: es) X.env = (false, eval e X.env) :: starEach es X.env := by rfl) (hpl : (backTo pos (starEach es X.env)).any (·.1) = false := by rfl) : GF X A W (.Call (.Name x q) (e :: es) [] pos) (dcallQF S gs) := by
  obtain ⟨oe, vs, m1, m2, m3⟩ := xa.ex
  refine ⟨pe_imp (pe_callQ (oe := oe) (a := a) (C := C) (d := d) h hr m1 hg ha.p hdb he hpl) fun σ H Q ⟨env, Qd, Ed, E, w, q, xo⟩ => ?_⟩
  refine ⟨env, _, Ed, E, w, fun us ds H1 s r hS => spQ_of hK hm hx m2 ⟨vs, m3⟩ (E.stp s) r hS fun v dd H' s2 r2 hq => ?_, xo⟩
  unfold OutRep at r2
  rw [if_pos rfl] at r2
  obtain ⟨p, us', es', rfl, rfl, hp, h1, r3⟩ := r2
  exact q p us' es' H' (Stp.none E.inv s hp) (s.trans s2) h1 r3 hq
end
end Nb
set_option maxRecDepth 100000
set_option maxHeartbeats 2000000
/-! Nb: exceptions by the names of their classes. -/
namespace Nb
open PySem PySem.Spec PyProof.Rows L2
/-- the classes of the exceptions that are raised: what is asked of their instances -/
structure Kinds (K : PySem.W.Frag) (mg : Str → Option Value) (ok : Str → Prop) : Prop where
  cls : ∀ n C, ok n → mg n = some (.ref C) → XCls K C
/-- isinstance(e, x), x an own class -/
structure IsC (K : PySem.W.Frag) (mg : Str → Option Value) (ok : Str → Prop) (x : Str) (S : Str → Bool) : Prop where
  ex : ∃ C', mg x = some (.ref C') ∧ ∀ n C, ok n → mg n = some (.ref C) → PySem.W.kitOne K (.ref C) (.ref C') = some (S n)
/-- except x -/
structure CatchC (K : PySem.W.Frag) (mg : Str → Option Value) (ok : Str → Prop) (x : Str) : Prop where
  ex : ∃ C', mg x = some (.ref C') ∧ ∀ n C, ok n → mg n = some (.ref C) → PySem.W.exmOne K (.ref C) (.ref C') = some true
/-- raise x(..), one field -/
structure Rai1 (P : Program) (K : PySem.W.Frag) (mg : Str → Option Value) (x f : Str) (st : Stmt) : Prop where
  ex : ∃ C fI, SupTxt P K mg x C fI [f] st
  tx : Init1 st f
section
variable {X : Cx} {A : Act} {W : WX}
theorem ge_isC {a C : Addr} {d : Option Addr} {e : Expr} {g : DE} {x : Str} {ok : Str → Prop} {S : Str → Bool} {p p2 pos : Pos} (hx : A.R.hx = some (a, C, d)) (xa : ExcAt X a C d) (k : Kinds X.K X.mg ok) (i : IsC X.K X.mg ok x S) (hm : X.mg "isinstance" = none) (he : GE X A W e g) (hR : A.R.mg = X.mg := by rfl) (hg : Gl X "isinstance" := by rfl)
    (hgx : Gl X x := by rfl) (hd : (x == ("__debug__" : Str)) = false := by decide)
    (hP : ∀ r t, Gl X "isinstance" → X.mg "isinstance" = none → CallR X (.builtin "isinstance") r → PA X [e, .Name x p2] t → PE X (.Call (.Name "isinstance" p) [e, .Name x p2] [] pos) (tCB r t) := by exact fun r t hg hm c h => pe_callB c hg hm (by decide +kernel) h)
    (hA : ∀ te tc, PE X e te → PE X (.Name x p2) tc → PA X [e, .Name x p2] (tCons te (tCons tc tNil)) := by exact fun te tc h1 h2 => pa_cons h1 (pa_cons h2 pa_nil)) :
    GE X A W (.Call (.Name "isinstance" p) [e, .Name x p2] [] pos) (disX ok S g) := by
  obtain ⟨C', h1, h2⟩ := i.ex
  refine ge_isX (cx := .ref C') (cv := .ref C') hx xa (fun n ho hn => k.cls n C ho (by rw [← hR]; exact hn)) hg hm he (pe_glob hgx h1 rfl hd) (fun u r => r) (fun n ho hn => h2 n C ho (by rw [← hR]; exact hn)) hP hA
/-- isinstance(e, ValueError) -/
theorem ge_isV {a C : Addr} {d : Option Addr} {e : Expr} {g : DE} {x : Str} {T : String} {ok : Str → Prop} {S : Str → Bool} {p p2 pos : Pos} (hx : A.R.hx = some (a, C, d)) (xa : ExcAt X a C d) (k : Kinds X.K X.mg ok) (i : ∀ n C, ok n → X.mg n = some (.ref C) → PySem.W.kitOne X.K (.ref C) (.type T) = some (S n)) (hm : X.mg "isinstance" = none) (hx2 : X.mg x = none) (he : GE X A W e g) (hv : bootBuiltins x = some (.type T)) (hR : A.R.mg = X.mg := by rfl) (hg : Gl X "isinstance" := by rfl)
    (hgx : Gl X x := by rfl) (hc : Gl X x → X.mg x = none → bootBuiltins x = some (.type T) → PE X (.Name x p2) (tC (.ty T)) := by exact fun hg hm hv => pe_bltn hg hm hv rfl)
    (hP : ∀ r t, Gl X "isinstance" → X.mg "isinstance" = none → CallR X (.builtin "isinstance") r → PA X [e, .Name x p2] t → PE X (.Call (.Name "isinstance" p) [e, .Name x p2] [] pos) (tCB r t) := by exact fun r t hg hm c h => pe_callB c hg hm (by decide +kernel) h)
    (hA : ∀ te tc, PE X e te → PE X (.Name x p2) tc → PA X [e, .Name x p2] (tCons te (tCons tc tNil)) := by exact fun te tc h1 h2 => pa_cons h1 (pa_cons h2 pa_nil)) :
    GE X A W (.Call (.Name "isinstance" p) [e, .Name x p2] [] pos) (disX ok S g) :=
  ge_isX (cx := .ty T) (cv := .type T) hx xa (fun n ho hn => k.cls n C ho (by rw [← hR]; exact hn)) hg hm he (hc hgx hx2 hv) (fun u r => r) (fun n ho hn => i n C ho (by rw [← hR]; exact hn)) hP hA
theorem ge_fld {a C : Addr} {d : Option Addr} {e : Expr} {g : DE} {f : Str} {ok : Str → Prop} {pos : Pos} (hx : A.R.hx = some (a, C, d)) (xa : ExcAt X a C d) (k : Kinds X.K X.mg ok) (hno : ∀ n C, ok n → X.mg n = some (.ref C) → PySem.W.findIn X.K (.ref C) f = some none) (he : GE X A W e g) (hR : A.R.mg = X.mg := by rfl)
    (hb : attributeBase e f X.env (eval e X.env) = eval e X.env := by rfl) : GE X A W (.Attribute e f pos) (dxf ok f g) :=
  ge_xf hx xa (fun n ho hn => k.cls n C ho (by rw [← hR]; exact hn)) he (fun n ho hn => hno n C ho (by rw [← hR]; exact hn)) hb
theorem gs_rai1 {x f : Str} {a : Expr} {g : DE} {st : Stmt} {p pos pos2 : Pos} {k : Nat} (T : Rai1 X.prog X.K X.mg x f st) (hr : Room k X.A) (tk : Takes X W) (ha : GE X A W a g) (hc : X.calm = true := by rfl) (hm : A.R.mg = X.mg := by rfl) (hg : Gl X x := by rfl) (hdb : (x == ("__debug__" : Str)) = false := by decide)
    (hA : GE X A W a g → GL X A W [a] (dcons g dnil) := by exact fun h => gl_cons h gl_nil)
    (he : starEach (a :: []) X.env = (false, eval a X.env) :: starEach [] X.env := by rfl) (hpl : (backTo pos (starEach [] X.env)).any (·.1) = false := by rfl) :
    GS X A W (.Raise (some (.Call (.Name x p) [a] [] pos)) none pos2) (draise1 x f g) := by
  obtain ⟨C, fI, S⟩ := T.ex
  exact gs_raise1 hc S T.tx hr tk ha hg hm hdb hA he hpl
theorem gs_tryC {x n : Str} {i : Nat} {body suite : List Stmt} {b₀ : Stmt} {np pos pos' : Pos} {ok : Str → Prop} {s u : DS} (hc : CatchC X.K X.mg ok x) (h0 : A.R.hx = none) (tk : Takes X W) (hN : X.N.Nodup) (hi : X.N[i]? = some n)
    (hb : ∀ (W : WX) (pn : List (Addr × Obj)) (xe : Value → Shared → Prop), Takes (X.tr pn xe) W → PassesOwn (model X.prog X.w) X.A X.env xe → GSs (X.tr pn xe) A W body s)
    (hsu : ∀ (a C : Addr) (oe : Obj) (d : Option Addr) (pn : List (Addr × Obj)), Zc (.ref C) d oe → (∃ vs, oe.data = .fields vs) → GSs (X.suite a ((a, oe) :: pn)) (A.hold (some (a, C, d))) W0 (b₀ :: suite) u) (hR : A.R.mg = X.mg := by rfl) (hfr : A.fr = false := by rfl)
    (hs : X.stack = X.env :: X.outer := by rfl) (hf : X.env.frame = some X.env.locals := by rfl) (hln : X.env.kindOf n = some .local := by rfl) (hg : Gl X x := by rfl) (hd : (x == ("__debug__" : Str)) = false := by decide) :
    GS X A W (.Try body [.ExceptHandler (some (.Name x np)) (some n) (b₀ :: suite) pos'] [] [] pos) (dtry ok i s u) := by
  obtain ⟨C', h1, h2⟩ := hc.ex
  exact gs_try (c := .ref C') h0 hfr hs hf hN hi hln ⟨hg, hd, .inl h1⟩ tk (fun m C ho hm => h2 m C ho (by rw [← hR]; exact hm)) hb hsu
end
end Nb
namespace Nb
open PySem PySem.Spec PyProof.Rows L2
theorem room_unitsH {k : Nat} {A : Around} (r : L2H.RoomH k A) : A.units + 64 < cLine := by
  have := r.un
  omega
theorem roomS {k : Nat} {A : Around} {m : Option Value} (r : Room k A) : L2H.RoomH k (A.mark m) := ⟨r.dp, r.un⟩
theorem ExcAt.pin {X : Cx} {p : Addr × Obj} {C : Addr} {d : Option Addr} (hz : Zc (.ref C) d p.2) (hw : ∃ ws, p.2.data = .fields ws) (hp : X.pn = [p] := by rfl) : ExcAt X p.1 C d :=
  let ⟨ws, e⟩ := hw
  ⟨p.2, ws, by rw [hp]; exact List.mem_cons_self, hz, e⟩
end Nb
set_option maxRecDepth 100000
set_option maxHeartbeats 2000000
/-! Nb: the store. -/
namespace Nb
open PySem PySem.Spec PyProof.Rows L2
section
variable {A : Act} {H : Hp} {σ : St} {env : DEnv}
/-- the store's list as it stands -/
theorem ERep.sto (E : ERep A H σ env) {i : Nat} (h : env[i]? = some (.val .sto)) : ∃ a ns, A.R.st = some a ∧ σ[i]? = some (some (.ref a)) ∧ H a = some (.lst (ns.map V.int)) ∧ InvS ns := by
  obtain ⟨v, h1, h2⟩ := E.val i _ h
  cases h2 with
  | sto e =>
    obtain ⟨ns, h3, h4⟩ := E.inv _ e
    exact ⟨_, ns, e, h1, h3, h4⟩
/-- the store takes other numbers -/
theorem Stp.sto {R : RC} {a : Addr} {ns : List Int} (e : R.st = some a) (h : InvS ns) : Stp R H (upd H a (.lst (ns.map V.int))) := by
  refine ⟨fun b o q n => ?_, fun _ b q => ?_⟩
  · rw [upd_ne fun z => n (by rw [z]; exact e)]
    exact q
  · rw [e] at q
    cases q
    exact ⟨ns, upd_same, h⟩
end
theorem InvS.set {ns : List Int} {k : Nat} {z : Int} (h : InvS ns) (hz : SOK k z) : InvS (ns.set k z) := by
  refine ⟨by rw [List.length_set]; exact h.1, fun j y e => ?_⟩
  rw [get_set] at e
  split at e
  · rename_i c
    cases e
    rw [← c.1]
    exact hz
  · exact h.2 j y e
section
variable {X : Cx} {A : Act} {W : WX}
/-- store[k], k a constant -/
def dixS (i k : Nat) : DE := fun env Q _ => env[i]? = some (.val .sto) ∧ ∀ z, SOK k z → Q (.int z)
theorem ixn_nat {n k : Nat} (h : k < n) : ixN n (k : Nat) = some k := by
  unfold ixN
  rw [if_pos (by omega)]
  have h1 : (k : Int) < n := by omega
  first
  | (rw [if_pos (by omega)]; simp)
  | simp [h1]
theorem ge_ixS {i k : Nat} {c : Int} {a : Expr} {j : Nat} {p pos : Pos} (ha : PE X a (tVar i)) (hk : k < 5 := by decide) (hc : c = (k : Nat) := by rfl) : GE X A W (.Subscript a (.Constant (.int c) j p) pos) (dixS i k) := by
  refine ⟨pe_imp (pe_ix ix_seq ha pe_int (fun _ _ => rfl)) fun σ H Q ⟨env, Qd, Ed, E, ⟨h, hq⟩, q, x⟩ => ?_⟩
  subst hc
  obtain ⟨b, ns, h1, h2, h3, h4⟩ := E.sto h
  have hlt : k < ns.length := by have := h4.1.1; omega
  refine ⟨.ref b, h2, .inl ⟨b, ns.map V.int, (k : Nat), .int ns[k], rfl, rfl, SqL.of h3, ?_, q _ _ H (Stp.refl _ _) (.int _) (hq _ (h4.2 k _ (List.getElem?_eq_getElem hlt)))⟩⟩
  unfold L2.atI
  rw [List.length_map, ixn_nat hlt, Option.bind_some, List.getElem?_map, List.getElem?_eq_getElem hlt]
  rfl
/-- store[k] = e -/
def dsetS (i k : Nat) (g : DE) : DS := fun K env => env[i]? = some (.val .sto) ∧ g env (fun d => match d with
  | .int z => SOK k z ∧ K.nx env
  | _ => False) fun x => K.ex x env
theorem gs_setS {i k : Nat} {c : Int} {o e : Expr} {g : DE} {j : Nat} {p pos spos : Pos} (ho : PE X o (tVar i)) (he : GE X A W e g) (hk : k < 5 := by decide) (hc : c = (k : Nat) := by rfl)
    (hg : PE X o (tVar i) → PG X (.Subscript o (.Constant (.int c) j p) spos) (gSub (tVar i) (tC (.int c)) rSetL) := by exact fun ho => pg_sub ho pe_int set_list)
    (hs : swapsWithSole [.Subscript o (.Constant (.int c) j p) spos] e pos.line X.env = pure false := by rfl) (hw : swappedStores [.Subscript o (.Constant (.int c) j p) spos] e X.env = pure none := by rfl)
    (h1 : (assignEach [.Subscript o (.Constant (.int c) j p) spos] X.env).map (·.2) = [assign (.Subscript o (.Constant (.int c) j p) spos) X.env] := by rfl) : GS X A W (.Assign [.Subscript o (.Constant (.int c) j p) spos] e pos) (dsetS i k g) := by
  refine ⟨ps_imp (ps_asg he.p (hg ho) hs hw h1) fun De σ H ⟨env, K, E, ⟨h, hq⟩, q1, q2, q3, q4, q5⟩ => ?_⟩
  refine toE_step E hq (xout_of E q5) fun v d H1 s E1 x1 r hd => ?_
  match d, r, hd with
  | .int z, .int _, ⟨hz, hn⟩ =>
    obtain ⟨b, ns, e1, e2, e3, e4⟩ := E1.sto h
    have hlt : k < ns.length := by have := e4.1.1; omega
    refine ⟨.ref b, e2, b, ns.map V.int, c, k, rfl, rfl, e3, by rw [List.length_map, hc]; exact ixn_nat hlt, ?_⟩
    have s2 : Stp A.R H1 (upd H1 b (.lst ((ns.set k z).map V.int))) := Stp.sto e1 (e4.set hz)
    rw [List.map_set] at s2
    exact q1 σ _ env ((E.keep s).trans (E1.keep s2)) (E1.stp s2) hn
/-- new = xs + ys -/
def dAddF (x y : D) (Q : List D → Prop) : Prop := match x, y with
  | .lst i, .lst j => i.length + j.length ≤ LINE ∧ Q (i ++ j)
  | _, _ => False
def dopF (f : D → D → (List D → Prop) → Prop) (ga gb : DE) : DF := fun env Q Ed => ga env (fun x => gb env (fun y => f x y Q) Ed) Ed
theorem gf_add {a b : Expr} {pos} {ga gb : DE} (ha : GE X A W a ga) (hb : GE X A W b gb) : GF X A W (.BinOp a .Add b pos) (dopF dAddF ga gb) := by
  refine ⟨pe_imp (pe_op op_cat ha.p hb.p) fun σ H Q ⟨env, Qd, Ed, E, h, q, x⟩ => ?_⟩
  refine toE_step E h x fun v d H1 s1 E1 x1 r1 h1 => toE_step E1 h1 x1 fun w e H2 s2 E2 x2 r2 h2 => ?_
  match d, e, r1, r2, h2 with
  | .lst i, .lst j, .lst (a := a) (xs := xs) e1 n1 rl1, .lst (a := b) (xs := ys) e2 n2 rl2, ⟨hz, hq⟩ =>
    have r3 : Rep A.R (MM A σ env) H2 (.ref a) (.lst i) := Rep.keep (E1.keep s2) (.lst e1 n1 rl1)
    cases r3 with
    | lst e3 n3 rl3 =>
      rename_i xs'
      refine ⟨a, b, _, ys, rfl, rfl, e3, e2, by rw [rl3.length, rl2.length, line_is]; exact hz, fun p hp => ?_⟩
      have s : Stp A.R H2 (upd H2 p (.lst (xs' ++ ys))) := Stp.new hp
      exact q p _ _ _ (Stp.none E.inv (s1.trans s2) hp) ((s1.trans s2).trans s) upd_same ((rl3.append rl2).keep ⟨(E2.keep s).k, fun a z => z.elim .inl fun z => .inr (by rw [z]; exact hp)⟩) hq
end
/-! ### a new store is lent -/
def D.sc : D → Bool
  | .non => true
  | .bl _ => true
  | .int _ => true
  | .str _ => true
  | _ => false
theorem Rep.scal {R R' : RC} {M M' : Addr → Prop} {H H' : Hp} {v : V} {d : D} (r : Rep R M H v d) (h : d.sc = true) : Rep R' M' H' v d := by
  cases r <;> first | (cases h; done) | constructor
mutual
def D.nosto : D → Bool
  | .sto => false
  | .tup ds => D.nostoL ds
  | .lst ds => D.nostoL ds
  | .exc _ fs => D.nostoF fs
  | .ins _ fs => D.nostoF fs
  | _ => true
def D.nostoL : List D → Bool
  | [] => true
  | d :: ds => D.nosto d && D.nostoL ds
def D.nostoF : List (Str × D) → Bool
  | [] => true
  | (_, d) :: ds => D.nosto d && D.nostoF ds
end
abbrev RC.with (R : RC) (a : Addr) : RC := { R with st := some a }
section
variable {R : RC} {M : Addr → Prop} {H : Hp} {a : Addr}
mutual
theorem Rep.with (e : R.st = none) : ∀ {v : V} {d : D}, Rep R M H v d → Rep (R.with a) M H v d
  | _, _, .non => .non
  | _, _, .bl b => .bl b
  | _, _, .int i => .int i
  | _, _, .str x => .str x
  | _, _, .ty n => .ty n
  | _, _, .tup t l => .tup t (RepL.with e l)
  | _, _, .lst t n l => .lst t n (RepL.with e l)
  | _, _, .sto q => by rw [e] at q; cases q
  | _, _, .exc0 x y => .exc0 x y
  | _, _, .excF x y z n l => .excF x y z n (RepF.with e l)
  | _, _, .ins t n b l => .ins t n b (RepF.with e l)
  | _, _, .dct t n => .dct t n
theorem RepL.with (e : R.st = none) : ∀ {v : List V} {d : List D}, RepL R M H v d → RepL (R.with a) M H v d
  | _, _, .nil => .nil
  | _, _, .cons x y => .cons (Rep.with e x) (RepL.with e y)
theorem RepF.with (e : R.st = none) : ∀ {v : List (Str × V)} {d : List (Str × D)}, RepF R M H v d → RepF (R.with a) M H v d
  | _, _, .nil => .nil
  | _, _, .cons x y => .cons (Rep.with e x) (RepF.with e y)
end
end
section
variable {X : Cx} {A : Act} {W : WX}
/-- from here on the list of slot i is the store, to the def's end -/
def dlend (i : Nat) (g : DS) : DS := fun K env => ∃ ns, env[i]? = some (.own (ns.map D.int)) ∧ InvS ns ∧
  g { nx := fun _ => False, rt := fun d _ => d.sc = true ∧ ∀ e, K.rt d e, ex := fun _ _ => False } ((env.map unown).set i (.val .sto))
theorem gss_lend {i : Nat} {body : List Stmt} {g : DS} (h0 : A.R.st = none) (hfr : A.fr = false) (hb : ∀ B : Act, B.R.K = A.R.K → B.R.mg = A.R.mg → B.R.hx = A.R.hx → B.fr = false → GSs X B W body g) : GSs X A W body (dlend i g) := by
  refine ⟨⟨fun pins s σ H De I ⟨env, K, E, ⟨ns, h1, h2, hg⟩, q1, q2, q3, q4, q5⟩ => ?_⟩⟩
  obtain ⟨a, vs, e1, e2, e3, e4, e5⟩ := E.own i _ h1
  obtain rfl := e3.intsV
  have hi : i < env.length := (List.getElem?_eq_some_iff.mp h1).1
  have ma : MM A σ env a := .inr ⟨i, _, h1, e1⟩
  refine (hb ⟨A.R.with a, H, MM A σ env, false⟩ rfl rfl rfl rfl).p.run pins s σ H De I ⟨(env.map unown).set i (.val .sto), _, ?_, hg, fun _ _ _ _ _ z => z.elim, fun _ _ _ _ _ z => z.elim, fun _ _ _ _ _ z => z.elim, fun v d σ' H' env' E' rr hq => ?_, fun _ _ _ _ _ _ _ _ _ z => z.elim⟩
  · refine ⟨⟨fun b hb => ?_, fun b hb => ?_, fun b hb => E.mtrk hb⟩, by rw [List.length_set, List.length_map]; exact E.len, fun j d h => ?_, fun j ds h => ?_, fun j k ds es b h => ?_, Stp.refl _ _⟩
    · cases hb
      exact ⟨ns, e2, h2⟩
    · cases hb
      exact ma
    · rw [get_set] at h
      split at h
      · rename_i c
        cases h
        exact ⟨.ref a, by rw [← c.1]; exact e1, .sto rfl⟩
      · rw [List.getElem?_map] at h
        cases q : env[j]? with
        | none => rw [q] at h; cases h
        | some x =>
          rw [q] at h
          have hx := unown_val (Option.some.inj h)
          subst hx
          obtain ⟨v, g1, g2⟩ := E.val j d q
          refine ⟨v, g1, (g2.with h0).keep (keep_sub fun b z => ?_)⟩
          rcases z with z | ⟨k, ds, z, _⟩
          · exact z
          · exfalso
            rw [get_set] at z
            split at z
            · cases z
            · rw [List.getElem?_map] at z
              cases q2 : env[k]? with
              | none => rw [q2] at z; cases z
              | some y => rw [q2] at z; exact unown_own (Option.some.inj z)
    · exfalso
      rw [get_set] at h
      split at h
      · cases h
      · rw [List.getElem?_map] at h
        cases q2 : env[j]? with
        | none => rw [q2] at h; cases h
        | some y => rw [q2] at h; exact unown_own (Option.some.inj h)
    · exfalso
      rw [get_set] at h
      split at h
      · cases h
      · rw [List.getElem?_map] at h
        cases q2 : env[j]? with
        | none => rw [q2] at h; cases h
        | some y => rw [q2] at h; exact unown_own (Option.some.inj h)
  · have b0 : Stp A.R A.H0 H' := by
      refine ⟨fun b o q n => ?_, fun _ b q => by rw [h0] at q; cases q⟩
      have q2 := E.base.k b o q n
      exact E'.base.k b o q2 fun z => by cases z; rw [e5] at q; cases q
    refine q4 v d σ' H' _ (ERep.blank E.ok b0 σ') ?_ (hq.2 _)
    unfold RetRep at rr ⊢
    rw [if_neg Bool.false_ne_true] at rr
    rw [hfr, if_neg Bool.false_ne_true]
    exact rr.scal hq.1
end
end Nb
set_option maxRecDepth 100000
set_option maxHeartbeats 2000000
/-! Nb: a number is drawn from the store. -/
namespace Nb
open PySem PySem.Spec PyProof.Rows L2
/-- the store's place lies within -/
def InS (i : Nat) (σ : St) (H : Hp) : Prop := ∃ (a : Addr) (ns : List Int) (z : Int), σ[i]? = some (some (.ref a)) ∧ H a = some (.lst (ns.map V.int)) ∧ ns[0]? = some z ∧ 5 ≤ z ∧ z < (ns.length : Int)
/-- a test behind which, where it holds, more is known -/
def toBF (A : Act) (W : WX) (g : DB) (φ : St → Hp → Prop) : TT := fun σ H Q => ∃ (env : DEnv) (Qd : Bool → Prop) (Ed : Ex → Prop), ERep A H σ env ∧ g env Qd Ed ∧
  (∀ b H', Stp A.R H H' → Qd b → (b = true → φ σ H') → Q b H') ∧ XOut A W σ env H Ed
section
variable {X : Cx} {A : Act} {W : WX}
structure GWF (X : Cx) (A : Act) (W : WX) (e : Expr) (g : DB) (φ : St → Hp → Prop) : Prop where
  p : PW X e (toBF A W g φ)
theorem gwf_and {a b : Expr} {rest : List Expr} {pos} {g u : DB} {φ : St → Hp → Prop} (h : GT X A W a g) (k : GWF X A W (.BoolOp .And (b :: rest) pos) u φ) : GWF X A W (.BoolOp .And (a :: b :: rest) pos) (dand g u) φ := by
  refine ⟨pw_imp (pw_and h.p k.p) fun σ H Q ⟨env, Qd, Ed, E, h, q, x⟩ => toB_step E h x fun c H1 s E1 x1 hd => ?_⟩
  cases c with
  | true => exact ⟨env, Qd, Ed, E1, hd, fun b H2 s2 qd hf => q b H2 (s.trans s2) qd hf, x1⟩
  | false => exact q false H1 s hd fun z => Bool.noConfusion z
/-- store[0] < len(store) -/
def dinS (i : Nat) : DB := fun env Q _ => env[i]? = some (.val .sto) ∧ ∀ b, Q b
theorem gwf_in {i : Nat} {a e : Expr} {c : Int} {j : Nat} {p p1 p2 p3 pos bpos : Pos} (ha : PE X a (tVar i)) (he : PE X e (tVar i)) (hc : c = 0) (hg : Gl X "len") (hm : X.mg "len" = none) (hK : A.R.K = X.K)
    (hP : PE X e (tVar i) → Gl X "len" → X.mg "len" = none → PE X (.Call (.Name "len" p1) [e] [] p2) (tCB (fun xs H Q => ∃ p ys, xs = [.ref p] ∧ (SqL X.K H p ys ∨ SqT X.K H p ys) ∧ Q (.int ys.length) H) (tCons (tVar i) tNil)) := by exact fun h hg hm => pe_callB call_len_seq hg hm PySem.boot_len (pa_cons h pa_nil))
    (hM : behindInMarks .Lt (.Call (.Name "len" p1) [e] [] p2) = false := by first | exact nomark _ | rfl) :
    GWF X A W (.BoolOp .And [.Compare (.Subscript a (.Constant (.int c) j p) p3) [.Lt] [.Call (.Name "len" p1) [e] [] p2] pos] bpos) (dinS i) (InS i) := by
  refine ⟨pw_imp (pw_and1 (pt_cmpR op_lt (pe_ix ix_seq ha pe_int (fun _ _ => rfl)) (hP he hg hm) hM)) fun σ H Q ⟨env, Qd, Ed, E, ⟨h, hq⟩, q, x⟩ => ?_⟩
  subst hc
  obtain ⟨b, ns, h1, h2, h3, h4⟩ := E.sto h
  have hlt : 0 < ns.length := by have := h4.1.1; omega
  have h0 : ns[0]? = some ns[0] := List.getElem?_eq_getElem hlt
  have h5 : 5 ≤ ns[0] := h4.2 0 _ h0
  refine ⟨.ref b, h2, .inl ⟨b, ns.map V.int, 0, .int ns[0], rfl, rfl, SqL.of h3, ?_, ?_⟩⟩
  · unfold L2.atI
    rw [List.length_map, show (0 : Int) = ((0 : Nat) : Int) from rfl, ixn_nat hlt, Option.bind_some, List.getElem?_map, h0] <;> rfl
  · refine ⟨.ref b, h2, b, ns.map V.int, rfl, .inl (SqL.of h3), ?_⟩
    refine ⟨ns[0], _, rfl, rfl, _, rfl, ?_⟩
    refine q _ H (Stp.refl _ _) (hq _) fun e => ⟨b, ns, ns[0], h2, h3, h0, h5, ?_⟩
    have := of_decide_eq_true e
    rw [List.length_map] at this
    exact this
/-- if ..: x = int(store[store[0]]); rest -/
def difS (i j : Nat) (c : DB) (s t : DS) : DS := fun K env => env[i]? = some (.val .sto) ∧ c env (fun b => if b = true then ∀ z : Int, s K (env.set j (.val (.int z))) else t K env) fun x => K.ex x env
theorem gs_ifS {i j : Nat} {x : Str} {test a b : Expr} {rest els : List Stmt} {gc : DB} {s t : DS} {cc : Int} {kk : Nat} {p0 p1 p2 p3 p4 p5 p6 pos : Pos} (hT : GWF X A W test gc (InS i)) (ha : PE X a (tVar i)) (hb : PE X b (tVar i)) (hc : cc = 0) (hg : Gl X "int") (hm : X.mg "int" = none) (hN : X.N.Nodup) (hi : X.N[j]? = some x) (hx : Loc X.env.scope x)
    (hr : GSs X A W rest s) (ht : GSs X A W els t)
    (hP : PE X a (tVar i) → PE X b (tVar i) → Gl X "int" → X.mg "int" = none → ∃ r, CallR X (.type "int") r ∧ (∀ z H Q, Q (.int z) H → r [.int z] H Q) ∧ PE X (.Call (.Name "int" p1) [.Subscript a (.Subscript b (.Constant (.int cc) kk p4) p3) p2] [] p5) (tCB r (tCons (tOp (rIx X.K) (tVar i) (tOp (rIx X.K) (tVar i) (tC (.int cc)))) tNil)) := by
      exact fun ha hb hg hm => ⟨_, call_int1, fun z H Q h => .inl ⟨z, rfl, h⟩, pe_callTy call_int1 hg hm PyProof.Rows.boot_int (pa_cons (pe_ix ix_seq ha (pe_ix ix_seq hb pe_int (fun _ _ => rfl)) (fun _ _ => rfl)) pa_nil)⟩)
    (hs : swapsWith (.Call (.Name "int" p1) [.Subscript a (.Subscript b (.Constant (.int cc) kk p4) p3) p2] [] p5) (some (.Name x p0)) p6.line X.env = pure false := by rfl) (hf : X.fn x = true ∨ X.env.scope.names.lookup x = some .local := by first | exact .inl rfl | exact .inr rfl | assumption) :
    GS X A W (.If test (.Assign [.Name x p0] (.Call (.Name "int" p1) [.Subscript a (.Subscript b (.Constant (.int cc) kk p4) p3) p2] [] p5) p6 :: rest) els pos) (difS i j gc s t) := by
  obtain ⟨r, hr1, hr2, hE⟩ := hP ha hb hg hm
  refine ⟨ps_imp (ps_if hT.p.pt (pss_cons (ps_set hN hi hx hE hs hf) hr.p) ht.p) fun De σ H ⟨env, K, E, ⟨he, h⟩, q1, q2, q3, q4, q5⟩ => ?_⟩
  refine ⟨env, _, _, E, h, fun d H' s2 hd hφ => ?_, xout_of E q5⟩
  have E' := E.stp s2
  have kk := E.keep s2
  cases d with
  | false =>
    simp only [Bool.false_eq_true, if_false] at hd ⊢
    exact ⟨env, K, E', hd, fun σ2 H2 env2 k2 => q1 σ2 H2 env2 (kk.trans k2), fun σ2 H2 env2 k2 => q2 σ2 H2 env2 (kk.trans k2), fun σ2 H2 env2 k2 => q3 σ2 H2 env2 (kk.trans k2), q4, fun x c dd σ2 H2 env2 k2 => q5 x c dd σ2 H2 env2 (kk.trans k2)⟩
  | true =>
    simp only [if_true] at hd ⊢
    obtain ⟨a', ns, z, g1, g2, g3, g4, g5⟩ := hφ rfl
    subst hc
    have hz : ∃ n : Nat, z = (n : Nat) ∧ n < ns.length := ⟨z.toNat, by omega, by omega⟩
    obtain ⟨n, rfl, hn⟩ := hz
    have h0 : 0 < ns.length := by omega
    have r0 : L2.atI (ns.map V.int) (0 : Int) = some (.int (n : Nat)) := by
      unfold L2.atI
      rw [List.length_map, show (0 : Int) = ((0 : Nat) : Int) from rfl, ixn_nat h0, Option.bind_some, List.getElem?_map, g3] <;> rfl
    have r1 : L2.atI (ns.map V.int) ((n : Nat) : Int) = some (.int ns[n]) := by
      unfold L2.atI
      rw [List.length_map, ixn_nat hn, Option.bind_some, List.getElem?_map, List.getElem?_eq_getElem hn] <;> rfl
    refine ⟨.ref a', g1, .ref a', g1, .inl ⟨a', _, 0, _, rfl, rfl, SqL.of g2, r0, .inl ⟨a', _, (n : Nat), _, rfl, rfl, SqL.of g2, r1, hr2 _ _ _ ?_⟩⟩⟩
    have E2 := E'.set (i := j) (v := .int ns[n]) (d := .int ns[n]) (.int _)
    have k3 : Keep (MM A σ env) (MM A (σ.set j (some (.int ns[n]))) (env.set j (.val (.int ns[n])))) H H' := kk.trans E'.setKeep
    exact ⟨_, K, E2, hd _, fun σ2 H2 env2 k2 => q1 σ2 H2 env2 (k3.trans k2), fun σ2 H2 env2 k2 => q2 σ2 H2 env2 (k3.trans k2), fun σ2 H2 env2 k2 => q3 σ2 H2 env2 (k3.trans k2), q4, fun x c dd σ2 H2 env2 k2 => q5 x c dd σ2 H2 env2 (k3.trans k2)⟩
/-- a statement's end told once for all its ways -/
def dcut (s : DS) : DS := fun K env => ∃ P : DEnv → Prop, s { K with nx := P } env ∧ ∀ env', P env' → K.nx env'
theorem gs_cut {st : Stmt} {s : DS} (h : GS X A W st s) : GS X A W st (dcut s) := by
  refine ⟨ps_imp h.p fun De σ H ⟨env, K, E, ⟨P, h1, h2⟩, q1, q2, q3, q4, q5⟩ => ?_⟩
  exact ⟨env, _, E, h1, fun σ' H' env' kk E' hp => q1 σ' H' env' kk E' (h2 env' hp), q2, q3, q4, q5⟩
end
end Nb
set_option maxRecDepth 100000
set_option maxHeartbeats 2000000
/-! Nb: texts by their signs. -/
namespace Nb
open PySem PySem.Spec PyProof.Rows L2 TL
theorem atI_nat {α : Type} {l : List α} {k : Nat} (h : k < l.length) : L2.atI l (k : Nat) = some l[k] := by
  unfold L2.atI
  rw [ixn_nat h, Option.bind_some, List.getElem?_eq_getElem h]
theorem atI_int {α : Type} {l : List α} {i : Int} (h0 : 0 ≤ i) (h : i < (l.length : Int)) : ∃ c, L2.atI l i = some c ∧ c ∈ l ∧ l[i.toNat]? = some c := by
  have hk : i.toNat < l.length := by omega
  refine ⟨l[i.toNat], ?_, List.getElem_mem hk, List.getElem?_eq_getElem hk⟩
  have e : ((i.toNat : Nat) : Int) = i := by omega
  have := atI_nat hk
  rw [e] at this
  exact this
theorem tl_nil : tl ("" : Str) = [] := by
  rw [tl_ofString]
  rfl
theorem tl_one (c : Nat) : tl ⟨#[c]⟩ = [c] := rfl
theorem hasS_one (x : Str) (c : Nat) : hasS ⟨#[c]⟩ x = decide (c ∈ tl x) := PySem.StrLaws.found_one x c
theorem len_app (x y : Str) : (x ++ y).length = x.length + y.length := by rw [len_tl, len_tl, len_tl, tl_append, List.length_append]
theorem len_one (c : Nat) : (⟨#[c]⟩ : Str).length = 1 := rfl
/-- text[:k], text[k:] -/
theorem tl_take {z : Str} {k : Nat} (h : k ≤ z.length) : tl (cutS z none (some (k : Nat))) = (tl z).take k := by
  have e1 : HT.sIx z.length 0 none = 0 := rfl
  have e2 : HT.sIx z.length z.length (some ((k : Nat) : Int)) = k := by
    rw [HT.sIx_nat]
    omega
  unfold cutS
  rw [e1, e2]
  simp
theorem tl_drop {z : Str} {k : Nat} (h : k ≤ z.length) : tl (cutS z (some (k : Nat)) none) = (tl z).drop k := by
  have e1 : HT.sIx z.length z.length none = z.length := rfl
  have e2 : HT.sIx z.length 0 (some ((k : Nat) : Int)) = k := by
    rw [HT.sIx_nat]
    omega
  unfold cutS
  rw [e1, e2]
  rw [len_tl]
  show ((tl z).drop k).take ((tl z).length - k) = (tl z).drop k
  rw [List.take_of_length_le (by rw [List.length_drop]; exact Nat.le_refl _)]
end Nb
namespace Nb
open PySem PySem.Spec PyProof.Rows L2 TL
theorem perm_erase {α : Type} : ∀ {l : List α} {k : Nat} (h : k < l.length), (l[k] :: l.eraseIdx k).Perm l
  | a :: l, 0, _ => List.Perm.refl _
  | a :: l, k + 1, h => (List.Perm.swap a _ _).trans ((perm_erase (l := l) (k := k) (by simpa using h)).cons a)
theorem log_small {z : Int} (h1 : 0 ≤ z) (h2 : z < 8) : z.natAbs.log2 < 1920 := by
  have hz : z = 0 ∨ z = 1 ∨ z = 2 ∨ z = 3 ∨ z = 4 ∨ z = 5 ∨ z = 6 ∨ z = 7 := by omega
  rcases hz with rfl | rfl | rfl | rfl | rfl | rfl | rfl | rfl <;> decide
/-! loops, blocks: what one shows -/
theorem for_r1 {gs : DL} {s : DS} {K : KEnd} {env : DEnv} {j : Nat} {n : Int} (I : Nat → DEnv → Prop) (hg : ∀ (Q : List D → Prop) (Ed : Ex → Prop), Q [.int n] → gs env Q Ed) (h1 : -(2 ^ 62) ≤ n) (h2 : n < 2 ^ 62) (h0 : I 0 env)
    (step : ∀ (i : Nat) (env' : DEnv), i < n.toNat → I i env' → s { K with nx := I (i + 1), ct := I (i + 1), bk := K.nx } (env'.set j (.val (.int (i : Nat))))) (fin : ∀ env', I n.toNat env' → K.nx env') : dfor (diR1 gs) (dname j) s K env := by
  unfold dfor
  refine hg _ _ ⟨h1, h2, I, h0, fun i d env' e hi => ?_, fun env' hi => fin env' (by rw [rngD_len] at hi; exact hi)⟩
  rw [rngD_get] at e
  by_cases c : i < n.toNat
  · rw [if_pos c] at e
    cases e
    rw [Int.zero_add]
    exact step i env' c hi
  · rw [if_neg c] at e; cases e
theorem for_l {gi : DI} {t : DG} {s : DS} {K : KEnd} {env : DEnv} {ds : List D} (I : Nat → DEnv → Prop) (hg : ∀ (Q : List D → Prop) (Ed : Ex → Prop), Q ds → gi env Q Ed) (h0 : I 0 env)
    (step : ∀ (i : Nat) (d : D) (env' : DEnv), ds[i]? = some d → I i env' → t d env' fun env2 => s { K with nx := I (i + 1), ct := I (i + 1), bk := K.nx } env2) (fin : ∀ env', I ds.length env' → K.nx env') : dfor gi t s K env := by
  unfold dfor
  exact hg _ _ ⟨I, h0, step, fin⟩
theorem dlc_map {gi : DI} {t : DG} {ge : DE} {vs : List Nat} {env : DEnv} {Q : List D → Prop} {Ed : Ex → Prop} {ds : List D} (f : D → D) (hgi : ∀ Q' : List D → Prop, Q' ds → gi env Q' Ed) (hl : ds.length ≤ LINE)
    (he : ∀ d ∈ ds, ∀ Q' : D → Prop, Q' (f d) → t d (blkD env vs) fun env2 => ge env2 Q' fun _ => False) (hq : Q (ds.map f)) : dlc gi t dyes ge vs env Q Ed := by
  unfold dlc
  refine hgi _ ⟨fun i acc => acc = (ds.take i).map f ∧ i ≤ ds.length, ⟨rfl, Nat.zero_le _⟩, fun i d acc e ⟨ha, hi⟩ => ?_, fun acc ⟨ha, _⟩ => ?_⟩
  · have hm : d ∈ ds := List.mem_of_getElem? e
    have hlt : i < ds.length := (List.getElem?_eq_some_iff.mp e).1
    simp only [dyes, if_true]
    refine he d hm _ ⟨?_, ?_, hlt⟩
    · rw [ha, List.length_map, List.length_take]
      omega
    · rw [ha, List.take_add_one, e, List.map_append]
      rfl
  · rw [ha, List.take_length]
    exact hq
end Nb
set_option maxRecDepth 100000
set_option maxHeartbeats 2000000
/-! Nb: lists of texts compared; what is sorted. -/
namespace Nb
open PySem PySem.Spec PyProof.Rows L2 TL
theorem pys_strs : ∀ l : List Str, D.pys (l.map D.str) = some (l.map PyData.str)
  | [] => rfl
  | x :: l => by
    rw [List.map_cons, D.pys, pys_strs l]
    rfl
theorem eqvAll_strs : ∀ a b : List Str, PyData.eqvAll (a.map .str) (b.map .str) = decide (a = b)
  | [], [] => rfl
  | [], _ :: _ => rfl
  | _ :: _, [] => rfl
  | x :: a, y :: b => by
    rw [List.map_cons, List.map_cons, PyData.eqvAll, eqvAll_strs a b, PyData.eqv]
    by_cases h1 : x = y
    · by_cases h2 : a = b
      · simp [h1, h2]
      · simp [h1, h2]
    · simp [h1]
theorem eqv_strs (a b : List Str) : D.eqv (.lst (a.map D.str)) (.lst (b.map D.str)) = decide (a = b) := by
  unfold D.eqv
  rw [D.py, D.py, pys_strs, pys_strs]
  show PyData.eqv (.list _) (.list _) = _
  rw [PyData.eqv]
  exact eqvAll_strs a b
theorem can_strs : ∀ l : List Str, (∀ x ∈ l, PyData.strOk x = true) → PyData.canLayAll0 (l.map .str) = true
  | [], _ => rfl
  | x :: l, h => by
    rw [List.map_cons, PyData.canLayAll0, PyData.canLay0, h x List.mem_cons_self, can_strs l fun y hy => h y (List.mem_cons_of_mem _ hy)]
    rfl
theorem depth_strs : ∀ l : List Str, PyData.depthAll (l.map .str) = 0
  | [] => rfl
  | x :: l => by
    rw [List.map_cons, PyData.depthAll, PyData.depth, depth_strs l]
    rfl
theorem shp_strs (l : List Str) (h : ∀ x ∈ l, PyData.strOk x = true) : Shp (.lst (l.map D.str)) := by
  refine ⟨.list (l.map .str), by rw [D.py, pys_strs]; rfl, ?_⟩
  unfold SeqAt.shaped
  rw [PyData.canLay0, can_strs l h, PyData.depth, depth_strs]
  rfl
theorem risingS_iff : ∀ (p : Str) (l : List Str), risingS p l = true → (∀ x ∈ l, ¬ tl x < tl p) ∧ l.Pairwise fun a b => ¬ tl b < tl a
  | _, [], _ => ⟨fun _ h => (by cases h), .nil⟩
  | p, x :: r, h => by
    unfold risingS at h
    rw [Bool.and_eq_true] at h
    obtain ⟨h1, h2⟩ := h
    obtain ⟨i1, i2⟩ := risingS_iff x r h2
    have h3 : ¬ tl x < tl p := by
      rw [ltCps_eq] at h1
      simpa using h1
    refine ⟨fun y hy => ?_, .cons i1 i2⟩
    rcases List.mem_cons.mp hy with e | e
    · rw [e]; exact h3
    · have h4 := i1 y e
      rw [List.not_lt] at h3 h4 ⊢
      exact List.le_trans h3 h4
theorem sortedS_pw : ∀ {l : List Str}, sortedS l = true → l.Pairwise fun a b => ¬ tl b < tl a
  | [], _ => .nil
  | x :: r, h => by
    obtain ⟨i1, i2⟩ := risingS_iff x r h
    exact .cons i1 i2
theorem sorted_uniq {a b : List Str} (ha : sortedS a = true) (hb : sortedS b = true) (p : a.Perm b) : a = b := by
  refine List.Perm.eq_of_pairwise (le := fun a b => ¬ tl b < tl a) (fun x y _ _ h1 h2 => ?_) (sortedS_pw ha) (sortedS_pw hb) p
  rw [List.not_lt] at h1 h2
  exact ext_tl (List.le_antisymm h1 h2)
end Nb
namespace Nb
open PySem PySem.Spec PyProof.Rows L2 TL
theorem index_one {x : Str} {c : Nat} (h : c ∈ tl x) : ∃ i rest, Builtin.Str.occurrences x ⟨#[c]⟩ 0 x.length 1 = i :: rest ∧ (tl x)[i]? = some c ∧ ∀ k, k < i → (tl x)[k]? ≠ some c := by
  rcases PySem.StrLaws.occ_head x ⟨#[c]⟩ 1 (Nat.le_refl _) with ⟨_, hn⟩ | ⟨i, r, h1, h2, h3⟩
  · obtain ⟨i, hi⟩ := List.mem_iff_getElem?.mp h
    exact absurd ((PySem.StrLaws.subAt_one x c i).mpr hi) (hn i)
  · exact ⟨i, r, h1, (PySem.StrLaws.subAt_one x c i).mp h2, fun k hk e => h3 k hk ((PySem.StrLaws.subAt_one x c k).mpr e)⟩
theorem joinL_nil : ∀ ys : List (List Nat), TL.joinL [] ys = ys.flatten
  | [] => rfl
  | [p] => by rw [TL.joinL]; simp
  | p :: q :: r => by
    rw [TL.joinL, joinL_nil (q :: r), List.nil_append]
    rfl
theorem flat_ones (l : List Nat) : (l.map fun c => [c]).flatten = l := by
  induction l with
  | nil => rfl
  | cons c l ih => rw [List.map_cons, List.flatten_cons, ih]; rfl
theorem join_signs (l : List Nat) : Txt.join "" (l.map fun c => (⟨#[c]⟩ : Str)) = ⟨l.toArray⟩ := by
  have e0 : ("" : Str) = ⟨([] : List Nat).toArray⟩ := ext_tl tl_nil
  have e1 : (l.map fun c => (⟨#[c]⟩ : Str)) = (l.map fun c => [c]).map fun m => (⟨m.toArray⟩ : Str) := by rw [List.map_map]; rfl
  rw [e0, e1]
  refine (SX.join_S [] _).trans ?_
  rw [joinL_nil]
  rw [flat_ones]
theorem sum_ones (l : List Nat) : ((l.map fun c => (⟨#[c]⟩ : Str)).map (·.length)).sum = l.length := by
  induction l with
  | nil => rfl
  | cons c l ih =>
    rw [List.map_cons, List.map_cons, List.sum_cons, ih, List.length_cons, len_one]
    omega
def headG (d : D) : Nat := match d with
  | .str x => (tl x).headD 0
  | _ => 0
theorem heads (l : List Nat) : ((l.map fun c => (⟨#[c]⟩ : Str)).map D.str).map headG = l := by
  induction l with
  | nil => rfl
  | cons c l ih =>
    rw [List.map_cons, List.map_cons, List.map_cons, ih]
    rfl
theorem unheads : ∀ (fs : List D), (∀ d ∈ fs, ∃ c, d = D.str ⟨#[c]⟩) → fs = ((fs.map headG).map fun c => (⟨#[c]⟩ : Str)).map D.str
  | [], _ => rfl
  | d :: fs, h => by
    obtain ⟨c, rfl⟩ := h d List.mem_cons_self
    rw [List.map_cons, List.map_cons, List.map_cons, ← unheads fs fun e he => h e (List.mem_cons_of_mem _ he)]
    rfl
/-- an order of a text's signs -/
theorem perm_signs {fs : List D} {l : List Nat} (h : fs.Perm ((l.map fun c => (⟨#[c]⟩ : Str)).map D.str)) : ∃ cs : List Nat, cs.Perm l ∧ fs = (cs.map fun c => (⟨#[c]⟩ : Str)).map D.str := by
  have q := h.map headG
  rw [heads] at q
  refine ⟨_, q, unheads fs fun d hd => ?_⟩
  obtain ⟨x, hx, rfl⟩ := List.mem_map.mp (h.mem_iff.mp hd)
  obtain ⟨c, _, rfl⟩ := List.mem_map.mp hx
  exact ⟨c, rfl⟩
theorem perm_of_sub : ∀ {a l : List Nat}, a.Nodup → (∀ x ∈ a, x ∈ l) → l.length = a.length → a.Perm l
  | [], l, _, _, h => by
    rw [List.eq_nil_of_length_eq_zero h]
  | x :: a, l, hn, hs, h => by
    have hx := hs x List.mem_cons_self
    have p := List.perm_cons_erase hx
    have hl := p.length_eq
    rw [List.length_cons] at hl h
    refine List.Perm.trans ?_ p.symm
    refine List.Perm.cons x (perm_of_sub (List.nodup_cons.mp hn).2 (fun y hy => ?_) (by omega))
    have ne : y ≠ x := fun z => (List.nodup_cons.mp hn).1 (by rw [← z]; exact hy)
    exact (List.mem_erase_of_ne ne).mpr (hs y (List.mem_cons_of_mem _ hy))
end Nb
set_option maxRecDepth 100000
set_option maxHeartbeats 2000000
/-! Nb: the law: its script is read once, then all is drawn from the store. -/
namespace Nb
open PySem PySem.Spec PyProof.Rows L2
/-- the script's numbers are laid out, a new list -/
def spStore (K : PySem.W.Frag) : Sp := fun vs H Q _ => ∃ (a : Addr) (ns : List Int), vs = [.ref a] ∧ SqL K H a (ns.map V.int) ∧ ns.length ≤ 63 ∧ ∀ (H' : Hp) (p : Addr) (ms : List Int), H' p = some (.lst (ms.map V.int)) → InvS ms → Q (.ref p) H'
/-- the law: called with the script, it answers True -/
def spLaw (K : PySem.W.Frag) : Sp := fun vs H Q _ => ∃ (a : Addr) (ns : List Int), vs = [.ref a] ∧ SqL K H a (ns.map V.int) ∧ ns.length ≤ 63 ∧ ∀ H', Q (.bl true) H'
theorem SqL.up {K : PySem.W.Frag} {H : Hp} {a p : Addr} {xs : List V} {o : HO} (h : SqL K H a xs) (hp : H p = none) : SqL K (upd H p o) a xs := by
  rcases h with h | h
  · rcases h with h | ⟨u, h⟩
    · exact .inl (.inl (by rw [upd_ne (ne_of_none h hp)]; exact h))
    · exact .inl (.inr ⟨u, by rw [upd_ne (ne_of_none h hp)]; exact h⟩)
  · exact .inr h
section
variable {X : Cx}
/-- the rest of a law, whatever activation it is told for -/
theorem rest_act {W : WX} {g : DS} {K : PySem.W.Frag} {mg : Str → Option Value} {body : List Stmt} (h : ∀ B : Act, B.R.K = K → B.R.mg = mg → B.R.hx = none → B.fr = false → GSs X B W body g) :
    PSs X body (fun De σ H => ∃ B : Act, (B.R.K = K ∧ B.R.mg = mg ∧ B.R.hx = none ∧ B.fr = false) ∧ toS B W g De σ H) :=
  ⟨fun pins s σ H De I ⟨B, ⟨h1, h2, h3, h4⟩, w⟩ => (h B h1 h2 h3 h4).p.run pins s σ H De I w⟩
end
/-- behind the law's first statement -/
theorem toS_store {W : WX} {g : DS} {De : Ends} {σ : St} {H1 : Hp} {K : PySem.W.Frag} {mg : Str → Option Value} {p : Addr} {ms : List Int} {N : Nat} (h1 : H1 p = some (.lst (ms.map V.int))) (hI : InvS ms) (hl : σ.length = N + 2) (hp : σ[1]? = some (some (.ref p)))
    (hg : g { nx := fun _ => False, rt := fun d _ => d = .bl true, ex := fun _ _ => False } (.un :: .val .sto :: List.replicate N .un)) (q : ∀ H', De.rt (.bl true) H') :
    ∃ B : Act, (B.R.K = K ∧ B.R.mg = mg ∧ B.R.hx = none ∧ B.fr = false) ∧ toS B W g De σ H1 := by
  have env_at : ∀ {i : Nat} {x : SD}, ((SD.un :: .val .sto :: List.replicate N .un : DEnv))[i]? = some x → x = .un ∨ (i = 1 ∧ x = .val .sto) := fun {i x} h => by
    match i, h with
    | 0, h => cases h; exact .inl rfl
    | 1, h => cases h; exact .inr ⟨rfl, rfl⟩
    | i + 2, h =>
      have h' : (List.replicate N SD.un)[i]? = some x := h
      rw [List.getElem?_replicate] at h'
      split at h'
      · cases h'; exact .inl rfl
      · cases h'
  have no : ∀ {i : Nat} {es : List D}, ((SD.un :: .val .sto :: List.replicate N .un : DEnv))[i]? = some (.own es) → False := fun {i es} h => by
    rcases env_at h with z | ⟨_, z⟩ <;> cases z
  refine ⟨⟨⟨K, mg, some p, none⟩, H1, fun b => b = p, false⟩, ⟨rfl, rfl, rfl, rfl⟩, _, _, ⟨⟨fun a e => ?_, fun a e => ?_, fun a e => ?_⟩, ?_, fun i d h => ?_, fun i es h => (no h).elim, fun i j es fs a h => (no h).elim, Stp.refl _ _⟩, hg, fun _ _ _ _ _ z => z.elim, fun _ _ _ _ _ z => z.elim, fun _ _ _ _ _ z => z.elim, fun v d σ' H' env' E' rr hq => ?_, fun _ _ _ _ _ _ _ _ _ z => z.elim⟩
  · cases e
    exact ⟨ms, h1, hI⟩
  · cases e
    rfl
  · obtain rfl : a = p := e
    show H1 a ≠ none
    rw [h1]
    intro z
    cases z
  · rw [hl, List.length_cons, List.length_cons, List.length_replicate]
  · rcases env_at h with z | ⟨rfl, z⟩
    · cases z
    · cases z
      exact ⟨_, hp, .sto rfl⟩
  · unfold RetRep at rr
    rw [if_neg Bool.false_ne_true] at rr
    obtain rfl : d = .bl true := hq
    cases rr
    exact q H'
/-- range(e), e a count that is drawn -/
theorem for_rn {gs : DL} {s : DS} {K : KEnd} {env : DEnv} {j : Nat} {lo hi : Int} (I : DEnv → Prop) (hg : ∀ (Q : List D → Prop) (Ed : Ex → Prop), (∀ n, lo ≤ n → n ≤ hi → Q [.int n]) → gs env Q Ed) (h1 : -(2 ^ 62) ≤ lo) (h2 : hi < 2 ^ 62) (h0 : I env)
    (step : ∀ (i : Int) (env' : DEnv), I env' → s { K with nx := I, ct := I, bk := K.nx } (env'.set j (.val (.int i)))) (fin : ∀ env', I env' → K.nx env') : dfor (diR1 gs) (dname j) s K env := by
  unfold dfor
  refine hg _ _ fun n n1 n2 => ⟨by omega, by omega, fun _ => I, h0, fun i d env' e hi => ?_, fun env' hi => fin env' hi⟩
  rw [rngD_get] at e
  split at e
  · cases e
    exact step _ env' hi
  · cases e
/-- nothing leaves a law -/
theorem cx_no {P : Program} {w : World} {H : Hp} {s : Shared} {e : Value} {s' : Shared} (h : L2.CX P w [] H s (fun _ _ _ => False) e s') : False := by
  obtain ⟨_, _, _, _, _, _, _, _, _, _, _, _, z⟩ := h
  exact z
end Nb
set_option maxRecDepth 100000
set_option maxHeartbeats 4000000
namespace K9
open PySem PySem.Spec PyProof.Rows L2 Nb TL
abbrev top (i : Nat) : Stmt := PySem.Challenge.pw_notbehind_k09_orders_and_back.main.body.getD i (.Pass ⟨0, 0, 0, 0⟩)
def clsB : Stmt → List Stmt
  | .ClassDef _ _ _ b _ _ _ _ _ _ _ => b
  | _ => []
abbrev init_BadRow : Stmt := (clsB (top 8)).getD 0 (.Pass ⟨0, 0, 0, 0⟩)
def okX (n : Str) : Prop := n = "BadRow"
structure Txt (P : Program) (K : PySem.W.Frag) (mg : Str → Option Value) : Prop where
  ValueError : mg "ValueError" = none
  abs : mg "abs" = none
  all : mg "all" = none
  bool : mg "bool" = none
  int : mg "int" = none
  isinstance : mg "isinstance" = none
  len : mg "len" = none
  list : mg "list" = none
  max : mg "max" = none
  range : mg "range" = none
  sorted : mg "sorted" = none
  str : mg "str" = none
  tuple : mg "tuple" = none
  kinds : Kinds K mg okX
  i_BadCount : IsC K mg okX "BadCount" fun n => n == "BadCount"
  i_BadName : IsC K mg okX "BadName" fun n => n == "BadName"
  i_BadNumber : IsC K mg okX "BadNumber" fun n => n == "BadNumber"
  i_BadRow : IsC K mg okX "BadRow" fun n => n == "BadRow"
  i_BadShare : IsC K mg okX "BadShare" fun n => n == "BadShare"
  i_BadSize : IsC K mg okX "BadSize" fun n => n == "BadSize"
  i_BadText : IsC K mg okX "BadText" fun n => n == "BadText"
  i_BadWeight : IsC K mg okX "BadWeight" fun n => n == "BadWeight"
  i_DivisionByZero : IsC K mg okX "DivisionByZero" fun n => n == "DivisionByZero"
  i_GameOver : IsC K mg okX "GameOver" fun n => n == "GameOver"
  i_InUse : IsC K mg okX "InUse" fun n => n == "InUse"
  i_Lacking : IsC K mg okX "Lacking" fun n => n == "Lacking"
  i_Mismatch : IsC K mg okX "Mismatch" fun n => n == "Mismatch"
  i_NoHelper : IsC K mg okX "NoHelper" fun n => n == "NoHelper"
  i_NotExact : IsC K mg okX "NotExact" fun n => n == "NotExact"
  i_NothingToTakeBack : IsC K mg okX "NothingToTakeBack" fun n => n == "NothingToTakeBack"
  i_TakenName : IsC K mg okX "TakenName" fun n => n == "TakenName"
  i_UnknownName : IsC K mg okX "UnknownName" fun n => n == "UnknownName"
  i_WrongKind : IsC K mg okX "WrongKind" fun n => n == "WrongKind"
  f_amount : ∀ n C, okX n → mg n = some (.ref C) → PySem.W.findIn K (.ref C) "amount" = some none
  f_at : ∀ n C, okX n → mg n = some (.ref C) → PySem.W.findIn K (.ref C) "at" = some none
  f_beginning : ∀ n C, okX n → mg n = some (.ref C) → PySem.W.findIn K (.ref C) "beginning" = some none
  f_due : ∀ n C, okX n → mg n = some (.ref C) → PySem.W.findIn K (.ref C) "due" = some none
  f_found : ∀ n C, okX n → mg n = some (.ref C) → PySem.W.findIn K (.ref C) "found" = some none
  f_high : ∀ n C, okX n → mg n = some (.ref C) → PySem.W.findIn K (.ref C) "high" = some none
  f_line : ∀ n C, okX n → mg n = some (.ref C) → PySem.W.findIn K (.ref C) "line" = some none
  f_low : ∀ n C, okX n → mg n = some (.ref C) → PySem.W.findIn K (.ref C) "low" = some none
  f_name : ∀ n C, okX n → mg n = some (.ref C) → PySem.W.findIn K (.ref C) "name" = some none
  f_user : ∀ n C, okX n → mg n = some (.ref C) → PySem.W.findIn K (.ref C) "user" = some none
  v_ValueError : ∀ n C, okX n → mg n = some (.ref C) → PySem.W.kitOne K (.ref C) (.type "ValueError") = some ((fun _ => true) n)
  c_NotBehindError : CatchC K mg okX "NotBehindError"
  r_BadRow : Rai1 P K mg "BadRow" "found" init_BadRow
  outs : ∃ t, mg "OUTCOMES" = some (.str "01234" t)
  most : ∃ a, mg "MOST_ROUNDS" = some (.ref a) ∧ SqT K (fun _ => none) a ([8, 8, 5, 4, 3].map V.int)
section
variable {P : Program} {w : World} {K : PySem.W.Frag} {mg : Str → Option Value} {base : Heap}
theorem c_outs {X : Cx} {A : Nb.Act} {W : WX} {pos : Pos} (T : Txt X.prog X.K X.mg) (hg : Gl X "OUTCOMES" := by rfl) : GE X A W (.Name "OUTCOMES" pos) (dk (.str "01234")) := by
  obtain ⟨t, h⟩ := T.outs
  exact ge_glob (v := .str "01234") hg h ⟨t, rfl⟩ fun _ _ => .str _
theorem c_most {X : Cx} {A : Nb.Act} {W : WX} {pos : Pos} (T : Txt X.prog X.K X.mg) (hK : A.R.K = X.K := by rfl) (hg : Gl X "MOST_ROUNDS" := by rfl) : GE X A W (.Name "MOST_ROUNDS" pos) (dk (.tup ([8, 8, 5, 4, 3].map D.int))) := by
  obtain ⟨a, h, hs⟩ := T.most
  exact ge_glob hg h (v := .ref a) rfl fun _ _ => .tup (.inr (by rw [hK]; exact hs)) (RepL.ints _)
/-! ### the store's defs -/
abbrev s__law_mixed : Stmt := top 34
theorem sc__law_mixed : FnScope ["store", "prime", "found"] ["store"] (defScope s__law_mixed) := ⟨rfl, rfl, rfl, by decide +kernel, rfl, by decide +kernel, by decide +kernel⟩
def S__law_mixed : DSp := fun ds Q E => ds = [.sto] ∧ ∀ z, 0 ≤ z → Q (.int z)
theorem len__law_mixed {ds : List D} {Q : D → Prop} {E : Ex → Prop} (h : S__law_mixed ds Q E) : ds.length = 1 := by rw [h.1]; rfl
theorem ok__law_mixed (T : Txt P K mg) {f : Addr} {fd : FuncData} (F : Fun K "_law_mixed" "_law_mixed" s__law_mixed f fd) : FnOk P w K mg base (L2.CX P w) 1 f fd ["store"] (spD K mg false S__law_mixed) := by
  refine fn_ok F sc__law_mixed (fun ds Qd Ed h => len__law_mixed h) (fun cdv Ar outer s H E R M ds Qd Ed hr hK hm h0 h => ?_)
  subst hK hm
  refine ⟨_, (gss_cons (gs_asg (i := 1) ge_int sc__law_mixed.nd rfl (by first | exact Or.inl rfl | exact Or.inr rfl))
    (gss_cons (gs_setS (k := 3) (pv 0) (ge_add (ge_ixS (k := 3) (pv 0)) ge_int))
    (gss_cons (gs_setS (k := 2) (pv 0) (ge_mod (ge_bltT (b_int) (by rfl) T.int PyProof.Rows.boot_int (gl_cons (ge_add (ge_add (ge_mul (ge_ixS (k := 2) (pv 0)) ge_int) (ge_mul (ge_ixS (k := 3) (pv 0)) ge_int)) ge_int) gl_nil)) (ge_var (pv 1))))
    (gss_cons (gs_asg (i := 2) (ge_mod (ge_bltT (b_int) (by rfl) T.int PyProof.Rows.boot_int (gl_cons (ge_add (ge_mul (ge_ixS (k := 2) (pv 0)) (ge_ixS (k := 2) (pv 0))) (ge_mul (ge_ixS (k := 3) (pv 0)) ge_int)) gl_nil)) ge_int) sc__law_mixed.nd rfl (by first | exact Or.inl rfl | exact Or.inr rfl))
    (gss_one (gs_ret (ge_mod (ge_bltT (b_int) (by rfl) T.int PyProof.Rows.boot_int (gl_cons (ge_add (ge_add (ge_mul (ge_var (pv 2)) ge_int) (ge_fdiv (ge_var (pv 2)) ge_int)) ge_int) gl_nil)) (ge_var (pv 1))))))))), ?_⟩
  obtain ⟨rfl, hq⟩ := h
  have e0 : startD ["store", "prime", "found"] [D.sto] = [.val .sto, .un, .un] := rfl
  simp only [↓reduceIte, disX, dxf, dcallQ, dcallQF, eqv_strs, sgnD_eq, draise1, fAll, diR1, diR2, diL, diT, diS, dname, dapp, dappPop, dlenO, dixO, dretO, dSl, donone, dosome, dyes, dfv, dm1, fJoin, fIndex, fListF, fSortT, dRev, dIn, dNotIn, difE, fMax, fMin, fStr, fList, dseq, dif, dret, dretN, dretF, dretO, dasg, dasgO, dexpr, dnext, dop, dopF, dk, dvar, dcons, dnil, dlst, dflst, dtup, dIx, dI0, dII, dB0, dtest, dtruth, dand, dor, dnot, dcb, dcbF, dcall, dcallF, dixS, dsetS, dinS, difS, fLen, fInt, fAbs, endD, e0, scD, SOK, dEq, dNe, eqv_int, eqv_str, eqv_bl, beq_iff_eq, decide_eq_true_eq, Bool.not_eq_true, Bool.not_eq_true', true_and, and_true, and_self, false_and, and_false, reduceCtorEq, true_or, or_true, true_implies, if_true, if_false, Bool.false_eq_true, not_false_eq_true, dAdd, dMul, dAddF, List.getElem?_cons_zero, List.getElem?_cons_succ, List.set_cons_zero, List.set_cons_succ]
  repeat' (first | exact True.intro | exact rfl | intro _ | refine And.intro ?_ ?_ | split | exact Or.inl (Or.inr ⟨by decide, by decide⟩) | exact Or.inl (Or.inl ⟨by omega, by omega⟩) | exact Or.inl ⟨by omega, by omega⟩ | exact (by decide : (0:Int) < _) | (show (0:Int) < _; omega) | omega | decide | exact hq _ (by omega))
abbrev s__law_take : Stmt := top 35
theorem sc__law_take : FnScope ["store", "many", "cell", "found"] ["store", "many"] (defScope s__law_take) := ⟨rfl, rfl, rfl, by decide +kernel, rfl, by decide +kernel, by decide +kernel⟩
def S__law_take : DSp := fun ds Q E => ∃ m, ds = [.sto, .int m] ∧ m < 1000000000 ∧ ∀ z, 0 ≤ z → (z < m ∨ z = 0) → Q (.int z)
theorem len__law_take {ds : List D} {Q : D → Prop} {E : Ex → Prop} (h : S__law_take ds Q E) : ds.length = 2 := by obtain ⟨m, h, _⟩ := h; rw [h]; rfl
theorem ok__law_take (T : Txt P K mg) (h__law_mixed : Has P w K mg base "_law_mixed" 1 false S__law_mixed) {f : Addr} {fd : FuncData} (F : Fun K "_law_take" "_law_take" s__law_take f fd) : FnOk P w K mg base (L2.CX P w) 2 f fd ["store", "many"] (spD K mg false S__law_take) := by
  refine fn_ok F sc__law_take (fun ds Qd Ed h => len__law_take h) (fun cdv Ar outer s H E R M ds Qd Ed hr hK hm h0 h => ?_)
  subst hK hm
  refine ⟨_, (gss_cons (gs_if (gt_c cm_lt (ge_var (pv 1)) ge_int) (gss_one (gs_ret ge_int)) gss_nil)
    (gss_cons (gs_ifS (j := 2) (gwf_and (gt_c (cm_eq (room_units hr)) (ge_ixS (k := 1) (pv 0)) ge_int) (gwf_and (gt_c (cm_eq (room_units hr)) (ge_ixS (k := 4) (pv 0)) ge_int) (gwf_in (pv 0) (pv 0) rfl (by rfl) T.len rfl))) (pv 0) (pv 0) rfl (by rfl) T.int sc__law_take.nd rfl (by first | exact Or.inl rfl | exact Or.inr rfl) (gss_cons (gs_setS (k := 0) (pv 0) (ge_add (ge_ixS (k := 0) (pv 0)) ge_int))
    (gss_cons (gs_setS (k := 2) (pv 0) (ge_mod (ge_bltT (b_int) (by rfl) T.int PyProof.Rows.boot_int (gl_cons (ge_add (ge_add (ge_ixS (k := 2) (pv 0)) (ge_mul (ge_var (pv 2)) ge_int)) ge_int) gl_nil)) ge_int))
    (gss_one (gs_if (GW.t (gw_or (gt_c cm_ge (ge_var (pv 2)) (ge_pow ge_int ge_int)) (gw_or1 (gt_c cm_le (ge_var (pv 2)) (ge_subI ge_int (ge_pow ge_int ge_int)))))) (gss_one (gs_setS (k := 1) (pv 0) (ge_blt (b_abs) (by rfl) T.abs (by decide +kernel) (gl_cons (ge_var (pv 2)) gl_nil)))) (gss_one (gs_setS (k := 4) (pv 0) ge_int)))))) gss_nil)
    (gss_cons (gs_if (gt_c cm_gt (ge_ixS (k := 1) (pv 0)) ge_int) (gss_cons (gs_asg (i := 3) (ge_mod (ge_bltT (b_int) (by rfl) T.int PyProof.Rows.boot_int (gl_cons (ge_ixS (k := 1) (pv 0)) gl_nil)) (ge_var (pv 1))) sc__law_take.nd rfl (by first | exact Or.inl rfl | exact Or.inr rfl))
    (gss_cons (gs_setS (k := 1) (pv 0) (ge_fdiv (ge_ixS (k := 1) (pv 0)) (ge_var (pv 1))))
    (gss_one (gs_ret (ge_var (pv 3)))))) gss_nil)
    (gss_cons (gs_if (gt_c cm_gt (ge_ixS (k := 4) (pv 0)) ge_int) (gss_one (gs_setS (k := 4) (pv 0) (ge_subI (ge_ixS (k := 4) (pv 0)) ge_int))) gss_nil)
    (gss_one (gs_ret (ge_mod (ge_bltT (b_int) (by rfl) T.int PyProof.Rows.boot_int (gl_cons (ge_call (Has.call h__law_mixed (hr.mono (by decide)) (takes_of rfl rfl rfl rfl)) (gl_cons (ge_var (pv 0)) gl_nil) h0) gl_nil)) (ge_var (pv 1))))))))), ?_⟩
  obtain ⟨m, rfl, hm, hq⟩ := h
  have e0 : startD ["store", "many", "cell", "found"] [D.sto, .int m] = [.val .sto, .val (.int m), .un, .un] := rfl
  simp only [S__law_mixed, ↓reduceIte, disX, dxf, dcallQ, dcallQF, eqv_strs, sgnD_eq, draise1, fAll, diR1, diR2, diL, diT, diS, dname, dapp, dappPop, dlenO, dixO, dretO, dSl, donone, dosome, dyes, dfv, dm1, fJoin, fIndex, fListF, fSortT, dRev, dIn, dNotIn, difE, fMax, fMin, fStr, fList, dseq, dif, dret, dretN, dretF, dretO, dasg, dasgO, dexpr, dnext, dop, dopF, dk, dvar, dcons, dnil, dlst, dflst, dtup, dIx, dI0, dII, dB0, dtest, dtruth, dand, dor, dnot, dcb, dcbF, dcall, dcallF, dixS, dsetS, dinS, difS, fLen, fInt, fAbs, endD, e0, scD, SOK, dEq, dNe, eqv_int, eqv_str, eqv_bl, beq_iff_eq, decide_eq_true_eq, Bool.not_eq_true, Bool.not_eq_true', true_and, and_true, and_self, false_and, and_false, reduceCtorEq, true_or, or_true, true_implies, if_true, if_false, Bool.false_eq_true, not_false_eq_true, dAdd, dMul, dAddF, List.getElem?_cons_zero, List.getElem?_cons_succ, List.set_cons_zero, List.set_cons_succ]
  repeat' (first | exact True.intro | exact rfl | intro _ | refine And.intro ?_ ?_ | split | exact Or.inl (Or.inr ⟨by decide, by decide⟩) | exact Or.inl (Or.inl ⟨by omega, by omega⟩) | exact Or.inl ⟨by omega, by omega⟩ | exact (by decide : (0:Int) < _) | (show (0:Int) < _; omega) | omega | decide | exact hq _ (by omega) (by omega) | exact Int.ediv_nonneg (by omega) (by omega) | exact hq _ (Int.emod_nonneg _ (by omega)) (.inl (Int.emod_lt_of_pos _ (by omega))))
abbrev s__law_edge : Stmt := top 36
theorem sc__law_edge : FnScope ["store", "many", "kind"] ["store", "many"] (defScope s__law_edge) := ⟨rfl, rfl, rfl, by decide +kernel, rfl, by decide +kernel, by decide +kernel⟩
def S__law_edge : DSp := S__law_take
theorem len__law_edge {ds : List D} {Q : D → Prop} {E : Ex → Prop} (h : S__law_edge ds Q E) : ds.length = 2 := len__law_take h
theorem ok__law_edge (T : Txt P K mg) (h__law_take : Has P w K mg base "_law_take" 2 false S__law_take) {f : Addr} {fd : FuncData} (F : Fun K "_law_edge" "_law_edge" s__law_edge f fd) : FnOk P w K mg base (L2.CX P w) 3 f fd ["store", "many"] (spD K mg false S__law_edge) := by
  refine fn_ok F sc__law_edge (fun ds Qd Ed h => len__law_edge h) (fun cdv Ar outer s H E R M ds Qd Ed hr hK hm h0 h => ?_)
  subst hK hm
  refine ⟨_, (gss_cons (gs_if (gt_c cm_lt (ge_var (pv 1)) ge_int) (gss_one (gs_ret ge_int)) gss_nil)
    (gss_cons (gs_asg (i := 2) (ge_call (Has.call h__law_take (hr.mono (by decide)) (takes_of rfl rfl rfl rfl)) (gl_cons (ge_var (pv 0)) (gl_cons ge_int gl_nil)) h0) sc__law_edge.nd rfl (by first | exact Or.inl rfl | exact Or.inr rfl))
    (gss_cons (gs_if (gt_c (cm_eq (room_units hr)) (ge_var (pv 2)) ge_int) (gss_one (gs_ret ge_int)) gss_nil)
    (gss_cons (gs_if (gt_c (cm_eq (room_units hr)) (ge_var (pv 2)) ge_int) (gss_one (gs_ret (ge_subI (ge_var (pv 1)) ge_int))) gss_nil)
    (gss_one (gs_ret (ge_call (Has.call h__law_take (hr.mono (by decide)) (takes_of rfl rfl rfl rfl)) (gl_cons (ge_var (pv 0)) (gl_cons (ge_var (pv 1)) gl_nil)) h0))))))), ?_⟩
  obtain ⟨m, rfl, hm, hq⟩ := h
  have e0 : startD ["store", "many", "kind"] [D.sto, .int m] = [.val .sto, .val (.int m), .un] := rfl
  simp only [S__law_take, ↓reduceIte, disX, dxf, dcallQ, dcallQF, eqv_strs, sgnD_eq, draise1, fAll, diR1, diR2, diL, diT, diS, dname, dapp, dappPop, dlenO, dixO, dretO, dSl, donone, dosome, dyes, dfv, dm1, fJoin, fIndex, fListF, fSortT, dRev, dIn, dNotIn, difE, fMax, fMin, fStr, fList, dseq, dif, dret, dretN, dretF, dretO, dasg, dasgO, dexpr, dnext, dop, dopF, dk, dvar, dcons, dnil, dlst, dflst, dtup, dIx, dI0, dII, dB0, dtest, dtruth, dand, dor, dnot, dcb, dcbF, dcall, dcallF, dixS, dsetS, dinS, difS, fLen, fInt, fAbs, endD, e0, scD, SOK, dEq, dNe, eqv_int, eqv_str, eqv_bl, beq_iff_eq, decide_eq_true_eq, Bool.not_eq_true, Bool.not_eq_true', true_and, and_true, and_self, false_and, and_false, reduceCtorEq, true_or, or_true, true_implies, if_true, if_false, Bool.false_eq_true, not_false_eq_true, dAdd, dMul, dAddF, List.getElem?_cons_zero, List.getElem?_cons_succ, List.set_cons_zero, List.set_cons_succ]
  by_cases c : m < 2
  · rw [if_pos c]
    exact hq 0 (by omega) (by omega)
  · rw [if_neg c]
    refine ⟨6, rfl, by decide, fun z h1 h2 => ?_⟩
    repeat' (first | exact True.intro | exact rfl | intro _ | refine And.intro ?_ ?_ | split | exact Or.inl (Or.inr ⟨by decide, by decide⟩) | exact Or.inl (Or.inl ⟨by omega, by omega⟩) | exact Or.inl ⟨by omega, by omega⟩ | exact (by decide : (0:Int) < _) | (show (0:Int) < _; omega) | omega | decide | exact hq _ (by omega) (by omega) | exact ⟨m, rfl, hm, hq⟩)
abbrev s__law_most : Stmt := top 41
theorem sc__law_most : FnScope ["width"] ["width"] (defScope s__law_most) := ⟨rfl, rfl, rfl, by decide +kernel, rfl, by decide +kernel, by decide +kernel⟩
def mostL : List Int := [8, 8, 5, 4, 3]
def S__law_most : DSp := fun ds Q E => ∃ w : Int, ds = [.int w] ∧ 1 ≤ w ∧ w ≤ 5 ∧ ∀ m, mostL[(w - 1).toNat]? = some m → 3 ≤ m → m ≤ 8 → Q (.int m)
theorem len__law_most {ds : List D} {Q : D → Prop} {E : Ex → Prop} (h : S__law_most ds Q E) : ds.length = 1 := by obtain ⟨m, h, _⟩ := h; rw [h]; rfl
theorem ok__law_most (T : Txt P K mg) {f : Addr} {fd : FuncData} (F : Fun K "_law_most" "_law_most" s__law_most f fd) : FnOk P w K mg base (L2.CX P w) 1 f fd ["width"] (spD K mg false S__law_most) := by
  refine fn_ok F sc__law_most (fun ds Qd Ed h => len__law_most h) (fun cdv Ar outer s H E R M ds Qd Ed hr hK hm h0 h => ?_)
  subst hK hm
  refine ⟨_, (gss_one (gs_ret (ge_ix (ge_lst (gl_cons ge_int (gl_cons ge_int (gl_cons ge_int (gl_cons ge_int (gl_cons ge_int gl_nil)))))) (ge_subI (ge_var (pv 0)) ge_int)))), ?_⟩
  obtain ⟨v, rfl, h1, h2, hq⟩ := h
  have e0 : startD ["width"] [D.int v] = [.val (.int v)] := rfl
  simp only [↓reduceIte, disX, dxf, dcallQ, dcallQF, eqv_strs, sgnD_eq, draise1, fAll, diR1, diR2, diL, diT, diS, dname, dapp, dappPop, dlenO, dixO, dretO, dSl, donone, dosome, dyes, dfv, dm1, fJoin, fIndex, fListF, fSortT, dRev, dIn, dNotIn, difE, fMax, fMin, fStr, fList, dseq, dif, dret, dretN, dretF, dretO, dasg, dasgO, dexpr, dnext, dop, dopF, dk, dvar, dcons, dnil, dlst, dflst, dtup, dIx, dI0, dII, dB0, dtest, dtruth, dand, dor, dnot, dcb, dcbF, dcall, dcallF, dixS, dsetS, dinS, difS, fLen, fInt, fAbs, endD, e0, scD, SOK, dEq, dNe, eqv_int, eqv_str, eqv_bl, beq_iff_eq, decide_eq_true_eq, Bool.not_eq_true, Bool.not_eq_true', true_and, and_true, and_self, false_and, and_false, reduceCtorEq, true_or, or_true, true_implies, if_true, if_false, Bool.false_eq_true, not_false_eq_true, dAdd, dMul, dAddF, List.getElem?_cons_zero, List.getElem?_cons_succ, List.set_cons_zero, List.set_cons_succ]
  have hv : v = 1 ∨ v = 2 ∨ v = 3 ∨ v = 4 ∨ v = 5 := by omega
  rcases hv with rfl | rfl | rfl | rfl | rfl <;> exact ⟨by decide, _, rfl, hq _ rfl (by decide) (by decide)⟩
abbrev s__law_free : Stmt := top 44
theorem sc__law_free : FnScope ["store", "signs", "size", "found", "k"] ["store", "signs", "size"] (defScope s__law_free) := ⟨rfl, rfl, rfl, by decide +kernel, rfl, by decide +kernel, by decide +kernel⟩
def S__law_free : DSp := fun ds Q E => ∃ (g : Str) (n : Int), ds = [.sto, .str g, .int n] ∧ 0 < g.length ∧ g.length ≤ 1000 ∧ (-1000 ≤ n ∧ n ≤ 1000) ∧ ∀ t : Str, t.length = n.toNat → (∀ c ∈ tl t, c ∈ tl g) → Q (.str t)
theorem len__law_free {ds : List D} {Q : D → Prop} {E : Ex → Prop} (h : S__law_free ds Q E) : ds.length = 3 := by obtain ⟨g, n, h, _⟩ := h; rw [h]; rfl
theorem ok__law_free (T : Txt P K mg) (h__law_take : Has P w K mg base "_law_take" 2 false S__law_take) {f : Addr} {fd : FuncData} (F : Fun K "_law_free" "_law_free" s__law_free f fd) : FnOk P w K mg base (L2.CX P w) 3 f fd ["store", "signs", "size"] (spD K mg false S__law_free) := by
  refine fn_ok F sc__law_free (fun ds Qd Ed h => len__law_free h) (fun cdv Ar outer s H E R M ds Qd Ed hr hK hm h0 h => ?_)
  subst hK hm
  refine ⟨_, (gss_cons (gs_asg (i := 3) ge_str sc__law_free.nd rfl (by first | exact Or.inl rfl | exact Or.inr rfl))
    (gss_cons (gs_for (passes_of rfl) (by rfl) (gi_rng1 (by rfl) T.range (gl_cons (ge_var (pv 2)) gl_nil)) (gg_name (i := 4) sc__law_free.nd rfl (by first | exact Or.inl rfl | exact Or.inr rfl)) (gss_one (gs_asg (i := 3) (ge_add (ge_var (pv 3)) (ge_ix (ge_var (pv 1)) (ge_call (Has.call h__law_take (hr.mono (by decide)) (takes_of rfl rfl rfl rfl)) (gl_cons (ge_var (pv 0)) (gl_cons (ge_blt (b_len) (by rfl) T.len PySem.boot_len (gl_cons (ge_var (pv 1)) gl_nil)) gl_nil)) h0))) sc__law_free.nd rfl (by first | exact Or.inl rfl | exact Or.inr rfl))))
    (gss_one (gs_ret (ge_var (pv 3)))))), ?_⟩
  obtain ⟨g, n, rfl, h1, h2, h3, hq⟩ := h
  have hL : (LINE : Nat) = 16777216 := rfl
  have e0 : startD ["store", "signs", "size", "found", "k"] [D.sto, .str g, .int n] = [.val .sto, .val (.str g), .val (.int n), .un, .un] := rfl
  refine for_r1 (n := n) (fun i env => ∃ (t : Str) (x : SD), env = [.val .sto, .val (.str g), .val (.int n), .val (.str t), x] ∧ t.length = i ∧ ∀ c ∈ tl t, c ∈ tl g) (by exact fun _ _ h => h) (by omega) (by omega) ⟨"", .un, rfl, rfl, fun c h => (by rw [tl_nil] at h; cases h)⟩ ?_ ?_
  · rintro i env' hi ⟨t, x, rfl, ht, hc⟩
    simp only [S__law_take, ↓reduceIte, disX, dxf, dcallQ, dcallQF, eqv_strs, sgnD_eq, draise1, fAll, diR1, diR2, diL, diT, diS, dname, dapp, dappPop, dlenO, dixO, dretO, dSl, donone, dosome, dyes, dfv, dm1, fJoin, fIndex, fListF, fSortT, dRev, dIn, dNotIn, difE, fMax, fMin, fStr, fList, dseq, dif, dret, dretN, dretF, dretO, dasg, dasgO, dexpr, dnext, dop, dopF, dk, dvar, dcons, dnil, dlst, dflst, dtup, dIx, dI0, dII, dB0, dtest, dtruth, dand, dor, dnot, dcb, dcbF, dcall, dcallF, dixS, dsetS, dinS, difS, fLen, fInt, fAbs, endD, e0, scD, SOK, dEq, dNe, eqv_int, eqv_str, eqv_bl, beq_iff_eq, decide_eq_true_eq, Bool.not_eq_true, Bool.not_eq_true', true_and, and_true, and_self, false_and, and_false, reduceCtorEq, true_or, or_true, true_implies, if_true, if_false, Bool.false_eq_true, not_false_eq_true, dAdd, dMul, dAddF, List.getElem?_cons_zero, List.getElem?_cons_succ, List.set_cons_zero, List.set_cons_succ]
    refine ⟨by omega, _, rfl, by omega, fun z hz1 hz2 => ⟨by omega, ?_⟩⟩
    obtain ⟨c, c1, c2, _⟩ := atI_int (l := tl g) (i := z) hz1 (by rw [← len_tl]; omega)
    refine ⟨c, c1, by rw [ht, len_one]; omega, _, _, rfl, by rw [len_app, ht, len_one], fun y hy => ?_⟩
    rw [tl_append, List.mem_append] at hy
    rcases hy with hy | hy
    · exact hc y hy
    · rw [tl_one, List.mem_singleton] at hy
      rw [hy]
      exact c2
  · rintro env' ⟨t, x, rfl, ht, hc⟩
    exact hq t ht hc
abbrev s__law_shuffled : Stmt := top 37
theorem sc__law_shuffled : FnScope ["store", "things", "rest", "found", "k"] ["store", "things"] (defScope s__law_shuffled) := ⟨rfl, rfl, rfl, by decide +kernel, rfl, by decide +kernel, by decide +kernel⟩
def S__law_shuffled : DSp := fun ds Q E => ∃ es : List D, ds = [.sto, .lst es] ∧ es.length ≤ 1000 ∧ ∀ fs : List D, fs.Perm es → Q (.lst fs)
theorem len__law_shuffled {ds : List D} {Q : D → Prop} {E : Ex → Prop} (h : S__law_shuffled ds Q E) : ds.length = 2 := by obtain ⟨g, h, _⟩ := h; rw [h]; rfl
theorem ok__law_shuffled (T : Txt P K mg) (h__law_take : Has P w K mg base "_law_take" 2 false S__law_take) {f : Addr} {fd : FuncData} (F : Fun K "_law_shuffled" "_law_shuffled" s__law_shuffled f fd) : FnOk P w K mg base (L2.CX P w) 3 f fd ["store", "things"] (spD K mg true S__law_shuffled) := by
  refine fn_ok F sc__law_shuffled (fun ds Qd Ed h => len__law_shuffled h) (fun cdv Ar outer s H E R M ds Qd Ed hr hK hm h0 h => ?_)
  subst hK hm
  refine ⟨_, (gss_cons (gs_asgO (i := 2) (gf_list (by rfl) T.list (ge_var (pv 1))) sc__law_shuffled.nd rfl (by first | exact Or.inl rfl | exact Or.inr rfl))
    (gss_cons (gs_asgO (i := 3) (gf_lst gl_nil) sc__law_shuffled.nd rfl (by first | exact Or.inl rfl | exact Or.inr rfl))
    (gss_cons (gs_for (passes_of rfl) (by rfl) (gi_rng1 (by rfl) T.range (gl_cons (ge_blt (b_len) (by rfl) T.len PySem.boot_len (gl_cons (ge_var (pv 1)) gl_nil)) gl_nil)) (gg_name (i := 4) sc__law_shuffled.nd rfl (by first | exact Or.inl rfl | exact Or.inr rfl)) (gss_one (gs_appPop (by decide) (pv 3) (pv 2) (ge_call (Has.call h__law_take (hr.mono (by decide)) (takes_of rfl rfl rfl rfl)) (gl_cons (ge_var (pv 0)) (gl_cons (ge_lenO (pv 2) (by rfl) T.len) gl_nil)) h0))))
    (gss_one (gs_retO (pv 3)))))), ?_⟩
  obtain ⟨es, rfl, h1, hq⟩ := h
  have hL : (LINE : Nat) = 16777216 := rfl
  have e0 : startD ["store", "things", "rest", "found", "k"] [D.sto, .lst es] = [.val .sto, .val (.lst es), .un, .un, .un] := rfl
  refine ⟨by simp, ?_⟩
  refine for_r1 (n := es.length) (fun i env => ∃ (rs fs : List D) (x : SD), env = [.val .sto, .val (.lst es), .own rs, .own fs, x] ∧ fs.length = i ∧ (fs ++ rs).Perm es) (by exact fun _ _ h => h) (by omega) (by omega) ⟨es, [], .un, rfl, rfl, List.Perm.refl es⟩ ?_ ?_
  · rintro i env' hi ⟨rs, fs, x, rfl, hf, hp⟩
    simp only [S__law_take, ↓reduceIte, disX, dxf, dcallQ, dcallQF, eqv_strs, sgnD_eq, draise1, fAll, diR1, diR2, diL, diT, diS, dname, dapp, dappPop, dlenO, dixO, dretO, dSl, donone, dosome, dyes, dfv, dm1, fJoin, fIndex, fListF, fSortT, dRev, dIn, dNotIn, difE, fMax, fMin, fStr, fList, dseq, dif, dret, dretN, dretF, dretO, dasg, dasgO, dexpr, dnext, dop, dopF, dk, dvar, dcons, dnil, dlst, dflst, dtup, dIx, dI0, dII, dB0, dtest, dtruth, dand, dor, dnot, dcb, dcbF, dcall, dcallF, dixS, dsetS, dinS, difS, fLen, fInt, fAbs, endD, e0, scD, SOK, dEq, dNe, eqv_int, eqv_str, eqv_bl, beq_iff_eq, decide_eq_true_eq, Bool.not_eq_true, Bool.not_eq_true', true_and, and_true, and_self, false_and, and_false, reduceCtorEq, true_or, or_true, true_implies, if_true, if_false, Bool.false_eq_true, not_false_eq_true, dAdd, dMul, dAddF, List.getElem?_cons_zero, List.getElem?_cons_succ, List.set_cons_zero, List.set_cons_succ]
    have el := hp.length_eq
    rw [List.length_append] at el
    refine ⟨_, rfl, by omega, fun z hz1 hz2 => ?_⟩
    have hk : z.toNat < rs.length := by omega
    have ez : ((z.toNat : Nat) : Int) = z := by omega
    have hs := (ixN_seq (ixn_nat hk)).1
    rw [ez] at hs
    refine ⟨by omega, by omega, z.toNat, rs[z.toNat], hs, List.getElem?_eq_getElem hk, by omega, _, _, _, rfl, by rw [List.length_append, hf]; rfl, ?_⟩
    rw [List.append_assoc]
    exact ((perm_erase hk).append_left fs).trans hp
  · rintro env' ⟨rs, fs, x, rfl, hf, hp⟩
    have e := hp.length_eq
    have hr : rs = [] := List.eq_nil_of_length_eq_zero (by rw [List.length_append] at e; omega)
    rw [hr, List.append_nil] at hp
    exact hq fs hp
/-! ### texts of outcomes -/
def dig : List Nat := [48, 49, 50, 51, 52]
theorem dig_tl : tl ("01234" : Str) = dig := by rw [tl_ofString]; rfl
/-- the first w outcomes -/
def outs (w : Nat) : Str := ⟨(dig.take w).toArray⟩
theorem outs_tl (w : Nat) : tl (outs w) = dig.take w := rfl
theorem cut_outs {w : Int} (h1 : 0 ≤ w) (h2 : w ≤ 5) : cutS "01234" none (some w) = outs w.toNat := by
  refine ext_tl ?_
  have e : ((w.toNat : Nat) : Int) = w := by omega
  have z : ("01234" : Str).length = 5 := by rw [len_tl, dig_tl]; rfl
  have := tl_take (z := "01234") (k := w.toNat) (by omega)
  rw [e] at this
  rw [this, dig_tl, outs_tl]
abbrev s__law_row : Stmt := top 42
theorem sc__law_row : FnScope ["store", "width", "size", "kind", "odd", "found", "k", "y"] ["store", "width", "size"] (defScope s__law_row) := ⟨rfl, rfl, rfl, by decide +kernel, rfl, by decide +kernel, by decide +kernel⟩
def S__law_row : DSp := fun ds Q E => ∃ (v n : Int), ds = [.sto, .int v, .int n] ∧ 1 ≤ v ∧ v ≤ 5 ∧ 0 ≤ n ∧ n ≤ 100 ∧ ∀ t : Str, t.length = n.toNat → (∀ c ∈ tl t, c ∈ dig.take v.toNat) → Q (.str t)
theorem len__law_row {ds : List D} {Q : D → Prop} {E : Ex → Prop} (h : S__law_row ds Q E) : ds.length = 3 := by obtain ⟨g, n, h, _⟩ := h; rw [h]; rfl
theorem digit_text {y : Int} {v : Int} (h1 : 0 ≤ y) (h2 : y < v) (h3 : v ≤ 5) : ∃ c, Str.ofString (toString y) = ⟨#[c]⟩ ∧ c ∈ dig.take v.toNat := by
  refine ⟨48 + y.toNat, ?_⟩
  have hy : y = 0 ∨ y = 1 ∨ y = 2 ∨ y = 3 ∨ y = 4 := by omega
  have hv : v = 1 ∨ v = 2 ∨ v = 3 ∨ v = 4 ∨ v = 5 := by omega
  rcases hy with rfl | rfl | rfl | rfl | rfl <;> rcases hv with rfl | rfl | rfl | rfl | rfl <;> first | (exfalso; omega) | exact ⟨by decide +kernel, by decide +kernel⟩
theorem ok__law_row (T : Txt P K mg) (h__law_edge : Has P w K mg base "_law_edge" 3 false S__law_edge) (h__law_take : Has P w K mg base "_law_take" 2 false S__law_take) {f : Addr} {fd : FuncData} (F : Fun K "_law_row" "_law_row" s__law_row f fd) : FnOk P w K mg base (L2.CX P w) 4 f fd ["store", "width", "size"] (spD K mg false S__law_row) := by
  refine fn_ok F sc__law_row (fun ds Qd Ed h => len__law_row h) (fun cdv Ar outer s H E R M ds Qd Ed hr hK hm h0 h => ?_)
  subst hK hm
  refine ⟨_, (gss_cons (gs_asg (i := 3) (ge_call (Has.call h__law_take (hr.mono (by decide)) (takes_of rfl rfl rfl rfl)) (gl_cons (ge_var (pv 0)) (gl_cons ge_int gl_nil)) h0) sc__law_row.nd rfl (by first | exact Or.inl rfl | exact Or.inr rfl))
    (gss_cons (gs_asg (i := 4) (ge_call (Has.call h__law_edge (hr.mono (by decide)) (takes_of rfl rfl rfl rfl)) (gl_cons (ge_var (pv 0)) (gl_cons (ge_var (pv 2)) gl_nil)) h0) sc__law_row.nd rfl (by first | exact Or.inl rfl | exact Or.inr rfl))
    (gss_cons (gs_asg (i := 5) ge_str sc__law_row.nd rfl (by first | exact Or.inl rfl | exact Or.inr rfl))
    (gss_cons (gs_for (passes_of rfl) (by rfl) (gi_rng1 (by rfl) T.range (gl_cons (ge_var (pv 2)) gl_nil)) (gg_name (i := 6) sc__law_row.nd rfl (by first | exact Or.inl rfl | exact Or.inr rfl)) (gss_cons (gs_if (GW.t (gw_or (gt_c (cm_eq (room_units hr)) (ge_var (pv 3)) ge_int) (gw_or1 (GW.t (gw_and (gt_c (cm_eq (room_units hr)) (ge_var (pv 3)) ge_int) (gw_and1 (gt_c (cm_ne (room_units hr)) (ge_var (pv 6)) (ge_var (pv 4))))))))) (gss_one (gs_asg (i := 7) ge_int sc__law_row.nd rfl (by first | exact Or.inl rfl | exact Or.inr rfl))) (gss_one (gs_if (GW.t (gw_or (gt_c (cm_eq (room_units hr)) (ge_var (pv 3)) ge_int) (gw_or1 (gt_c (cm_eq (room_units hr)) (ge_var (pv 3)) ge_int)))) (gss_one (gs_asg (i := 7) (ge_subI (ge_var (pv 1)) ge_int) sc__law_row.nd rfl (by first | exact Or.inl rfl | exact Or.inr rfl))) (gss_one (gs_if (gt_c (cm_eq (room_units hr)) (ge_var (pv 3)) ge_int) (gss_one (gs_asg (i := 7) (ge_mod (ge_bltT (b_int) (by rfl) T.int PyProof.Rows.boot_int (gl_cons (ge_add (ge_var (pv 6)) (ge_var (pv 4))) gl_nil)) (ge_var (pv 1))) sc__law_row.nd rfl (by first | exact Or.inl rfl | exact Or.inr rfl))) (gss_one (gs_asg (i := 7) (ge_call (Has.call h__law_take (hr.mono (by decide)) (takes_of rfl rfl rfl rfl)) (gl_cons (ge_var (pv 0)) (gl_cons (ge_var (pv 1)) gl_nil)) h0) sc__law_row.nd rfl (by first | exact Or.inl rfl | exact Or.inr rfl))))))))
    (gss_one (gs_asg (i := 5) (ge_add (ge_var (pv 5)) (ge_bltT (b_str) (by rfl) T.str PyProof.Rows.boot_str (gl_cons (ge_var (pv 7)) gl_nil))) sc__law_row.nd rfl (by first | exact Or.inl rfl | exact Or.inr rfl)))))
    (gss_one (gs_ret (ge_var (pv 5)))))))), ?_⟩
  obtain ⟨v, n, rfl, h1, h2, h3, h4, hq⟩ := h
  have hL : (LINE : Nat) = 16777216 := rfl
  have e0 : startD ["store", "width", "size", "kind", "odd", "found", "k", "y"] [D.sto, .int v, .int n] = [.val .sto, .val (.int v), .val (.int n), .un, .un, .un, .un, .un] := rfl
  refine ⟨8, rfl, by decide, fun kind k1 k2 => ⟨n, rfl, by omega, fun odd o1 o2 => ?_⟩⟩
  refine for_r1 (n := n) (fun i env => ∃ (t : Str) (x y : SD), env = [.val .sto, .val (.int v), .val (.int n), .val (.int kind), .val (.int odd), .val (.str t), x, y] ∧ t.length = i ∧ ∀ c ∈ tl t, c ∈ dig.take v.toNat) (by exact fun _ _ h => h) (by omega) (by omega) ⟨"", .un, .un, rfl, rfl, fun c h => (by rw [tl_nil] at h; cases h)⟩ ?_ ?_
  · rintro i env' hi ⟨t, x, y, rfl, ht, hc⟩
    have key : ∀ z : Int, 0 ≤ z → z < v → z.natAbs.log2 < 1920 ∧ t.length + (Str.ofString (toString z)).length ≤ LINE ∧ ∃ t' x' y', [SD.val D.sto, .val (.int v), .val (.int n), .val (.int kind), .val (.int odd), .val (.str (t ++ Str.ofString (toString z))), SD.val (.int (i : Nat)), SD.val (.int z)] = [SD.val D.sto, .val (.int v), .val (.int n), .val (.int kind), .val (.int odd), .val (.str t'), x', y'] ∧ t'.length = i + 1 ∧ ∀ c ∈ tl t', c ∈ dig.take v.toNat := by
      intro z z1 z2
      obtain ⟨c, c1, c2⟩ := digit_text z1 z2 h2
      rw [c1]
      refine ⟨?_, by rw [ht, len_one]; omega, _, _, _, rfl, by rw [len_app, ht, len_one], fun y hy => ?_⟩
      · exact log_small z1 (by omega)
      · rw [tl_append, List.mem_append] at hy
        rcases hy with hy | hy
        · exact hc y hy
        · rw [tl_one, List.mem_singleton] at hy
          rw [hy]
          exact c2
    simp only [S__law_take, ↓reduceIte, disX, dxf, dcallQ, dcallQF, eqv_strs, sgnD_eq, draise1, fAll, diR1, diR2, diL, diT, diS, dname, dapp, dappPop, dlenO, dixO, dretO, dSl, donone, dosome, dyes, dfv, dm1, fJoin, fIndex, fListF, fSortT, dRev, dIn, dNotIn, difE, fMax, fMin, fStr, fList, dseq, dif, dret, dretN, dretF, dretO, dasg, dasgO, dexpr, dnext, dop, dopF, dk, dvar, dcons, dnil, dlst, dflst, dtup, dIx, dI0, dII, dB0, dtest, dtruth, dand, dor, dnot, dcb, dcbF, dcall, dcallF, dixS, dsetS, dinS, difS, fLen, fInt, fAbs, endD, e0, scD, SOK, dEq, dNe, eqv_int, eqv_str, eqv_bl, beq_iff_eq, decide_eq_true_eq, Bool.not_eq_true, Bool.not_eq_true', true_and, and_true, and_self, false_and, and_false, reduceCtorEq, true_or, or_true, true_implies, if_true, if_false, Bool.false_eq_true, not_false_eq_true, dAdd, dMul, dAddF, List.getElem?_cons_zero, List.getElem?_cons_succ, List.set_cons_zero, List.set_cons_succ]
    repeat' split
    all_goals first
      | exact key _ (by omega) (by omega)
      | exact ⟨show 0 < v by omega, key _ (Int.emod_nonneg _ (by omega)) (Int.emod_lt_of_pos _ (by omega))⟩
      | exact ⟨v, rfl, by omega, fun z z1 z2 => key z z1 (by omega)⟩
  · rintro env' ⟨t, x, y, rfl, ht, hc⟩
    exact hq t ht hc
/-! ### the program's defs -/
theorem tl_cut5 {w : Int} (h1 : 0 ≤ w) : tl (cutS "01234" none (some w)) = dig.take w.toNat := by
  have e : ((w.toNat : Nat) : Int) = w := by omega
  have z : ("01234" : Str).length = 5 := by rw [len_tl, dig_tl]; rfl
  unfold cutS
  have e1 : HT.sIx ("01234" : Str).length 0 none = 0 := rfl
  have e2 : HT.sIx ("01234" : Str).length ("01234" : Str).length (some w) = min w.toNat 5 := by
    have q := HT.sIx_nat ("01234" : Str).length ("01234" : Str).length w.toNat
    rw [e, z] at q
    rw [z]
    exact q
  rw [e1, e2]
  show ((tl "01234").drop 0).take _ = _
  rw [dig_tl, List.drop_zero, Nat.sub_zero, ← List.take_take]
  rfl
/-- an order: the first outcomes in some order, one at least -/
def isOrd (l : List Nat) : Prop := l ≠ [] ∧ l.Perm (dig.take l.length)
theorem sorted_dig (n : Nat) : sortedS ((dig.take n).map fun c => (⟨#[c]⟩ : Str)) = true := by
  have hn : n = 0 ∨ n = 1 ∨ n = 2 ∨ n = 3 ∨ n = 4 ∨ 5 ≤ n := by omega
  rcases hn with rfl | rfl | rfl | rfl | rfl | h
  all_goals first
    | decide
    | (rw [List.take_of_length_le (by show 5 ≤ n; exact h)]; decide)
theorem flat_signs (l : List Nat) : (l.map fun c => (⟨#[c]⟩ : Str)).flatMap tl = l := by
  induction l with
  | nil => rfl
  | cons c l ih => rw [List.map_cons, List.flatMap_cons, ih]; rfl
theorem order_iff {t : Str} {ss : List Str} (hp : ss.Perm (signsS t)) (hs : sortedS ss = true) : ss = signsS (cutS "01234" none (some ((t.length : Nat) : Int))) ↔ (tl t).Perm (dig.take (tl t).length) := by
  have e : tl (cutS "01234" none (some ((t.length : Nat) : Int))) = dig.take (tl t).length := by rw [tl_cut5 (by omega), ← len_tl]; rfl
  have e2 : signsS (cutS "01234" none (some ((t.length : Nat) : Int))) = (dig.take (tl t).length).map fun c => (⟨#[c]⟩ : Str) := by
    show (tl _).map _ = _
    rw [e]
  rw [e2]
  constructor
  · intro h
    rw [h] at hp
    have q := hp.flatMap_right tl
    rw [flat_signs] at q
    have q2 : (signsS t).flatMap tl = tl t := flat_signs (tl t)
    rw [q2] at q
    exact q.symm
  · intro h
    exact sorted_uniq hs (sorted_dig _) (hp.trans (h.map _))
abbrev s_is_made_of : Stmt := top 24
theorem sc_is_made_of : FnScope ["text", "letters", "letter"] ["text", "letters"] (defScope s_is_made_of) := ⟨rfl, rfl, rfl, by decide +kernel, rfl, by decide +kernel, by decide +kernel⟩
def S_is_made_of : DSp := fun ds Q E => ∃ (t u : Str), ds = [.str t, .str u] ∧ t.length ≤ 1000 ∧ Q (.bl (decide (∀ c ∈ tl t, c ∈ tl u)))
theorem len_is_made_of {ds : List D} {Q : D → Prop} {E : Ex → Prop} (h : S_is_made_of ds Q E) : ds.length = 2 := by obtain ⟨g, n, h, _⟩ := h; rw [h]; rfl
theorem ok_is_made_of (T : Txt P K mg) {f : Addr} {fd : FuncData} (F : Fun K "is_made_of" "is_made_of" s_is_made_of f fd) : FnOk P w K mg base (L2.CX P w) 1 f fd ["text", "letters"] (spD K mg false S_is_made_of) := by
  refine fn_ok F sc_is_made_of (fun ds Qd Ed h => len_is_made_of h) (fun cdv Ar outer s H E R M ds Qd Ed hr hK hm h0 h => ?_)
  subst hK hm
  refine ⟨_, (gss_one (gs_ret (ge_blt (b_all (by rfl)) (by rfl) T.all (by decide +kernel) (gl_cons (GF.e (gf_lc (own := [("letter", 2)]) (js := [2]) (by rfl) sc_is_made_of.nd (gi_str (ge_var (pv 0))) (by show blkC ["text", "letters", "letter"] (defScope s_is_made_of) _ _ = true; decide +kernel) (by decide) (fun B hB _ _ _ _ _ => gg_name (i := 2) sc_is_made_of.nd rfl (by first | exact Or.inl rfl | exact Or.inr rfl)) (fun B hB _ _ _ _ _ => gts_nil) (fun B hB _ _ _ _ _ => (ge_c (cm_in (hK := congrArg RC.K hB)) (ge_var (pv 2)) (ge_var (pv 1)))))) gl_nil)))), ?_⟩
  obtain ⟨t, u, rfl, h1, hq⟩ := h
  have hL : (LINE : Nat) = 16777216 := rfl
  refine dlc_map (ds := sgnD t) (fun d => match d with
    | .str x => .bl (hasS x u)
    | d => d) (by exact fun _ h => h) (by rw [sgnD_eq, List.length_map]; show (List.map _ (tl t)).length ≤ _; rw [List.length_map, ← len_tl]; omega) (fun d hd Q' h => ?_) ?_
  · rw [sgnD_eq] at hd
    obtain ⟨x, _, rfl⟩ := List.mem_map.mp hd
    exact h
  · refine ⟨(tl t).map fun c => decide (c ∈ tl u), ?_, ?_⟩
    · rw [sgnD_eq]
      unfold signsS
      rw [List.map_map, List.map_map, List.map_map]
      refine List.map_congr_left fun c _ => ?_
      show D.bl (hasS ⟨#[c]⟩ u) = D.bl (decide (c ∈ tl u))
      rw [hasS_one]
    · have e : ((tl t).map fun c => decide (c ∈ tl u)).all id = decide (∀ c ∈ tl t, c ∈ tl u) := by
        rw [List.all_map]
        induction tl t with
        | nil => rfl
        | cons c l ih =>
          rw [List.all_cons, ih]
          simp
      rw [e]
      exact hq
abbrev s_is_outcomes : Stmt := top 25
theorem sc_is_outcomes : FnScope ["text", "width"] ["text", "width"] (defScope s_is_outcomes) := ⟨rfl, rfl, rfl, by decide +kernel, rfl, by decide +kernel, by decide +kernel⟩
def S_is_outcomes : DSp := fun ds Q E => ∃ (t : Str) (w : Int), ds = [.str t, .int w] ∧ t.length ≤ 1000 ∧ 1 ≤ w ∧ w ≤ 5 ∧ Q (.bl (decide (∀ c ∈ tl t, c ∈ dig.take w.toNat)))
theorem len_is_outcomes {ds : List D} {Q : D → Prop} {E : Ex → Prop} (h : S_is_outcomes ds Q E) : ds.length = 2 := by obtain ⟨g, n, h, _⟩ := h; rw [h]; rfl
theorem ok_is_outcomes (T : Txt P K mg) (h_is_made_of : Has P w K mg base "is_made_of" 1 false S_is_made_of) {f : Addr} {fd : FuncData} (F : Fun K "is_outcomes" "is_outcomes" s_is_outcomes f fd) : FnOk P w K mg base (L2.CX P w) 2 f fd ["text", "width"] (spD K mg false S_is_outcomes) := by
  refine fn_ok F sc_is_outcomes (fun ds Qd Ed h => len_is_outcomes h) (fun cdv Ar outer s H E R M ds Qd Ed hr hK hm h0 h => ?_)
  subst hK hm
  refine ⟨_, (gss_one (gs_ret (ge_call (Has.call h_is_made_of (hr.mono (by decide)) (takes_of rfl rfl rfl rfl)) (gl_cons (ge_var (pv 0)) (gl_cons (ge_sl (c_outs T) go_none (go_some (ge_var (pv 1)))) gl_nil)) h0))), ?_⟩
  obtain ⟨t, v, rfl, h1, h2, h3, hq⟩ := h
  have hL : (LINE : Nat) = 16777216 := rfl
  have e5 : ("01234" : Str).length = 5 := by rw [len_tl, dig_tl]; rfl
  refine ⟨by omega, ?_⟩
  rw [cut_outs (by omega) h3]
  exact ⟨t, _, rfl, h1, hq⟩
abbrev s_check_order : Stmt := top 28
theorem sc_check_order : FnScope ["text"] ["text"] (defScope s_check_order) := ⟨rfl, rfl, rfl, by decide +kernel, rfl, by decide +kernel, by decide +kernel⟩
def S_check_order : DSp := fun ds Q E => ∃ t : Str, ds = [.str t] ∧ t.length ≤ 1000 ∧ (∀ c ∈ tl t, c < 128) ∧ (isOrd (tl t) → Q .non) ∧ (¬ isOrd (tl t) → E ("BadRow", [("found", .str t)]))
theorem len_check_order {ds : List D} {Q : D → Prop} {E : Ex → Prop} (h : S_check_order ds Q E) : ds.length = 1 := by obtain ⟨g, h, _⟩ := h; rw [h]; rfl
theorem ok_check_order (T : Txt P K mg) {f : Addr} {fd : FuncData} (F : Fun K "check_order" "check_order" s_check_order f fd) : FnOk P w K mg base (L2.CX P w) 3 f fd ["text"] (spD K mg false S_check_order) := by
  refine fn_ok F sc_check_order (fun ds Qd Ed h => len_check_order h) (fun cdv Ar outer s H E R M ds Qd Ed hr hK hm h0 h => ?_)
  subst hK hm
  refine ⟨_, (gss_one (gs_if (GW.t (gw_or (gt_c (cm_eq (room_units hr)) (ge_var (pv 0)) ge_str) (gw_or1 (gt_c (cm_ne (room_units hr)) (GF.e (gf_sorted (by rfl) T.sorted (ge_var (pv 0)))) (ge_bltT (b_list (by rfl)) (by rfl) T.list PyProof.Rows.boot_list (gl_cons (ge_sl (c_outs T) go_none (go_some (ge_blt (b_len) (by rfl) T.len PySem.boot_len (gl_cons (ge_var (pv 0)) gl_nil)))) gl_nil)))))) (gss_one (gs_rai1 (k := 1) T.r_BadRow (hr.mono (by decide)) (takes_of rfl rfl rfl rfl) (ge_var (pv 0)))) gss_nil)), ?_⟩
  obtain ⟨t, rfl, h1, h2, h3, h4⟩ := h
  have hL : (LINE : Nat) = 16777216 := rfl
  have e0 : startD ["text"] [.str t] = [.val (.str t)] := rfl
  simp only [↓reduceIte, disX, dxf, dcallQ, dcallQF, eqv_strs, sgnD_eq, draise1, fAll, diR1, diR2, diL, diT, diS, dname, dapp, dappPop, dlenO, dixO, dretO, dSl, donone, dosome, dyes, dfv, dm1, fJoin, fIndex, fListF, fSortT, dRev, dIn, dNotIn, difE, fMax, fMin, fStr, fList, dseq, dif, dret, dretN, dretF, dretO, dasg, dasgO, dexpr, dnext, dop, dopF, dk, dvar, dcons, dnil, dlst, dflst, dtup, dIx, dI0, dII, dB0, dtest, dtruth, dand, dor, dnot, dcb, dcbF, dcall, dcallF, dixS, dsetS, dinS, difS, fLen, fInt, fAbs, endD, e0, scD, SOK, dEq, dNe, eqv_int, eqv_str, eqv_bl, beq_iff_eq, decide_eq_true_eq, Bool.not_eq_true, Bool.not_eq_true', true_and, and_true, and_self, false_and, and_false, reduceCtorEq, true_or, or_true, true_implies, if_true, if_false, Bool.false_eq_true, not_false_eq_true, dAdd, dMul, dAddF, List.getElem?_cons_zero, List.getElem?_cons_succ, List.set_cons_zero, List.set_cons_succ]
  have e5 : ("01234" : Str).length = 5 := by rw [len_tl, dig_tl]; rfl
  have okS : ∀ l : List Nat, (∀ c ∈ l, c < 128) → ∀ x ∈ l.map (fun c => (⟨#[c]⟩ : Str)), PyData.strOk x = true := fun l hl x hx => by
    obtain ⟨c, hc, rfl⟩ := List.mem_map.mp hx
    have := hl c hc
    show (#[c] : Array Nat).all (· < 0x110000) = true
    simp
    omega
  have dlt : ∀ n, ∀ c ∈ dig.take n, c < 128 := fun n c hc => by
    have : c ∈ dig := List.mem_of_mem_take hc
    simp [dig] at this
    omega
  have ecut : tl (cutS "01234" none (some ((t.length : Nat) : Int))) = dig.take t.length := tl_cut5 (by omega)
  by_cases c : t = ""
  · rw [if_pos c]
    refine h4 fun z => z.1 ?_
    rw [c, tl_nil]
  · rw [if_neg c]
    refine ⟨by omega, fun ss hp hs => ⟨by omega, by omega, ?_, .inr ⟨?_, ?_⟩, ?_⟩⟩
    · rw [len_tl, ecut, List.length_take]
      have : dig.length = 5 := rfl
      omega
    · refine shp_strs _ fun x hx => okS (tl t) h2 x ?_
      exact hp.mem_iff.mp hx
    · refine shp_strs _ fun x hx => okS (dig.take t.length) (dlt _) x ?_
      rw [← ecut]
      exact hx
    · have iff := order_iff hp hs
      have ne : tl t ≠ [] := fun z => c (ext_tl (by rw [z, tl_nil]))
      split
      · rename_i q
        exact h4 fun z => (of_decide_eq_false q) (iff.mpr z.2)
      · rename_i q
        have q2 := of_decide_eq_true (by simpa using q)
        exact h3 ⟨ne, iff.mp q2⟩
def okText (t : Str) (w : Int) (r : Int) : Prop := (t.length : Int) ≤ r ∧ ∀ c ∈ tl t, c ∈ dig.take w.toNat
abbrev s_is_beginning : Stmt := top 26
theorem sc_is_beginning : FnScope ["text", "width", "rounds"] ["text", "width", "rounds"] (defScope s_is_beginning) := ⟨rfl, rfl, rfl, by decide +kernel, rfl, by decide +kernel, by decide +kernel⟩
instance okTextD (t : Str) (w r : Int) : Decidable (okText t w r) := inferInstanceAs (Decidable (_ ∧ _))
def S_is_beginning : DSp := fun ds Q E => ∃ (t : Str) (w r : Int), ds = [.str t, .int w, .int r] ∧ t.length ≤ 1000 ∧ 1 ≤ w ∧ w ≤ 5 ∧ Q (.bl (decide (okText t w r)))
theorem len_is_beginning {ds : List D} {Q : D → Prop} {E : Ex → Prop} (h : S_is_beginning ds Q E) : ds.length = 3 := by obtain ⟨g, _, _, h, _⟩ := h; rw [h]; rfl
theorem ok_is_beginning (T : Txt P K mg) (h_is_outcomes : Has P w K mg base "is_outcomes" 2 false S_is_outcomes) {f : Addr} {fd : FuncData} (F : Fun K "is_beginning" "is_beginning" s_is_beginning f fd) : FnOk P w K mg base (L2.CX P w) 3 f fd ["text", "width", "rounds"] (spD K mg false S_is_beginning) := by
  refine fn_ok F sc_is_beginning (fun ds Qd Ed h => len_is_beginning h) (fun cdv Ar outer s H E R M ds Qd Ed hr hK hm h0 h => ?_)
  subst hK hm
  refine ⟨_, (gss_one (gs_ret (ge_and (ge_c cm_le (ge_blt (b_len) (by rfl) T.len PySem.boot_len (gl_cons (ge_var (pv 0)) gl_nil)) (ge_var (pv 2))) (ge_one (ge_call (Has.call h_is_outcomes (hr.mono (by decide)) (takes_of rfl rfl rfl rfl)) (gl_cons (ge_var (pv 0)) (gl_cons (ge_var (pv 1)) gl_nil)) h0))))), ?_⟩
  obtain ⟨t, v, r, rfl, h1, h2, h3, hq⟩ := h
  have hL : (LINE : Nat) = 16777216 := rfl
  have e0 : startD ["text", "width", "rounds"] [.str t, .int v, .int r] = [.val (.str t), .val (.int v), .val (.int r)] := rfl
  simp only [S_is_outcomes, ↓reduceIte, disX, dxf, dcallQ, dcallQF, eqv_strs, sgnD_eq, draise1, fAll, diR1, diR2, diL, diT, diS, dname, dapp, dappPop, dlenO, dixO, dretO, dSl, donone, dosome, dyes, dfv, dm1, fJoin, fIndex, fListF, fSortT, dRev, dIn, dNotIn, difE, fMax, fMin, fStr, fList, dseq, dif, dret, dretN, dretF, dretO, dasg, dasgO, dexpr, dnext, dop, dopF, dk, dvar, dcons, dnil, dlst, dflst, dtup, dIx, dI0, dII, dB0, dtest, dtruth, dand, dor, dnot, dcb, dcbF, dcall, dcallF, dixS, dsetS, dinS, difS, fLen, fInt, fAbs, endD, e0, scD, SOK, dEq, dNe, eqv_int, eqv_str, eqv_bl, beq_iff_eq, decide_eq_true_eq, Bool.not_eq_true, Bool.not_eq_true', true_and, and_true, and_self, false_and, and_false, reduceCtorEq, true_or, or_true, true_implies, if_true, if_false, Bool.false_eq_true, not_false_eq_true, dAdd, dMul, dAddF, List.getElem?_cons_zero, List.getElem?_cons_succ, List.set_cons_zero, List.set_cons_succ]
  refine ⟨by omega, ?_⟩
  by_cases c : (t.length : Int) ≤ r
  · have ec : decide ((t.length : Int) ≤ r) = true := decide_eq_true c
    show (if decide ((t.length : Int) ≤ r) = true then _ else _)
    rw [if_pos ec]
    refine ⟨t, v, rfl, h1, h2, h3, ?_⟩
    have e : decide (okText t v r) = decide (∀ c ∈ tl t, c ∈ dig.take v.toNat) := by
      by_cases q : ∀ c ∈ tl t, c ∈ dig.take v.toNat
      · rw [decide_eq_true q]; exact decide_eq_true ⟨c, q⟩
      · rw [decide_eq_false q]; exact decide_eq_false fun h => q h.2
    rw [← e]
    exact hq
  · have ec : ¬ decide ((t.length : Int) ≤ r) = true := fun h => c (of_decide_eq_true h)
    show (if decide ((t.length : Int) ≤ r) = true then _ else _)
    rw [if_neg ec]
    have e : decide (okText t v r) = false := decide_eq_false fun h => c h.1
    rw [← e]
    exact hq
abbrev s_check_beginning : Stmt := top 27
theorem sc_check_beginning : FnScope ["text", "width", "rounds"] ["text", "width", "rounds"] (defScope s_check_beginning) := ⟨rfl, rfl, rfl, by decide +kernel, rfl, by decide +kernel, by decide +kernel⟩
def S_check_beginning : DSp := fun ds Q E => ∃ (t : Str) (w r : Int), ds = [.str t, .int w, .int r] ∧ t.length ≤ 1000 ∧ 1 ≤ w ∧ w ≤ 5 ∧ (okText t w r → Q .non) ∧ (¬ okText t w r → E ("BadRow", [("found", .str t)]))
theorem len_check_beginning {ds : List D} {Q : D → Prop} {E : Ex → Prop} (h : S_check_beginning ds Q E) : ds.length = 3 := by obtain ⟨g, _, _, h, _⟩ := h; rw [h]; rfl
theorem ok_check_beginning (T : Txt P K mg) (h_is_beginning : Has P w K mg base "is_beginning" 3 false S_is_beginning) {f : Addr} {fd : FuncData} (F : Fun K "check_beginning" "check_beginning" s_check_beginning f fd) : FnOk P w K mg base (L2.CX P w) 4 f fd ["text", "width", "rounds"] (spD K mg false S_check_beginning) := by
  refine fn_ok F sc_check_beginning (fun ds Qd Ed h => len_check_beginning h) (fun cdv Ar outer s H E R M ds Qd Ed hr hK hm h0 h => ?_)
  subst hK hm
  refine ⟨_, (gss_one (gs_if (gt_not (gt_val (ge_call (Has.call h_is_beginning (hr.mono (by decide)) (takes_of rfl rfl rfl rfl)) (gl_cons (ge_var (pv 0)) (gl_cons (ge_var (pv 1)) (gl_cons (ge_var (pv 2)) gl_nil))) h0))) (gss_one (gs_rai1 (k := 1) T.r_BadRow (hr.mono (by decide)) (takes_of rfl rfl rfl rfl) (ge_var (pv 0)))) gss_nil)), ?_⟩
  obtain ⟨t, v, r, rfl, h1, h2, h3, h4, h5⟩ := h
  have hL : (LINE : Nat) = 16777216 := rfl
  have e0 : startD ["text", "width", "rounds"] [.str t, .int v, .int r] = [.val (.str t), .val (.int v), .val (.int r)] := rfl
  simp only [S_is_beginning, ↓reduceIte, disX, dxf, dcallQ, dcallQF, eqv_strs, sgnD_eq, draise1, fAll, diR1, diR2, diL, diT, diS, dname, dapp, dappPop, dlenO, dixO, dretO, dSl, donone, dosome, dyes, dfv, dm1, fJoin, fIndex, fListF, fSortT, dRev, dIn, dNotIn, difE, fMax, fMin, fStr, fList, dseq, dif, dret, dretN, dretF, dretO, dasg, dasgO, dexpr, dnext, dop, dopF, dk, dvar, dcons, dnil, dlst, dflst, dtup, dIx, dI0, dII, dB0, dtest, dtruth, dand, dor, dnot, dcb, dcbF, dcall, dcallF, dixS, dsetS, dinS, difS, fLen, fInt, fAbs, endD, e0, scD, SOK, dEq, dNe, eqv_int, eqv_str, eqv_bl, beq_iff_eq, decide_eq_true_eq, Bool.not_eq_true, Bool.not_eq_true', true_and, and_true, and_self, false_and, and_false, reduceCtorEq, true_or, or_true, true_implies, if_true, if_false, Bool.false_eq_true, not_false_eq_true, dAdd, dMul, dAddF, List.getElem?_cons_zero, List.getElem?_cons_succ, List.set_cons_zero, List.set_cons_succ]
  refine ⟨t, v, r, rfl, h1, h2, h3, ?_⟩
  by_cases q : okText t v r
  · simp only [decide_eq_true q]
    exact h4 q
  · simp only [decide_eq_false q]
    exact h5 q
theorem isOrd_len {l : List Nat} (h : isOrd l) : 1 ≤ l.length ∧ l.length ≤ 5 := by
  have e := h.2.length_eq
  rw [List.length_take] at e
  have : dig.length = 5 := rfl
  have : 0 < l.length := List.length_pos_iff.mpr h.1
  omega
def ren (o t : List Nat) : List Nat := t.map fun c => o.getD (c - 48) 0
theorem dig_index {c n : Nat} (h : c ∈ dig.take n) : ∃ i rest, Builtin.Str.occurrences "01234" ⟨#[c]⟩ 0 ("01234" : Str).length 1 = i :: rest ∧ i = c - 48 ∧ (c - 48 < n) := by
  have hm : c ∈ dig := List.mem_of_mem_take h
  obtain ⟨i, rest, h1, h2, h3⟩ := index_one (x := "01234") (c := c) (by rw [dig_tl]; exact hm)
  rw [dig_tl] at h2
  refine ⟨i, rest, h1, ?_⟩
  obtain ⟨k, hk⟩ := List.mem_iff_getElem?.mp h
  rw [List.getElem?_take] at hk
  have key : ∀ j, dig[j]? = some c → j = c - 48 := by
    intro j e
    match j, e with
    | 0, e => simp [dig] at e; omega
    | 1, e => simp [dig] at e; omega
    | 2, e => simp [dig] at e; omega
    | 3, e => simp [dig] at e; omega
    | 4, e => simp [dig] at e; omega
    | j + 5, e => simp [dig] at e
  split at hk
  · rename_i q
    exact ⟨key i h2, by rw [← key k hk]; exact q⟩
  · cases hk
abbrev s_renamed : Stmt := top 30
theorem sc_renamed : FnScope ["order", "text", "width", "letter"] ["order", "text"] (defScope s_renamed) := ⟨rfl, rfl, rfl, by decide +kernel, rfl, by decide +kernel, by decide +kernel⟩
def S_renamed : DSp := fun ds Q E => ∃ (o t : Str), ds = [.str o, .str t] ∧ o.length ≤ 1000 ∧ t.length ≤ 1000 ∧ (∀ c ∈ tl o, c < 128) ∧ (¬ isOrd (tl o) → E ("BadRow", [("found", .str o)])) ∧
  ∀ z : Int, (mostL[(tl o).length - 1]? = some z) → isOrd (tl o) → (¬ okText t (o.length : Nat) z → E ("BadRow", [("found", .str t)])) ∧ (okText t (o.length : Nat) z → Q (.str ⟨(ren (tl o) (tl t)).toArray⟩))
theorem len_renamed {ds : List D} {Q : D → Prop} {E : Ex → Prop} (h : S_renamed ds Q E) : ds.length = 2 := by obtain ⟨g, _, h, _⟩ := h; rw [h]; rfl
theorem ok_renamed (T : Txt P K mg) (h_check_beginning : Has P w K mg base "check_beginning" 4 false S_check_beginning) (h_check_order : Has P w K mg base "check_order" 3 false S_check_order) {f : Addr} {fd : FuncData} (F : Fun K "renamed" "renamed" s_renamed f fd) : FnOk P w K mg base (L2.CX P w) 5 f fd ["order", "text"] (spD K mg false S_renamed) := by
  refine fn_ok F sc_renamed (fun ds Qd Ed h => len_renamed h) (fun cdv Ar outer s H E R M ds Qd Ed hr hK hm h0 h => ?_)
  subst hK hm
  refine ⟨_, (gss_cons (gs_expr (ge_call (Has.call h_check_order (hr.mono (by decide)) (takes_of rfl rfl rfl rfl)) (gl_cons (ge_var (pv 0)) gl_nil) h0))
    (gss_cons (gs_asg (i := 2) (ge_blt (b_len) (by rfl) T.len PySem.boot_len (gl_cons (ge_var (pv 0)) gl_nil)) sc_renamed.nd rfl (by first | exact Or.inl rfl | exact Or.inr rfl))
    (gss_cons (gs_expr (ge_call (Has.call h_check_beginning (hr.mono (by decide)) (takes_of rfl rfl rfl rfl)) (gl_cons (ge_var (pv 1)) (gl_cons (ge_var (pv 2)) (gl_cons (ge_ix (c_most T) (ge_subI (ge_var (pv 2)) ge_int)) gl_nil))) h0))
    (gss_one (gs_ret (ge_join ge_str (GF.e (gf_lc (own := [("letter", 3)]) (js := [3]) (by rfl) sc_renamed.nd (gi_str (ge_var (pv 1))) (by show blkC ["order", "text", "width", "letter"] (defScope s_renamed) _ _ = true; decide +kernel) (by decide) (fun B hB _ _ _ _ _ => gg_name (i := 3) sc_renamed.nd rfl (by first | exact Or.inl rfl | exact Or.inr rfl)) (fun B hB _ _ _ _ _ => gts_nil) (fun B hB _ _ _ _ _ => (ge_ix (ge_var (pv 0)) (ge_index (c_outs T) (ge_var (pv 3))) (hK := congrArg RC.K hB))))))))))), ?_⟩
  obtain ⟨o, t, rfl, h1, h2, h3, h4, h5⟩ := h
  have hL : (LINE : Nat) = 16777216 := rfl
  refine ⟨o, rfl, h1, h3, fun ho => ?_, h4⟩
  have hn := isOrd_len ho
  rw [← len_tl] at hn
  refine ⟨by omega, ?_⟩
  have hmm : ∃ m, mostL[(tl o).length - 1]? = some m := by
    rw [← len_tl]
    have : o.length = 1 ∨ o.length = 2 ∨ o.length = 3 ∨ o.length = 4 ∨ o.length = 5 := by omega
    rcases this with e | e | e | e | e <;> (rw [e]; exact ⟨_, rfl⟩)
  obtain ⟨m, hm⟩ := hmm
  obtain ⟨h6, h7⟩ := h5 m hm ho
  have hat : L2.atI ([8, 8, 5, 4, 3].map D.int) ((o.length : Int) - 1) = some (.int m) := by
    rw [← len_tl] at hm
    have : o.length = 1 ∨ o.length = 2 ∨ o.length = 3 ∨ o.length = 4 ∨ o.length = 5 := by omega
    rcases this with e | e | e | e | e <;> (rw [e] at hm ⊢; simp [mostL] at hm; subst hm; rfl)
  refine ⟨_, hat, t, _, _, rfl, h2, by omega, by omega, fun hg => ?_, h6⟩
  refine dlc_map (ds := sgnD t) (fun d => match d with
    | .str x => .str ⟨#[(tl o).getD ((tl x).headD 0 - 48) 0]⟩
    | d => d) (by exact fun _ h => h) (by rw [sgnD_eq, List.length_map]; show (List.map _ (tl t)).length ≤ _; rw [List.length_map, ← len_tl]; omega) (fun d hd Q' h => ?_) ?_
  · rw [sgnD_eq] at hd
    obtain ⟨x, hx, rfl⟩ := List.mem_map.mp hd
    obtain ⟨c, hc, rfl⟩ := List.mem_map.mp hx
    obtain ⟨i, rest, i1, i2, i3⟩ := dig_index (hg.2 c hc)
    have hlt : i < (tl o).length := by rw [i2, ← len_tl]; simpa using i3
    refine ⟨i, rest, i1, by omega, (tl o)[i], Nb.atI_nat hlt, ?_⟩
    have e : (tl o)[i] = (tl o).getD (c - 48) 0 := by rw [List.getD_eq_getElem?_getD, ← i2, List.getElem?_eq_getElem hlt]; rfl
    rw [e]
    exact h
  · refine ⟨(ren (tl o) (tl t)).map fun c => (⟨#[c]⟩ : Str), ?_, ?_, ?_⟩
    · rw [sgnD_eq]
      unfold signsS ren
      rw [List.map_map, List.map_map, List.map_map, List.map_map]
      rfl
    · rw [sum_ones]
      unfold ren
      rw [List.length_map, List.length_map, ← len_tl]
      have : ("" : Str).length = 0 := by rw [len_tl, tl_nil]; rfl
      rw [this]
      omega
    · rw [join_signs]
      exact h7 hg
def bak (o : List Nat) : List Nat := (dig.take o.length).map fun c => 48 + o.idxOf c
abbrev s_back_order : Stmt := top 31
theorem sc_back_order : FnScope ["order", "letter"] ["order"] (defScope s_back_order) := ⟨rfl, rfl, rfl, by decide +kernel, rfl, by decide +kernel, by decide +kernel⟩
def S_back_order : DSp := fun ds Q E => ∃ o : Str, ds = [.str o] ∧ o.length ≤ 1000 ∧ (∀ c ∈ tl o, c < 128) ∧ (¬ isOrd (tl o) → E ("BadRow", [("found", .str o)])) ∧ (isOrd (tl o) → Q (.str ⟨(bak (tl o)).toArray⟩))
theorem len_back_order {ds : List D} {Q : D → Prop} {E : Ex → Prop} (h : S_back_order ds Q E) : ds.length = 1 := by obtain ⟨g, h, _⟩ := h; rw [h]; rfl
theorem idx_first {l : List Nat} {i c : Nat} (h1 : l[i]? = some c) (h2 : ∀ k, k < i → l[k]? ≠ some c) : l.idxOf c = i := by
  induction l generalizing i with
  | nil => simp at h1
  | cons a l ih =>
    cases i with
    | zero => simp at h1; subst h1; simp
    | succ i =>
      have h3 : a ≠ c := fun z => h2 0 (by omega) (by simp [z])
      have := ih (i := i) (by simpa using h1) (fun k hk => by have := h2 (k + 1) (by omega); simpa using this)
      rw [List.idxOf_cons]
      have hb : (a == c) = false := by simpa using h3
      rw [hb, this]
      rfl
theorem ok_back_order (T : Txt P K mg) (h_check_order : Has P w K mg base "check_order" 3 false S_check_order) {f : Addr} {fd : FuncData} (F : Fun K "back_order" "back_order" s_back_order f fd) : FnOk P w K mg base (L2.CX P w) 5 f fd ["order"] (spD K mg false S_back_order) := by
  refine fn_ok F sc_back_order (fun ds Qd Ed h => len_back_order h) (fun cdv Ar outer s H E R M ds Qd Ed hr hK hm h0 h => ?_)
  subst hK hm
  refine ⟨_, (gss_cons (gs_expr (ge_call (Has.call h_check_order (hr.mono (by decide)) (takes_of rfl rfl rfl rfl)) (gl_cons (ge_var (pv 0)) gl_nil) h0))
    (gss_one (gs_ret (ge_join ge_str (GF.e (gf_lc (own := [("letter", 1)]) (js := [1]) (by rfl) sc_back_order.nd (gi_str (ge_sl (c_outs T) go_none (go_some (ge_blt (b_len) (by rfl) T.len PySem.boot_len (gl_cons (ge_var (pv 0)) gl_nil))))) (by show blkC ["order", "letter"] (defScope s_back_order) _ _ = true; decide +kernel) (by decide) (fun B hB _ _ _ _ _ => gg_name (i := 1) sc_back_order.nd rfl (by first | exact Or.inl rfl | exact Or.inr rfl)) (fun B hB _ _ _ _ _ => gts_nil) (fun B hB _ _ _ _ _ => (ge_ix (c_outs T) (ge_index (ge_var (pv 0)) (ge_var (pv 1))) (hK := congrArg RC.K hB))))))))), ?_⟩
  obtain ⟨o, rfl, h1, h3, h4, h5⟩ := h
  have hL : (LINE : Nat) = 16777216 := rfl
  refine ⟨o, rfl, h1, h3, fun ho => ?_, h4⟩
  have hn := isOrd_len ho
  rw [← len_tl] at hn
  have e5 : ("01234" : Str).length = 5 := by rw [len_tl, dig_tl]; rfl
  have ez : sgnD (cutS "01234" none (some ((o.length : Nat) : Int))) = (dig.take o.length).map fun c => D.str ⟨#[c]⟩ := by
    rw [sgnD_eq]
    unfold signsS
    have : tl (cutS "01234" none (some ((o.length : Nat) : Int))) = dig.take o.length := tl_cut5 (by omega)
    show ((tl _).map _).map _ = _
    rw [this, List.map_map]
    rfl
  refine dlc_map (ds := (dig.take o.length).map fun c => D.str ⟨#[c]⟩) (fun d => match d with
    | .str x => .str ⟨#[48 + (tl o).idxOf ((tl x).headD 0)]⟩
    | d => d) (by intro Q' h; refine ⟨by omega, by omega, ?_⟩; show Q' (sgnD _); rw [ez]; exact h) (by rw [List.length_map, List.length_take]; omega) (fun d hd Q' h => ?_) ?_
  · obtain ⟨c, hc, rfl⟩ := List.mem_map.mp hd
    have hm : c ∈ tl o := ho.2.mem_iff.mpr (by rw [← len_tl]; exact hc)
    obtain ⟨i, rest, i1, i2, i3⟩ := index_one hm
    have hlt : i < (tl o).length := (List.getElem?_eq_some_iff.mp i2).1
    rw [← len_tl] at hlt
    have ei : (tl o).idxOf c = i := idx_first i2 i3
    have hd : L2.atI (tl "01234") (i : Nat) = some (48 + i) := by
      rw [dig_tl]
      have : i = 0 ∨ i = 1 ∨ i = 2 ∨ i = 3 ∨ i = 4 := by omega
      rcases this with e | e | e | e | e <;> (rw [e]; rfl)
    refine ⟨i, rest, i1, by omega, 48 + i, hd, ?_⟩
    rw [← ei]
    exact h
  · refine ⟨(bak (tl o)).map fun c => (⟨#[c]⟩ : Str), ?_, ?_, ?_⟩
    · unfold bak
      rw [List.map_map, List.map_map, List.map_map, ← len_tl]
      rfl
    · rw [sum_ones]
      unfold bak
      have hz : (tl o).length = o.length := (len_tl o).symm
      have : ("" : Str).length = 0 := by rw [len_tl, tl_nil]; rfl
      rw [this, Nat.mul_zero, List.length_map, List.length_take]
      omega
    · rw [join_signs]
      exact h5 ho
/-! ### what the law makes of an exception -/
abbrev s__law_bare : Stmt := top 40
theorem sc__law_bare : FnScope ["e", "found"] ["e"] (defScope s__law_bare) := ⟨rfl, rfl, rfl, by decide +kernel, rfl, by decide +kernel, by decide +kernel⟩
def S__law_bare : DSp := fun ds Q E => ∃ fs, ds = [.exc "BadRow" fs] ∧ Q (.lst [])
theorem len__law_bare {ds : List D} {Q : D → Prop} {E : Ex → Prop} (h : S__law_bare ds Q E) : ds.length = 1 := by obtain ⟨g, h, _⟩ := h; rw [h]; rfl
theorem ok__law_bare (T : Txt P K mg) {f : Addr} {fd : FuncData} (F : Fun K "_law_bare" "_law_bare" s__law_bare f fd) : FnQ P w K mg base 1 f fd ["e"] true S__law_bare := by
  refine fnq_ok F sc__law_bare (fun ds Qd Ed h => len__law_bare h) (fun cdv Ar outer s H E R M ds Qd p C d hr hK hm hx hz hw h => ?_)
  subst hK hm
  refine ⟨_, (gss_cons (gs_asgO (i := 1) (gf_lst gl_nil) sc__law_bare.nd rfl (by first | exact Or.inl rfl | exact Or.inr rfl))
    (gss_cons (gs_if (gt_val (ge_isC hx (ExcAt.pin hz hw) T.kinds T.i_BadNumber T.isinstance (ge_var (pv 0)))) (gss_one (gs_app (pv 1) (ge_tup (gl_cons ge_str gl_nil)))) gss_nil)
    (gss_cons (gs_if (gt_val (ge_isC hx (ExcAt.pin hz hw) T.kinds T.i_DivisionByZero T.isinstance (ge_var (pv 0)))) (gss_one (gs_app (pv 1) (ge_tup (gl_cons ge_str gl_nil)))) gss_nil)
    (gss_cons (gs_if (gt_val (ge_isC hx (ExcAt.pin hz hw) T.kinds T.i_BadWeight T.isinstance (ge_var (pv 0)))) (gss_one (gs_app (pv 1) (ge_tup (gl_cons ge_str gl_nil)))) gss_nil)
    (gss_cons (gs_if (gt_val (ge_isC hx (ExcAt.pin hz hw) T.kinds T.i_Mismatch T.isinstance (ge_var (pv 0)))) (gss_one (gs_app (pv 1) (ge_tup (gl_cons ge_str gl_nil)))) gss_nil)
    (gss_cons (gs_if (gt_val (ge_isC hx (ExcAt.pin hz hw) T.kinds T.i_NoHelper T.isinstance (ge_var (pv 0)))) (gss_one (gs_app (pv 1) (ge_tup (gl_cons ge_str gl_nil)))) gss_nil)
    (gss_cons (gs_if (gt_val (ge_isC hx (ExcAt.pin hz hw) T.kinds T.i_GameOver T.isinstance (ge_var (pv 0)))) (gss_one (gs_app (pv 1) (ge_tup (gl_cons ge_str gl_nil)))) gss_nil)
    (gss_cons (gs_if (gt_val (ge_isC hx (ExcAt.pin hz hw) T.kinds T.i_NothingToTakeBack T.isinstance (ge_var (pv 0)))) (gss_one (gs_app (pv 1) (ge_tup (gl_cons ge_str gl_nil)))) gss_nil)
    (gss_one (gs_retO (pv 1))))))))))), ?_⟩
  obtain ⟨fs, rfl, hq⟩ := h
  have hL : (LINE : Nat) = 16777216 := rfl
  have e0 : startD ["e", "found"] [.exc "BadRow" fs] = [.val (.exc "BadRow" fs), .un] := rfl
  simp (decide := true) only [okX, List.length_nil, ↓reduceIte, disX, dxf, dcallQ, dcallQF, eqv_strs, sgnD_eq, draise1, fAll, diR1, diR2, diL, diT, diS, dname, dapp, dappPop, dlenO, dixO, dretO, dSl, donone, dosome, dyes, dfv, dm1, fJoin, fIndex, fListF, fSortT, dRev, dIn, dNotIn, difE, fMax, fMin, fStr, fList, dseq, dif, dret, dretN, dretF, dretO, dasg, dasgO, dexpr, dnext, dop, dopF, dk, dvar, dcons, dnil, dlst, dflst, dtup, dIx, dI0, dII, dB0, dtest, dtruth, dand, dor, dnot, dcb, dcbF, dcall, dcallF, dixS, dsetS, dinS, difS, fLen, fInt, fAbs, endD, e0, scD, SOK, dEq, dNe, eqv_int, eqv_str, eqv_bl, beq_iff_eq, decide_eq_true_eq, Bool.not_eq_true, Bool.not_eq_true', true_and, and_true, and_self, false_and, and_false, reduceCtorEq, true_or, or_true, true_implies, if_true, if_false, Bool.false_eq_true, not_false_eq_true, dAdd, dMul, dAddF, List.getElem?_cons_zero, List.getElem?_cons_succ, List.set_cons_zero, List.set_cons_succ]
  exact hq
abbrev s__law_refusal : Stmt := top 39
theorem sc__law_refusal : FnScope ["e", "found"] ["e"] (defScope s__law_refusal) := ⟨rfl, rfl, rfl, by decide +kernel, rfl, by decide +kernel, by decide +kernel⟩
def S__law_refusal : DSp := fun ds Q E => ∃ t, ds = [.exc "BadRow" [("found", .str t)]] ∧ Q (.tup [.str "BadRow", .str t])
theorem len__law_refusal {ds : List D} {Q : D → Prop} {E : Ex → Prop} (h : S__law_refusal ds Q E) : ds.length = 1 := by obtain ⟨g, h, _⟩ := h; rw [h]; rfl
theorem ok__law_refusal (T : Txt P K mg) (hq__law_bare : HasQ P w K mg base "_law_bare" 1 true S__law_bare) {f : Addr} {fd : FuncData} (F : Fun K "_law_refusal" "_law_refusal" s__law_refusal f fd) : FnQ P w K mg base 2 f fd ["e"] false S__law_refusal := by
  refine fnq_ok F sc__law_refusal (fun ds Qd Ed h => len__law_refusal h) (fun cdv Ar outer s H E R M ds Qd p C d hr hK hm hx hz hw h => ?_)
  subst hK hm
  refine ⟨_, (gss_cons (gs_asgO (i := 1) (gf_callQ hq__law_bare (L2H.RoomH.mono hr (by decide)) hx (ExcAt.pin hz hw) (gl_cons (ge_var (pv 0)) gl_nil)) sc__law_refusal.nd rfl (by first | exact Or.inl rfl | exact Or.inr rfl))
    (gss_cons (gs_if (gt_val (ge_isC hx (ExcAt.pin hz hw) T.kinds T.i_BadCount T.isinstance (ge_var (pv 0)))) (gss_one (gs_app (pv 1) (ge_tup (gl_cons ge_str (gl_cons (ge_fld hx (ExcAt.pin hz hw) T.kinds T.f_found (ge_var (pv 0))) (gl_cons (ge_fld hx (ExcAt.pin hz hw) T.kinds T.f_low (ge_var (pv 0))) (gl_cons (ge_fld hx (ExcAt.pin hz hw) T.kinds T.f_high (ge_var (pv 0))) gl_nil))))))) gss_nil)
    (gss_cons (gs_if (gt_val (ge_isC hx (ExcAt.pin hz hw) T.kinds T.i_BadSize T.isinstance (ge_var (pv 0)))) (gss_one (gs_app (pv 1) (ge_tup (gl_cons ge_str (gl_cons (ge_fld hx (ExcAt.pin hz hw) T.kinds T.f_found (ge_var (pv 0))) (gl_cons (ge_fld hx (ExcAt.pin hz hw) T.kinds T.f_due (ge_var (pv 0))) gl_nil)))))) gss_nil)
    (gss_cons (gs_if (gt_val (ge_isC hx (ExcAt.pin hz hw) T.kinds T.i_BadName T.isinstance (ge_var (pv 0)))) (gss_one (gs_app (pv 1) (ge_tup (gl_cons ge_str (gl_cons (ge_fld hx (ExcAt.pin hz hw) T.kinds T.f_found (ge_var (pv 0))) gl_nil))))) gss_nil)
    (gss_cons (gs_if (gt_val (ge_isC hx (ExcAt.pin hz hw) T.kinds T.i_BadText T.isinstance (ge_var (pv 0)))) (gss_one (gs_app (pv 1) (ge_tup (gl_cons ge_str (gl_cons (ge_fld hx (ExcAt.pin hz hw) T.kinds T.f_line (ge_var (pv 0))) gl_nil))))) gss_nil)
    (gss_cons (gs_if (gt_val (ge_isC hx (ExcAt.pin hz hw) T.kinds T.i_BadRow T.isinstance (ge_var (pv 0)))) (gss_one (gs_app (pv 1) (ge_tup (gl_cons ge_str (gl_cons (ge_fld hx (ExcAt.pin hz hw) T.kinds T.f_found (ge_var (pv 0))) gl_nil))))) gss_nil)
    (gss_cons (gs_if (gt_val (ge_isC hx (ExcAt.pin hz hw) T.kinds T.i_BadShare T.isinstance (ge_var (pv 0)))) (gss_one (gs_app (pv 1) (ge_tup (gl_cons ge_str (gl_cons (ge_fld hx (ExcAt.pin hz hw) T.kinds T.f_at (ge_var (pv 0))) gl_nil))))) gss_nil)
    (gss_cons (gs_if (gt_val (ge_isC hx (ExcAt.pin hz hw) T.kinds T.i_NotExact T.isinstance (ge_var (pv 0)))) (gss_one (gs_app (pv 1) (ge_tup (gl_cons ge_str (gl_cons (ge_fld hx (ExcAt.pin hz hw) T.kinds T.f_beginning (ge_var (pv 0))) gl_nil))))) gss_nil)
    (gss_cons (gs_if (gt_val (ge_isC hx (ExcAt.pin hz hw) T.kinds T.i_Lacking T.isinstance (ge_var (pv 0)))) (gss_one (gs_app (pv 1) (ge_tup (gl_cons ge_str (gl_cons (ge_fld hx (ExcAt.pin hz hw) T.kinds T.f_amount (ge_var (pv 0))) gl_nil))))) gss_nil)
    (gss_cons (gs_if (gt_val (ge_isC hx (ExcAt.pin hz hw) T.kinds T.i_UnknownName T.isinstance (ge_var (pv 0)))) (gss_one (gs_app (pv 1) (ge_tup (gl_cons ge_str (gl_cons (ge_fld hx (ExcAt.pin hz hw) T.kinds T.f_name (ge_var (pv 0))) gl_nil))))) gss_nil)
    (gss_cons (gs_if (gt_val (ge_isC hx (ExcAt.pin hz hw) T.kinds T.i_TakenName T.isinstance (ge_var (pv 0)))) (gss_one (gs_app (pv 1) (ge_tup (gl_cons ge_str (gl_cons (ge_fld hx (ExcAt.pin hz hw) T.kinds T.f_name (ge_var (pv 0))) gl_nil))))) gss_nil)
    (gss_cons (gs_if (gt_val (ge_isC hx (ExcAt.pin hz hw) T.kinds T.i_WrongKind T.isinstance (ge_var (pv 0)))) (gss_one (gs_app (pv 1) (ge_tup (gl_cons ge_str (gl_cons (ge_fld hx (ExcAt.pin hz hw) T.kinds T.f_name (ge_var (pv 0))) gl_nil))))) gss_nil)
    (gss_cons (gs_if (gt_val (ge_isC hx (ExcAt.pin hz hw) T.kinds T.i_InUse T.isinstance (ge_var (pv 0)))) (gss_one (gs_app (pv 1) (ge_tup (gl_cons ge_str (gl_cons (ge_fld hx (ExcAt.pin hz hw) T.kinds T.f_name (ge_var (pv 0))) (gl_cons (ge_fld hx (ExcAt.pin hz hw) T.kinds T.f_user (ge_var (pv 0))) gl_nil)))))) gss_nil)
    (gss_cons (gs_if (GW.t (gw_or (gt_c (cm_ne (room_unitsH hr)) (ge_lenO (pv 1) (by rfl) T.len) ge_int) (gw_or1 (gt_not (gt_val (ge_isV hx (ExcAt.pin hz hw) T.kinds T.v_ValueError T.isinstance T.ValueError (ge_var (pv 0)) (by decide +kernel))))))) (gss_one (gs_ret (ge_tup (gl_cons ge_str (gl_cons (ge_lenO (pv 1) (by rfl) T.len) gl_nil))))) gss_nil)
    (gss_one (gs_ret (ge_ixO (pv 1) ge_int))))))))))))))))), ?_⟩
  obtain ⟨t, rfl, hq⟩ := h
  have hL : (LINE : Nat) = 16777216 := rfl
  have e0 : startD ["e", "found"] [.exc "BadRow" [("found", .str t)]] = [.val (.exc "BadRow" [("found", .str t)]), .un] := rfl
  refine ⟨[("found", .str t)], rfl, ?_⟩
  simp (decide := true) only [okX, List.length_nil, List.length_cons, List.lookup, List.nil_append, ↓reduceIte, disX, dxf, dcallQ, dcallQF, eqv_strs, sgnD_eq, draise1, fAll, diR1, diR2, diL, diT, diS, dname, dapp, dappPop, dlenO, dixO, dretO, dSl, donone, dosome, dyes, dfv, dm1, fJoin, fIndex, fListF, fSortT, dRev, dIn, dNotIn, difE, fMax, fMin, fStr, fList, dseq, dif, dret, dretN, dretF, dretO, dasg, dasgO, dexpr, dnext, dop, dopF, dk, dvar, dcons, dnil, dlst, dflst, dtup, dIx, dI0, dII, dB0, dtest, dtruth, dand, dor, dnot, dcb, dcbF, dcall, dcallF, dixS, dsetS, dinS, difS, fLen, fInt, fAbs, endD, e0, scD, SOK, dEq, dNe, eqv_int, eqv_str, eqv_bl, beq_iff_eq, decide_eq_true_eq, Bool.not_eq_true, Bool.not_eq_true', true_and, and_true, and_self, false_and, and_false, reduceCtorEq, true_or, or_true, true_implies, if_true, if_false, Bool.false_eq_true, not_false_eq_true, dAdd, dMul, dAddF, List.getElem?_cons_zero, List.getElem?_cons_succ, List.set_cons_zero, List.set_cons_succ]
  exact ⟨_, rfl, _, rfl, hq⟩
abbrev s__law_renamed_by : Stmt := top 47
theorem sc__law_renamed_by : FnScope ["order", "text", "answer", "e"] ["order", "text"] (defScope s__law_renamed_by) := ⟨rfl, rfl, rfl, by decide +kernel, rfl, by decide +kernel, by decide +kernel⟩
@[irreducible] def S__law_renamed_by : DSp := fun ds Q E => ∃ (o t : Str), ds = [.str o, .str t] ∧ o.length ≤ 1000 ∧ t.length ≤ 1000 ∧ (∀ c ∈ tl o, c < 128) ∧ (¬ isOrd (tl o) → Q (.tup [.str "refused", .tup [.str "BadRow", .str o]])) ∧
  ∀ z : Int, mostL[(tl o).length - 1]? = some z → isOrd (tl o) → (¬ okText t (o.length : Nat) z → Q (.tup [.str "refused", .tup [.str "BadRow", .str t]])) ∧ (okText t (o.length : Nat) z → Q (.tup [.str "told", .str ⟨(ren (tl o) (tl t)).toArray⟩]))
theorem len__law_renamed_by {ds : List D} {Q : D → Prop} {E : Ex → Prop} (h : S__law_renamed_by ds Q E) : ds.length = 2 := by unfold S__law_renamed_by at h; obtain ⟨g, _, h, _⟩ := h; rw [h]; rfl
theorem ok__law_renamed_by (T : Txt P K mg) (h_renamed : Has P w K mg base "renamed" 5 false S_renamed) (hq__law_refusal : HasQ P w K mg base "_law_refusal" 2 false S__law_refusal) {f : Addr} {fd : FuncData} (F : Fun K "_law_renamed_by" "_law_renamed_by" s__law_renamed_by f fd) : FnOk P w K mg base (L2.CX P w) 6 f fd ["order", "text"] (spD K mg false S__law_renamed_by) := by
  refine fn_ok F sc__law_renamed_by (fun ds Qd Ed h => len__law_renamed_by h) (fun cdv Ar outer s H E R M ds Qd Ed hr hK hm h0 h => ?_)
  subst hK hm
  refine ⟨_, (gss_cons (gs_tryC T.c_NotBehindError h0 (takes_of rfl rfl rfl rfl) sc__law_renamed_by.nd (i := 3) rfl (fun W1 pn1 xe1 tk1 po1 => (gss_one (gs_asg (i := 2) (ge_call (Has.call h_renamed (hr.mono (by decide)) tk1) (gl_cons (ge_var (pv 0)) (gl_cons (ge_var (pv 1)) gl_nil)) h0) sc__law_renamed_by.nd rfl (by first | exact Or.inl rfl | exact Or.inr rfl)))) (fun a C oe d pn hz hv => (gss_one (gs_ret (ge_tup (gl_cons ge_str (gl_cons (ge_callQ hq__law_refusal (L2H.RoomH.mono (roomS hr) (by decide)) rfl (ExcAt.suite hz hv) (gl_cons (ge_var (pv 3)) gl_nil)) gl_nil)))))))
    (gss_one (gs_ret (ge_tup (gl_cons ge_str (gl_cons (ge_var (pv 2)) gl_nil)))))), ?_⟩
  unfold S__law_renamed_by at h
  obtain ⟨o, t, rfl, h1, h2, h3, h4, h5⟩ := h
  have hL : (LINE : Nat) = 16777216 := rfl
  unfold dseq dtry
  refine ⟨o, t, rfl, h1, h2, h3, fun hn => ?_, fun z hz ho => ?_⟩
  · exact ⟨rfl, o, rfl, (by show 2 ≤ 16777216; decide), rfl, fun _ => h4 hn⟩
  · obtain ⟨h6, h7⟩ := h5 z hz ho
    exact ⟨fun hn => ⟨rfl, t, rfl, (by show 2 ≤ 16777216; decide), rfl, fun _ => h6 hn⟩, fun hg => ⟨(by show 2 ≤ 16777216; decide), h7 hg⟩⟩
abbrev s__law_back_of : Stmt := top 48
theorem sc__law_back_of : FnScope ["order", "answer", "e"] ["order"] (defScope s__law_back_of) := ⟨rfl, rfl, rfl, by decide +kernel, rfl, by decide +kernel, by decide +kernel⟩
@[irreducible] def S__law_back_of : DSp := fun ds Q E => ∃ o : Str, ds = [.str o] ∧ o.length ≤ 1000 ∧ (∀ c ∈ tl o, c < 128) ∧ (¬ isOrd (tl o) → Q (.tup [.str "refused", .tup [.str "BadRow", .str o]])) ∧ (isOrd (tl o) → Q (.tup [.str "told", .str ⟨(bak (tl o)).toArray⟩]))
theorem len__law_back_of {ds : List D} {Q : D → Prop} {E : Ex → Prop} (h : S__law_back_of ds Q E) : ds.length = 1 := by unfold S__law_back_of at h; obtain ⟨g, h, _⟩ := h; rw [h]; rfl
theorem ok__law_back_of (T : Txt P K mg) (h_back_order : Has P w K mg base "back_order" 5 false S_back_order) (hq__law_refusal : HasQ P w K mg base "_law_refusal" 2 false S__law_refusal) {f : Addr} {fd : FuncData} (F : Fun K "_law_back_of" "_law_back_of" s__law_back_of f fd) : FnOk P w K mg base (L2.CX P w) 6 f fd ["order"] (spD K mg false S__law_back_of) := by
  refine fn_ok F sc__law_back_of (fun ds Qd Ed h => len__law_back_of h) (fun cdv Ar outer s H E R M ds Qd Ed hr hK hm h0 h => ?_)
  subst hK hm
  refine ⟨_, (gss_cons (gs_tryC T.c_NotBehindError h0 (takes_of rfl rfl rfl rfl) sc__law_back_of.nd (i := 2) rfl (fun W1 pn1 xe1 tk1 po1 => (gss_one (gs_asg (i := 1) (ge_call (Has.call h_back_order (hr.mono (by decide)) tk1) (gl_cons (ge_var (pv 0)) gl_nil) h0) sc__law_back_of.nd rfl (by first | exact Or.inl rfl | exact Or.inr rfl)))) (fun a C oe d pn hz hv => (gss_one (gs_ret (ge_tup (gl_cons ge_str (gl_cons (ge_callQ hq__law_refusal (L2H.RoomH.mono (roomS hr) (by decide)) rfl (ExcAt.suite hz hv) (gl_cons (ge_var (pv 2)) gl_nil)) gl_nil)))))))
    (gss_one (gs_ret (ge_tup (gl_cons ge_str (gl_cons (ge_var (pv 1)) gl_nil)))))), ?_⟩
  unfold S__law_back_of at h
  obtain ⟨o, rfl, h1, h3, h4, h5⟩ := h
  unfold dseq dtry
  exact ⟨o, rfl, h1, h3, fun hn => ⟨rfl, o, rfl, (by show 2 ≤ 16777216; decide), rfl, fun _ => h4 hn⟩, fun hg => ⟨(by show 2 ≤ 16777216; decide), h5 hg⟩⟩
abbrev s__law_order : Stmt := top 45
theorem sc__law_order : FnScope ["store", "width", "signs", "kind", "sign"] ["store", "width"] (defScope s__law_order) := ⟨rfl, rfl, rfl, by decide +kernel, rfl, by decide +kernel, by decide +kernel⟩
def S__law_order : DSp := fun ds Q E => ∃ v : Int, ds = [.sto, .int v] ∧ 1 ≤ v ∧ v ≤ 5 ∧ ∀ o : Str, isOrd (tl o) → o.length = v.toNat → Q (.str o)
theorem len__law_order {ds : List D} {Q : D → Prop} {E : Ex → Prop} (h : S__law_order ds Q E) : ds.length = 2 := by obtain ⟨g, h, _⟩ := h; rw [h]; rfl
theorem ok__law_order (T : Txt P K mg) (h__law_shuffled : Has P w K mg base "_law_shuffled" 3 true S__law_shuffled) (h__law_take : Has P w K mg base "_law_take" 2 false S__law_take) {f : Addr} {fd : FuncData} (F : Fun K "_law_order" "_law_order" s__law_order f fd) : FnOk P w K mg base (L2.CX P w) 4 f fd ["store", "width"] (spD K mg false S__law_order) := by
  refine fn_ok F sc__law_order (fun ds Qd Ed h => len__law_order h) (fun cdv Ar outer s H E R M ds Qd Ed hr hK hm h0 h => ?_)
  subst hK hm
  refine ⟨_, (gss_cons (gs_asg (i := 2) (ge_sl ge_str go_none (go_some (ge_var (pv 1)))) sc__law_order.nd rfl (by first | exact Or.inl rfl | exact Or.inr rfl))
    (gss_cons (gs_asg (i := 3) (ge_call (Has.call h__law_take (hr.mono (by decide)) (takes_of rfl rfl rfl rfl)) (gl_cons (ge_var (pv 0)) (gl_cons ge_int gl_nil)) h0) sc__law_order.nd rfl (by first | exact Or.inl rfl | exact Or.inr rfl))
    (gss_cons (gs_if (gt_c (cm_eq (room_units hr)) (ge_var (pv 3)) ge_int) (gss_one (gs_ret (ge_var (pv 2)))) gss_nil)
    (gss_cons (gs_if (gt_c (cm_eq (room_units hr)) (ge_var (pv 3)) ge_int) (gss_one (gs_ret (ge_revS (ge_var (pv 2))))) gss_nil)
    (gss_cons (gs_if (gt_c (cm_eq (room_units hr)) (ge_var (pv 3)) ge_int) (gss_one (gs_ret (ge_add (ge_sl (ge_var (pv 2)) (go_some ge_int) go_none) (ge_sl (ge_var (pv 2)) go_none (go_some ge_int))))) gss_nil)
    (gss_one (gs_ret (ge_join ge_str (GF.e (gf_call (Has.call h__law_shuffled (hr.mono (by decide)) (takes_of rfl rfl rfl rfl)) (gl_cons (ge_var (pv 0)) (gl_cons (GF.e (gf_lc (own := [("sign", 4)]) (js := [4]) (by rfl) sc__law_order.nd (gi_str (ge_var (pv 2))) (by show blkC ["store", "width", "signs", "kind", "sign"] (defScope s__law_order) _ _ = true; decide +kernel) (by decide) (fun B hB _ _ _ _ _ => gg_name (i := 4) sc__law_order.nd rfl (by first | exact Or.inl rfl | exact Or.inr rfl)) (fun B hB _ _ _ _ _ => gts_nil) (fun B hB _ _ _ _ _ => (ge_var (pv 4))))) gl_nil)) h0)))))))))), ?_⟩
  obtain ⟨v, rfl, h1, h2, hq⟩ := h
  have hL : (LINE : Nat) = 16777216 := rfl
  have e5 : ("01234" : Str).length = 5 := by rw [len_tl, dig_tl]; rfl
  refine ⟨by omega, ?_⟩
  rw [cut_outs (by omega) h2]
  refine ⟨6, rfl, by decide, fun kind k1 k2 => ?_⟩
  have ho : isOrd (tl (outs v.toNat)) ∧ (outs v.toNat).length = v.toNat := by
    have hv : v = 1 ∨ v = 2 ∨ v = 3 ∨ v = 4 ∨ v = 5 := by omega
    rcases hv with rfl | rfl | rfl | rfl | rfl <;> exact ⟨⟨by decide, List.Perm.refl _⟩, rfl⟩
  have e0 : (startD ["store", "width", "signs", "kind", "sign"] [D.sto, D.int v]) = [.val .sto, .val (.int v), .un, .un, .un] := rfl
  by_cases c0 : kind = 0
  · subst c0
    exact ⟨.inl rfl, hq _ ho.1 ho.2⟩
  by_cases c1 : kind = 1
  · subst c1
    have hr : isOrd (tl (revS (outs v.toNat))) ∧ (revS (outs v.toNat)).length = v.toNat := by
      have hv : v = 1 ∨ v = 2 ∨ v = 3 ∨ v = 4 ∨ v = 5 := by omega
      rcases hv with rfl | rfl | rfl | rfl | rfl <;> exact ⟨⟨by decide, by decide⟩, by decide⟩
    exact ⟨.inl rfl, ⟨.inl rfl, (by rw [hr.2]; show _ ≤ 16777216; omega), hq _ hr.1 hr.2⟩⟩
  by_cases c2 : kind = 2
  · subst c2
    have hr : isOrd (tl (cutS (outs v.toNat) (some 1) none ++ cutS (outs v.toNat) none (some 1))) ∧ (cutS (outs v.toNat) (some 1) none ++ cutS (outs v.toNat) none (some 1)).length = v.toNat := by
      have hv : v = 1 ∨ v = 2 ∨ v = 3 ∨ v = 4 ∨ v = 5 := by omega
      rcases hv with rfl | rfl | rfl | rfl | rfl <;> exact ⟨⟨by decide, by decide⟩, by decide⟩
    exact ⟨.inl rfl, .inl rfl, .inl rfl, (by rw [ho.2]; show _ ≤ 16777216; omega), (by rw [ho.2]; show _ ≤ 16777216; omega), (by rw [← len_app, hr.2]; show _ ≤ 16777216; omega), hq _ hr.1 hr.2⟩
  have k3 : (kind == 0) = false ∧ (kind == 1) = false ∧ (kind == 2) = false := ⟨by simpa using c0, by simpa using c1, by simpa using c2⟩
  simp only [k3.1, k3.2.1, k3.2.2, ↓reduceIte, disX, dxf, dcallQ, dcallQF, eqv_strs, sgnD_eq, draise1, fAll, diR1, diR2, diL, diT, diS, dname, dapp, dappPop, dlenO, dixO, dretO, dSl, donone, dosome, dyes, dfv, dm1, fJoin, fIndex, fListF, fSortT, dRev, dIn, dNotIn, difE, fMax, fMin, fStr, fList, dseq, dif, dret, dretN, dretF, dretO, dasg, dasgO, dexpr, dnext, dop, dopF, dk, dvar, dcons, dnil, dlst, dflst, dtup, dIx, dI0, dII, dB0, dtest, dtruth, dand, dor, dnot, dcb, dcbF, dcall, dcallF, dixS, dsetS, dinS, difS, fLen, fInt, fAbs, endD, e0, scD, SOK, dEq, dNe, eqv_int, eqv_str, eqv_bl, beq_iff_eq, decide_eq_true_eq, Bool.not_eq_true, Bool.not_eq_true', true_and, and_true, and_self, false_and, and_false, reduceCtorEq, true_or, or_true, true_implies, if_true, if_false, Bool.false_eq_true, not_false_eq_true, dAdd, dMul, dAddF, List.getElem?_cons_zero, List.getElem?_cons_succ, List.set_cons_zero, List.set_cons_succ]
  refine dlc_map (ds := sgnD (outs v.toNat)) id (by exact fun _ h => h) (by rw [sgnD_eq, List.length_map]; show (List.map _ (tl (outs v.toNat))).length ≤ _; rw [List.length_map, ← len_tl, ho.2]; omega) (fun d hd Q' h => h) ?_
  refine ⟨_, rfl, (by rw [List.length_map, sgnD_eq, List.length_map]; show (List.map _ (tl (outs v.toNat))).length ≤ _; rw [List.length_map, ← len_tl, ho.2]; omega), fun fs hp => ?_⟩
  rw [List.map_id, sgnD_eq] at hp
  obtain ⟨cs, hcs, rfl⟩ := perm_signs hp
  have hl : cs.length = v.toNat := by
    have q := hcs.length_eq
    rw [← len_tl, ho.2] at q
    exact q
  refine ⟨_, rfl, ?_, ?_⟩
  · rw [sum_ones, List.length_map]
    have : ("" : Str).length = 0 := by rw [len_tl, tl_nil]; rfl
    rw [this, Nat.mul_zero, hl]
    omega
  · rw [join_signs]
    refine hq _ ⟨?_, ?_⟩ (by rw [len_tl]; exact hl)
    · intro z
      have z2 : cs = [] := z
      rw [z2] at hl
      simp at hl
      omega
    · show cs.Perm (dig.take cs.length)
      rw [hl]
      exact hcs
instance (l : List Nat) : Decidable (isOrd l) := by unfold isOrd; infer_instance
theorem isOrd_iff {l : List Nat} (h1 : 1 ≤ l.length) (h2 : l.length ≤ 5) : isOrd l ↔ ∀ c ∈ dig.take l.length, c ∈ l := by
  constructor
  · intro h c hc
    exact h.2.mem_iff.mpr hc
  · intro h
    refine ⟨fun z => by rw [z] at h1; simp at h1, ?_⟩
    refine (perm_of_sub ?_ h ?_).symm
    · have hd : dig.Nodup := by decide
      exact hd.sublist (List.take_sublist _ _)
    · rw [List.length_take]
      have : dig.length = 5 := rfl
      omega
abbrev s__law_is_order : Stmt := top 49
theorem sc__law_is_order : FnScope ["text", "sign"] ["text"] (defScope s__law_is_order) := ⟨rfl, rfl, rfl, by decide +kernel, rfl, by decide +kernel, by decide +kernel⟩
def S__law_is_order : DSp := fun ds Q E => ∃ t : Str, ds = [.str t] ∧ t.length ≤ 1000 ∧ Q (.bl (decide (isOrd (tl t))))
theorem len__law_is_order {ds : List D} {Q : D → Prop} {E : Ex → Prop} (h : S__law_is_order ds Q E) : ds.length = 1 := by obtain ⟨g, h, _⟩ := h; rw [h]; rfl
theorem ok__law_is_order (T : Txt P K mg) {f : Addr} {fd : FuncData} (F : Fun K "_law_is_order" "_law_is_order" s__law_is_order f fd) : FnOk P w K mg base (L2.CX P w) 1 f fd ["text"] (spD K mg false S__law_is_order) := by
  refine fn_ok F sc__law_is_order (fun ds Qd Ed h => len__law_is_order h) (fun cdv Ar outer s H E R M ds Qd Ed hr hK hm h0 h => ?_)
  subst hK hm
  refine ⟨_, (gss_cons (gs_if (GW.t (gw_or (gt_c cm_lt (ge_blt (b_len) (by rfl) T.len PySem.boot_len (gl_cons (ge_var (pv 0)) gl_nil)) ge_int) (gw_or1 (gt_c cm_gt (ge_blt (b_len) (by rfl) T.len PySem.boot_len (gl_cons (ge_var (pv 0)) gl_nil)) ge_int)))) (gss_one (gs_ret ge_bl)) gss_nil)
    (gss_cons (gs_for (passes_of rfl) (by rfl) (gi_str (ge_sl ge_str go_none (go_some (ge_blt (b_len) (by rfl) T.len PySem.boot_len (gl_cons (ge_var (pv 0)) gl_nil))))) (gg_name (i := 1) sc__law_is_order.nd rfl (by first | exact Or.inl rfl | exact Or.inr rfl)) (gss_one (gs_if (gt_c cm_notIn (ge_var (pv 1)) (ge_var (pv 0))) (gss_one (gs_ret ge_bl)) gss_nil)))
    (gss_one (gs_ret ge_bl)))), ?_⟩
  obtain ⟨t, rfl, h1, hq⟩ := h
  have hL : (LINE : Nat) = 16777216 := rfl
  have e5 : ("01234" : Str).length = 5 := by rw [len_tl, dig_tl]; rfl
  have e0 : startD ["text", "sign"] [D.str t] = [.val (.str t), .un] := rfl
  have ez : sgnD (cutS "01234" none (some ((t.length : Nat) : Int))) = (dig.take t.length).map fun c => D.str ⟨#[c]⟩ := by
    rw [sgnD_eq]
    unfold signsS
    have : tl (cutS "01234" none (some ((t.length : Nat) : Int))) = dig.take t.length := tl_cut5 (by omega)
    show ((tl _).map _).map _ = _
    rw [this, List.map_map]
    rfl
  have hlen := len_tl t
  simp only [↓reduceIte, disX, dxf, dcallQ, dcallQF, eqv_strs, sgnD_eq, draise1, fAll, diR1, diR2, diL, diT, diS, dname, dapp, dappPop, dlenO, dixO, dretO, dSl, donone, dosome, dyes, dfv, dm1, fJoin, fIndex, fListF, fSortT, dRev, dIn, dNotIn, difE, fMax, fMin, fStr, fList, dseq, dif, dret, dretN, dretF, dretO, dasg, dasgO, dexpr, dnext, dop, dopF, dk, dvar, dcons, dnil, dlst, dflst, dtup, dIx, dI0, dII, dB0, dtest, dtruth, dand, dor, dnot, dcb, dcbF, dcall, dcallF, dixS, dsetS, dinS, difS, fLen, fInt, fAbs, endD, e0, scD, SOK, dEq, dNe, eqv_int, eqv_str, eqv_bl, beq_iff_eq, decide_eq_true_eq, Bool.not_eq_true, Bool.not_eq_true', true_and, and_true, and_self, false_and, and_false, reduceCtorEq, true_or, or_true, true_implies, if_true, if_false, Bool.false_eq_true, not_false_eq_true, dAdd, dMul, dAddF, List.getElem?_cons_zero, List.getElem?_cons_succ, List.set_cons_zero, List.set_cons_succ]
  refine ⟨by omega, ?_⟩
  by_cases a : t.length < 1
  · rw [if_pos (by omega)]
    have : ¬ isOrd (tl t) := fun z => by have := isOrd_len z; omega
    rw [decide_eq_false this] at hq
    exact hq
  rw [if_neg (by omega)]
  refine ⟨by omega, ?_⟩
  by_cases b : 5 < t.length
  · rw [if_pos (by omega)]
    have : ¬ isOrd (tl t) := fun z => by have := isOrd_len z; omega
    rw [decide_eq_false this] at hq
    exact hq
  rw [if_neg (by omega)]
  have iff := isOrd_iff (l := tl t) (by omega) (by omega)
  rw [← hlen] at iff
  refine for_l (ds := (dig.take t.length).map fun c => D.str ⟨#[c]⟩) (fun i env => ∃ x, env = [.val (.str t), x] ∧ ∀ k c, k < i → (dig.take t.length)[k]? = some c → c ∈ tl t) (by intro Q' E' h; refine ⟨by omega, by omega, ?_⟩; show Q' (sgnD _); rw [ez]; exact h) ⟨_, rfl, fun k c hk => absurd hk (Nat.not_lt_zero k)⟩ ?_ ?_
  · rintro i d env' hd ⟨x, rfl, hi⟩
    rw [List.getElem?_map] at hd
    cases hc : (dig.take t.length)[i]? with
    | none => rw [hc] at hd; cases hd
    | some c =>
      rw [hc] at hd
      cases hd
      simp only [hasS_one, ↓reduceIte, disX, dxf, dcallQ, dcallQF, eqv_strs, sgnD_eq, draise1, fAll, diR1, diR2, diL, diT, diS, dname, dapp, dappPop, dlenO, dixO, dretO, dSl, donone, dosome, dyes, dfv, dm1, fJoin, fIndex, fListF, fSortT, dRev, dIn, dNotIn, difE, fMax, fMin, fStr, fList, dseq, dif, dret, dretN, dretF, dretO, dasg, dasgO, dexpr, dnext, dop, dopF, dk, dvar, dcons, dnil, dlst, dflst, dtup, dIx, dI0, dII, dB0, dtest, dtruth, dand, dor, dnot, dcb, dcbF, dcall, dcallF, dixS, dsetS, dinS, difS, fLen, fInt, fAbs, endD, e0, scD, SOK, dEq, dNe, eqv_int, eqv_str, eqv_bl, beq_iff_eq, decide_eq_true_eq, Bool.not_eq_true, Bool.not_eq_true', true_and, and_true, and_self, false_and, and_false, reduceCtorEq, true_or, or_true, true_implies, if_true, if_false, Bool.false_eq_true, not_false_eq_true, dAdd, dMul, dAddF, List.getElem?_cons_zero, List.getElem?_cons_succ, List.set_cons_zero, List.set_cons_succ]
      by_cases q : c ∈ tl t
      · simp only [decide_eq_true q, Bool.not_true, Bool.false_eq_true, if_false]
        refine ⟨_, rfl, fun k c' hk e => ?_⟩
        by_cases hki : k = i
        · rw [hki, hc] at e
          cases e
          exact q
        · exact hi k c' (by omega) e
      · simp only [decide_eq_false q, Bool.not_false, if_true]
        have : ¬ isOrd (tl t) := fun z => q (iff.mp z c (List.mem_of_getElem? hc))
        rw [decide_eq_false this] at hq
        exact hq
  · rintro env' ⟨x, rfl, hi⟩
    have : isOrd (tl t) := iff.mpr fun c hc => by
      obtain ⟨k, hk⟩ := List.mem_iff_getElem?.mp hc
      refine hi k c ?_ hk
      have := (List.getElem?_eq_some_iff.mp hk).1
      rw [List.length_map]
      exact this
    rw [decide_eq_true this] at hq
    exact hq
abbrev s__law_is_renamed : Stmt := top 50
theorem sc__law_is_renamed : FnScope ["told", "order", "text", "k"] ["told", "order", "text"] (defScope s__law_is_renamed) := ⟨rfl, rfl, rfl, by decide +kernel, rfl, by decide +kernel, by decide +kernel⟩
def S__law_is_renamed : DSp := fun ds Q E => ∃ (o t : Str), ds = [.tup [.str "told", .str ⟨(ren (tl o) (tl t)).toArray⟩], .str o, .str t] ∧ t.length ≤ 1000 ∧ isOrd (tl o) ∧ (∀ c ∈ tl t, c ∈ dig.take o.length) ∧ Q (.bl true)
theorem len__law_is_renamed {ds : List D} {Q : D → Prop} {E : Ex → Prop} (h : S__law_is_renamed ds Q E) : ds.length = 3 := by obtain ⟨g, _, h, _⟩ := h; rw [h]; rfl
theorem int_digit {c n : Nat} (h : c ∈ dig.take n) : PySem.intText? ⟨#[c]⟩ = some (((c - 48 : Nat) : Nat) : Int) ∧ c - 48 < n := by
  obtain ⟨k, hk⟩ := List.mem_iff_getElem?.mp h
  rw [List.getElem?_take] at hk
  split at hk
  · rename_i q
    match k, hk with
    | 0, e => simp [dig] at e; subst e; exact ⟨by decide +kernel, q⟩
    | 1, e => simp [dig] at e; subst e; exact ⟨by decide +kernel, q⟩
    | 2, e => simp [dig] at e; subst e; exact ⟨by decide +kernel, q⟩
    | 3, e => simp [dig] at e; subst e; exact ⟨by decide +kernel, q⟩
    | 4, e => simp [dig] at e; subst e; exact ⟨by decide +kernel, q⟩
    | j + 5, e => simp [dig] at e
  · cases hk
theorem ok__law_is_renamed (T : Txt P K mg) {f : Addr} {fd : FuncData} (F : Fun K "_law_is_renamed" "_law_is_renamed" s__law_is_renamed f fd) : FnOk P w K mg base (L2.CX P w) 1 f fd ["told", "order", "text"] (spD K mg false S__law_is_renamed) := by
  refine fn_ok F sc__law_is_renamed (fun ds Qd Ed h => len__law_is_renamed h) (fun cdv Ar outer s H E R M ds Qd Ed hr hK hm h0 h => ?_)
  subst hK hm
  refine ⟨_, (gss_cons (gs_if (GW.t (gw_or (gt_c (cm_ne (room_units hr)) (ge_ix (ge_var (pv 0)) ge_int) ge_str) (gw_or (gt_not (gt_val (ge_blt (b_isi) (by rfl) T.isinstance PyProof.Rows.boot_isinstance (gl_cons (ge_ix (ge_var (pv 0)) ge_int) (gl_cons (ge_tyc (n := "str") (by rfl) T.str) gl_nil))))) (gw_or1 (gt_c (cm_ne (room_units hr)) (ge_blt (b_len) (by rfl) T.len PySem.boot_len (gl_cons (ge_ix (ge_var (pv 0)) ge_int) gl_nil)) (ge_blt (b_len) (by rfl) T.len PySem.boot_len (gl_cons (ge_var (pv 2)) gl_nil))))))) (gss_one (gs_ret ge_bl)) gss_nil)
    (gss_cons (gs_for (passes_of rfl) (by rfl) (gi_rng1 (by rfl) T.range (gl_cons (ge_blt (b_len) (by rfl) T.len PySem.boot_len (gl_cons (ge_var (pv 2)) gl_nil)) gl_nil)) (gg_name (i := 3) sc__law_is_renamed.nd rfl (by first | exact Or.inl rfl | exact Or.inr rfl)) (gss_one (gs_if (gt_c (cm_ne (room_units hr)) (ge_ix (ge_ix (ge_var (pv 0)) ge_int) (ge_var (pv 3))) (ge_ix (ge_var (pv 1)) (ge_bltT (b_int) (by rfl) T.int PyProof.Rows.boot_int (gl_cons (ge_ix (ge_var (pv 2)) (ge_var (pv 3))) gl_nil)))) (gss_one (gs_ret ge_bl)) gss_nil)))
    (gss_one (gs_ret ge_bl)))), ?_⟩
  obtain ⟨o, t, rfl, h1, h2, h3, hq⟩ := h
  have hL : (LINE : Nat) = 16777216 := rfl
  have ho := isOrd_len h2
  have hlo := len_tl o
  have hlt := len_tl t
  have hu : (⟨(ren (tl o) (tl t)).toArray⟩ : Str).length = t.length := by
    rw [len_tl, len_tl]
    show (ren (tl o) (tl t)).length = _
    unfold ren
    rw [List.length_map]
  have e0 : startD ["told", "order", "text", "k"] [.tup [.str "told", .str ⟨(ren (tl o) (tl t)).toArray⟩], .str o, .str t] = [.val (.tup [.str "told", .str ⟨(ren (tl o) (tl t)).toArray⟩]), .val (.str o), .val (.str t), .un] := rfl
  simp (decide := true) only [↓reduceIte, disX, dxf, dcallQ, dcallQF, eqv_strs, sgnD_eq, draise1, fAll, diR1, diR2, diL, diT, diS, dname, dapp, dappPop, dlenO, dixO, dretO, dSl, donone, dosome, dyes, dfv, dm1, fJoin, fIndex, fListF, fSortT, dRev, dIn, dNotIn, difE, fMax, fMin, fStr, fList, dseq, dif, dret, dretN, dretF, dretO, dasg, dasgO, dexpr, dnext, dop, dopF, dk, dvar, dcons, dnil, dlst, dflst, dtup, dIx, dI0, dII, dB0, dtest, dtruth, dand, dor, dnot, dcb, dcbF, dcall, dcallF, dixS, dsetS, dinS, difS, fLen, fInt, fAbs, endD, e0, scD, SOK, dEq, dNe, eqv_int, eqv_str, eqv_bl, beq_iff_eq, decide_eq_true_eq, Bool.not_eq_true, Bool.not_eq_true', true_and, and_true, and_self, false_and, and_false, reduceCtorEq, true_or, or_true, true_implies, if_true, if_false, Bool.false_eq_true, not_false_eq_true, dAdd, dMul, dAddF, List.getElem?_cons_zero, List.getElem?_cons_succ, List.set_cons_zero, List.set_cons_succ]
  refine ⟨_, rfl, .inl rfl, ?_⟩
  rw [if_neg (by rw [eqv_str]; decide)]
  refine ⟨_, rfl, "str", true, rfl, by decide +kernel, ?_⟩
  show if true = false then _ else _
  rw [if_neg (by decide)]
  refine ⟨_, rfl, by rw [hu]; omega, by omega, ?_⟩
  rw [if_neg (by rw [hu]; simp)]
  refine for_r1 (n := t.length) (fun i env => ∃ x, env = [.val (.tup [.str "told", .str ⟨(ren (tl o) (tl t)).toArray⟩]), .val (.str o), .val (.str t), x]) (by intro Q' E' h; exact ⟨by omega, h⟩) (by omega) (by omega) ⟨_, rfl⟩ ?_ ?_
  · rintro i env' hi ⟨x, rfl⟩
    have hi2 : i < (tl t).length := by omega
    obtain ⟨n1, n2⟩ := int_digit (h3 (tl t)[i] (List.getElem_mem hi2))
    have hc : (tl t)[i] - 48 < (tl o).length := by omega
    have hr : i < (ren (tl o) (tl t)).length := by unfold ren; rw [List.length_map]; exact hi2
    have er : (ren (tl o) (tl t))[i]? = some (tl o)[(tl t)[i] - 48] := by
      unfold ren
      rw [List.getElem?_map, List.getElem?_eq_getElem hi2, Option.map_some, List.getD_eq_getElem?_getD, List.getElem?_eq_getElem hc]
      rfl
    rw [List.getElem?_eq_getElem hr] at er
    have er2 := Option.some.inj er
    simp only [↓reduceIte, disX, dxf, dcallQ, dcallQF, eqv_strs, sgnD_eq, draise1, fAll, diR1, diR2, diL, diT, diS, dname, dapp, dappPop, dlenO, dixO, dretO, dSl, donone, dosome, dyes, dfv, dm1, fJoin, fIndex, fListF, fSortT, dRev, dIn, dNotIn, difE, fMax, fMin, fStr, fList, dseq, dif, dret, dretN, dretF, dretO, dasg, dasgO, dexpr, dnext, dop, dopF, dk, dvar, dcons, dnil, dlst, dflst, dtup, dIx, dI0, dII, dB0, dtest, dtruth, dand, dor, dnot, dcb, dcbF, dcall, dcallF, dixS, dsetS, dinS, difS, fLen, fInt, fAbs, endD, e0, scD, SOK, dEq, dNe, eqv_int, eqv_str, eqv_bl, beq_iff_eq, decide_eq_true_eq, Bool.not_eq_true, Bool.not_eq_true', true_and, and_true, and_self, false_and, and_false, reduceCtorEq, true_or, or_true, true_implies, if_true, if_false, Bool.false_eq_true, not_false_eq_true, dAdd, dMul, dAddF, List.getElem?_cons_zero, List.getElem?_cons_succ, List.set_cons_zero, List.set_cons_succ]
    refine ⟨_, rfl, by rw [hu]; omega, _, Nb.atI_nat hr, by omega, _, Nb.atI_nat hi2, _, n1, by show 1 ≤ 640; decide, by omega, _, Nb.atI_nat hc, ?_⟩
    rw [er2]
    refine ite2 (fun z => ?_) (fun _ => ⟨_, rfl⟩)
    simp at z
  · rintro env' ⟨x, rfl⟩
    exact hq
/-! ### the same: texts, and tuples of such -/
def okd : Nat → D → Prop
  | 0, _ => False
  | n + 1, d => (∃ x : Str, d = .str x) ∨ ∃ ds : List D, d = .tup ds ∧ ds.length ≤ 100 ∧ ∀ e ∈ ds, okd n e
def S_same (n : Nat) : DSp := fun ds Q E => ∃ d, ds = [d, d] ∧ okd n d ∧ Q (.bl true)
abbrev s__law_same : Stmt := top 38
theorem sc__law_same : FnScope ["actual", "due", "k"] ["actual", "due"] (defScope s__law_same) := ⟨rfl, rfl, rfl, by decide +kernel, rfl, by decide +kernel, by decide +kernel⟩
theorem ok__law_same (T : Txt P K mg) {k n : Nat} (h__law_same : Has P w K mg base "_law_same" k false (S_same n)) {f : Addr} {fd : FuncData} (F : Fun K "_law_same" "_law_same" s__law_same f fd) : FnOk P w K mg base (L2.CX P w) (k + 1) f fd ["actual", "due"] (spD K mg false (S_same (n + 1))) := by
  refine fn_ok F sc__law_same (fun ds Qd Ed h => by obtain ⟨d, h, _⟩ := h; rw [h]; rfl) (fun cdv Ar outer s H E R M ds Qd Ed hr hK hm h0 h => ?_)
  subst hK hm
  refine ⟨_, (gss_cons (gs_if (gt_c cm_isN (ge_var (pv 1)) ge_non) (gss_one (gs_ret (ge_c cm_isN (ge_var (pv 0)) ge_non))) gss_nil)
    (gss_cons (gs_if (gt_val (ge_blt (b_isi) (by rfl) T.isinstance PyProof.Rows.boot_isinstance (gl_cons (ge_var (pv 1)) (gl_cons (ge_tyc (n := "bool") (by rfl) T.bool) gl_nil)))) (gss_one (gs_ret (ge_and (ge_blt (b_isi) (by rfl) T.isinstance PyProof.Rows.boot_isinstance (gl_cons (ge_var (pv 0)) (gl_cons (ge_tyc (n := "bool") (by rfl) T.bool) gl_nil))) (ge_one (ge_c (cm_eq (room_units hr)) (ge_var (pv 0)) (ge_var (pv 1))))))) gss_nil)
    (gss_cons (gs_if (gt_val (ge_blt (b_isi) (by rfl) T.isinstance PyProof.Rows.boot_isinstance (gl_cons (ge_var (pv 1)) (gl_cons (ge_tyc (n := "int") (by rfl) T.int) gl_nil)))) (gss_one (gs_ret (ge_and (ge_blt (b_isi) (by rfl) T.isinstance PyProof.Rows.boot_isinstance (gl_cons (ge_var (pv 0)) (gl_cons (ge_tyc (n := "int") (by rfl) T.int) gl_nil))) (ge_and (ge_not (ge_blt (b_isi) (by rfl) T.isinstance PyProof.Rows.boot_isinstance (gl_cons (ge_var (pv 0)) (gl_cons (ge_tyc (n := "bool") (by rfl) T.bool) gl_nil)))) (ge_one (ge_c (cm_eq (room_units hr)) (ge_var (pv 0)) (ge_var (pv 1)))))))) gss_nil)
    (gss_cons (gs_if (gt_val (ge_blt (b_isi) (by rfl) T.isinstance PyProof.Rows.boot_isinstance (gl_cons (ge_var (pv 1)) (gl_cons (ge_tyc (n := "str") (by rfl) T.str) gl_nil)))) (gss_one (gs_ret (ge_and (ge_blt (b_isi) (by rfl) T.isinstance PyProof.Rows.boot_isinstance (gl_cons (ge_var (pv 0)) (gl_cons (ge_tyc (n := "str") (by rfl) T.str) gl_nil))) (ge_one (ge_c (cm_eq (room_units hr)) (ge_var (pv 0)) (ge_var (pv 1))))))) gss_nil)
    (gss_cons (gs_if (gt_val (ge_blt (b_isi) (by rfl) T.isinstance PyProof.Rows.boot_isinstance (gl_cons (ge_var (pv 1)) (gl_cons (ge_tyc (n := "tuple") (by rfl) T.tuple) gl_nil)))) (gss_one (gs_if (gt_not (gt_val (ge_blt (b_isi) (by rfl) T.isinstance PyProof.Rows.boot_isinstance (gl_cons (ge_var (pv 0)) (gl_cons (ge_tyc (n := "tuple") (by rfl) T.tuple) gl_nil))))) (gss_one (gs_ret ge_bl)) gss_nil)) (gss_one (gs_if (gt_not (gt_val (ge_blt (b_isi) (by rfl) T.isinstance PyProof.Rows.boot_isinstance (gl_cons (ge_var (pv 0)) (gl_cons (ge_tyc (n := "list") (by rfl) T.list) gl_nil))))) (gss_one (gs_ret ge_bl)) gss_nil)))
    (gss_cons (gs_if (gt_c (cm_ne (room_units hr)) (ge_blt (b_len) (by rfl) T.len PySem.boot_len (gl_cons (ge_var (pv 0)) gl_nil)) (ge_blt (b_len) (by rfl) T.len PySem.boot_len (gl_cons (ge_var (pv 1)) gl_nil))) (gss_one (gs_ret ge_bl)) gss_nil)
    (gss_cons (gs_for (passes_of rfl) (by rfl) (gi_rng1 (by rfl) T.range (gl_cons (ge_blt (b_len) (by rfl) T.len PySem.boot_len (gl_cons (ge_var (pv 1)) gl_nil)) gl_nil)) (gg_name (i := 2) sc__law_same.nd rfl (by first | exact Or.inl rfl | exact Or.inr rfl)) (gss_one (gs_if (gt_not (gt_val (ge_call (Has.call h__law_same hr (takes_of rfl rfl rfl rfl)) (gl_cons (ge_ix (ge_var (pv 0)) (ge_var (pv 2))) (gl_cons (ge_ix (ge_var (pv 1)) (ge_var (pv 2))) gl_nil)) h0))) (gss_one (gs_ret ge_bl)) gss_nil)))
    (gss_one (gs_ret ge_bl))))))))), ?_⟩
  obtain ⟨d, rfl, hd, hq⟩ := h
  have hL : (LINE : Nat) = 16777216 := rfl
  have ki : kitB "str" "bool" = some false ∧ kitB "str" "int" = some false ∧ kitB "str" "str" = some true ∧ kitB "tuple" "bool" = some false ∧ kitB "tuple" "int" = some false ∧ kitB "tuple" "str" = some false ∧ kitB "tuple" "tuple" = some true := ⟨by decide +kernel, by decide +kernel, by decide +kernel, by decide +kernel, by decide +kernel, by decide +kernel, by decide +kernel⟩
  have k3 := ki.2.2.1
  rcases hd with ⟨x, rfl⟩ | ⟨es, rfl, hl, he⟩
  · have e0 : startD ["actual", "due", "k"] [D.str x, .str x] = [.val (.str x), .val (.str x), .un] := rfl
    refine ⟨"str", false, rfl, ki.1, "str", false, rfl, ki.2.1, "str", true, rfl, k3, "str", true, rfl, k3, ?_⟩
    show if true = true then _ else _
    rw [if_pos rfl]
    refine ⟨.inl rfl, ?_⟩
    show Qd (.bl (D.eqv (.str x) (.str x)))
    rw [eqv_str, beq_self_eq_true]
    exact hq
  · have e0 : startD ["actual", "due", "k"] [D.tup es, .tup es] = [.val (.tup es), .val (.tup es), .un] := rfl
    refine ⟨"tuple", false, rfl, ki.2.2.2.1, "tuple", false, rfl, ki.2.2.2.2.1, "tuple", false, rfl, ki.2.2.2.2.2.1, "tuple", true, rfl, ki.2.2.2.2.2.2, "tuple", true, rfl, ki.2.2.2.2.2.2, ?_⟩
    show if (!true) = true then _ else _
    rw [if_neg (by decide)]
    refine ⟨.inl rfl, ?_⟩
    show if (!D.eqv (.int _) (.int _)) = true then _ else _
    rw [if_neg (by rw [eqv_int, beq_self_eq_true]; decide)]
    refine for_r1 (n := es.length) (fun i env => ∃ x, env = [.val (.tup es), .val (.tup es), x]) (by exact fun _ _ h => h) (by omega) (by omega) ⟨_, rfl⟩ ?_ ?_
    · rintro i env' hi ⟨x, rfl⟩
      have hi2 : i < es.length := by omega
      refine ⟨es[i], Nb.atI_nat hi2, es[i], Nb.atI_nat hi2, es[i], rfl, he _ (List.getElem_mem hi2), ?_⟩
      show if (!true) = true then _ else _
      rw [if_neg (by decide)]
      exact ⟨_, rfl⟩
    · rintro env' ⟨x, rfl⟩
      exact hq
end
end K9
set_option maxRecDepth 100000
set_option maxHeartbeats 4000000
namespace K9
open PySem PySem.Spec PyProof.Rows L2 Nb TL
section
variable {P : Program} {w : World} {K : PySem.W.Frag} {mg : Str → Option Value} {base : Heap}
/-! ### the way back, the mathematics -/
theorem dig_at {n k : Nat} (h : k < n) (h5 : n ≤ 5) : (dig.take n)[k]? = some (48 + k) := by
  rw [List.getElem?_take, if_pos h]
  have : k = 0 ∨ k = 1 ∨ k = 2 ∨ k = 3 ∨ k = 4 := by omega
  rcases this with e | e | e | e | e <;> (rw [e]; rfl)
theorem dig_mem {n c : Nat} (h5 : n ≤ 5) : c ∈ dig.take n ↔ 48 ≤ c ∧ c < 48 + n := by
  constructor
  · intro h
    obtain ⟨k, hk⟩ := List.mem_iff_getElem?.mp h
    have hl := (List.getElem?_eq_some_iff.mp hk).1
    rw [List.length_take] at hl
    have : dig.length = 5 := rfl
    rw [dig_at (by omega) h5] at hk
    cases hk
    omega
  · intro h
    refine List.mem_iff_getElem?.mpr ⟨c - 48, ?_⟩
    rw [dig_at (by omega) h5]
    congr 1
    omega
theorem isOrd_nodup {l : List Nat} (h : isOrd l) : l.Nodup := by
  refine h.2.nodup_iff.mpr ?_
  have hd : dig.Nodup := by decide
  exact hd.sublist (List.take_sublist _ _)
theorem isOrd_mem {l : List Nat} (h : isOrd l) {c : Nat} : c ∈ l ↔ 48 ≤ c ∧ c < 48 + l.length := h.2.mem_iff.trans (dig_mem (isOrd_len h).2)
theorem idx_at {l : List Nat} (h : l.Nodup) {k : Nat} (hk : k < l.length) : l.idxOf l[k] = k := by
  induction l generalizing k with
  | nil => simp at hk
  | cons a l ih =>
    cases k with
    | zero => simp
    | succ k =>
      have hn := List.nodup_cons.mp h
      have hk2 : k < l.length := by simpa using hk
      have ne : (a == l[k]) = false := by
        simp
        intro z
        exact hn.1 (by rw [z]; exact List.getElem_mem hk2)
      rw [List.getElem_cons_succ, List.idxOf_cons, ne, ih hn.2 hk2]
      rfl
theorem bak_len {l : List Nat} (h : isOrd l) : (bak l).length = l.length := by
  unfold bak
  rw [List.length_map, List.length_take]
  have := isOrd_len h
  have : dig.length = 5 := rfl
  omega
theorem bak_at {l : List Nat} (h : isOrd l) {k : Nat} (hk : k < l.length) : (bak l)[k]? = some (48 + l.idxOf (48 + k)) := by
  unfold bak
  rw [List.getElem?_map, dig_at hk (isOrd_len h).2]
  rfl
/-- the way back -/
theorem bak_of {l : List Nat} (h : isOrd l) {k : Nat} (hk : k < l.length) : (bak l).getD (l[k] - 48) 0 = 48 + k := by
  have hm := (isOrd_mem h).mp (List.getElem_mem hk)
  rw [List.getD_eq_getElem?_getD, bak_at h (by omega), show 48 + (l[k] - 48) = l[k] by omega, idx_at (isOrd_nodup h) hk]
  rfl
theorem isOrd_bak {l : List Nat} (h : isOrd l) : isOrd (bak l) := by
  have hl := isOrd_len h
  have hb := bak_len h
  refine ⟨fun z => by rw [z] at hb; simp at hb; omega, ?_⟩
  rw [hb]
  refine (perm_of_sub ?_ (fun c hc => ?_) ?_).symm
  · have hd : dig.Nodup := by decide
    exact hd.sublist (List.take_sublist _ _)
  · have hc2 := (dig_mem hl.2).mp hc
    have hk : c - 48 < l.length := by omega
    have hm := (isOrd_mem h).mp (List.getElem_mem hk)
    refine List.mem_iff_getElem?.mpr ⟨l[c - 48] - 48, ?_⟩
    rw [bak_at h (by omega), show 48 + (l[c - 48] - 48) = l[c - 48] by omega, idx_at (isOrd_nodup h) hk]
    congr 1
    omega
  · rw [hb, List.length_take]
    have : dig.length = 5 := rfl
    omega
theorem at_idx {l : List Nat} {c : Nat} (h : c ∈ l) : l[l.idxOf c]? = some c := by
  have := List.idxOf_lt_length_of_mem h
  rw [List.getElem?_eq_getElem this, List.getElem_idxOf]
/-- ren by an order, then by its way back -/
theorem ren_bak {l t : List Nat} (h : isOrd l) (ht : ∀ c ∈ t, c ∈ dig.take l.length) : ren (bak l) (ren l t) = t := by
  unfold ren
  rw [List.map_map]
  refine (List.map_congr_left fun c hc => ?_).trans (List.map_id t)
  have hc2 := (dig_mem (isOrd_len h).2).mp (ht c hc)
  have hk : c - 48 < l.length := by omega
  show (bak l).getD (l.getD (c - 48) 0 - 48) 0 = c
  rw [List.getD_eq_getElem?_getD (l := l), List.getElem?_eq_getElem hk, Option.getD_some, bak_of h hk]
  omega
theorem bak_ren {l t : List Nat} (h : isOrd l) (ht : ∀ c ∈ t, c ∈ dig.take l.length) : ren l (ren (bak l) t) = t := by
  unfold ren
  rw [List.map_map]
  refine (List.map_congr_left fun c hc => ?_).trans (List.map_id t)
  have hc2 := (dig_mem (isOrd_len h).2).mp (ht c hc)
  show l.getD ((bak l).getD (c - 48) 0 - 48) 0 = c
  have hm : c ∈ l := (isOrd_mem h).mpr hc2
  rw [List.getD_eq_getElem?_getD (l := bak l), bak_at h (by omega), Option.getD_some, show 48 + l.idxOf (48 + (c - 48)) - 48 = l.idxOf c by rw [show 48 + (c - 48) = c by omega]; omega, List.getD_eq_getElem?_getD, at_idx hm]
  rfl
theorem bak_bak {l : List Nat} (h : isOrd l) : bak (bak l) = l := by
  refine List.ext_getElem? fun k => ?_
  have hb := isOrd_bak h
  by_cases hk : k < l.length
  · rw [bak_at hb (by rw [bak_len h]; exact hk), List.getElem?_eq_getElem hk]
    have hm := (isOrd_mem h).mp (List.getElem_mem hk)
    have hj : l[k] - 48 < (bak l).length := by rw [bak_len h]; omega
    have e := bak_of h hk
    rw [List.getD_eq_getElem?_getD, List.getElem?_eq_getElem hj, Option.getD_some] at e
    have i := idx_at (isOrd_nodup hb) hj
    rw [e] at i
    rw [i]
    congr 1
    omega
  · rw [List.getElem?_eq_none (by rw [bak_len hb, bak_len h]; omega), List.getElem?_eq_none (by omega)]
abbrev s__law_undone : Stmt := top 51
theorem sc__law_undone : FnScope ["order", "text", "told", "back", "y", "turned"] ["order", "text"] (defScope s__law_undone) := ⟨rfl, rfl, rfl, by decide +kernel, rfl, by decide +kernel, by decide +kernel⟩
def S__law_undone : DSp := fun ds Q E => ∃ (o t : Str), ds = [.str o, .str t] ∧ t.length ≤ 1000 ∧ isOrd (tl o) ∧ (∀ z : Int, mostL[(tl o).length - 1]? = some z → okText t (o.length : Nat) z) ∧ Q (.bl true)
theorem len__law_undone {ds : List D} {Q : D → Prop} {E : Ex → Prop} (h : S__law_undone ds Q E) : ds.length = 2 := by obtain ⟨g, _, h, _⟩ := h; rw [h]; rfl
theorem isOrd_128 {l : List Nat} (h : isOrd l) : ∀ c ∈ l, c < 128 := fun c hc => by
  have := (isOrd_mem h).mp hc
  have := isOrd_len h
  omega
@[irreducible] def S__law_same : DSp := S_same 3
theorem rb_good {o t : Str} {Q : D → Prop} {E : Ex → Prop} (ho : isOrd (tl o)) (h2 : t.length ≤ 1000) (hg : ∀ z : Int, mostL[(tl o).length - 1]? = some z → okText t (o.length : Nat) z) (hq : Q (.tup [.str "told", .str ⟨(ren (tl o) (tl t)).toArray⟩])) : S__law_renamed_by [.str o, .str t] Q E := by
  unfold S__law_renamed_by
  exact ⟨o, t, rfl, by have := isOrd_len ho; rw [len_tl]; omega, h2, isOrd_128 ho, fun hn => absurd ho hn, fun z hz _ => ⟨fun hb => absurd (hg z hz) hb, fun _ => hq⟩⟩
theorem bo_good {o : Str} {Q : D → Prop} {E : Ex → Prop} (ho : isOrd (tl o)) (hq : Q (.tup [.str "told", .str ⟨(bak (tl o)).toArray⟩])) : S__law_back_of [.str o] Q E := by
  unfold S__law_back_of
  exact ⟨o, rfl, by have := isOrd_len ho; rw [len_tl]; omega, isOrd_128 ho, fun hn => absurd ho hn, fun _ => hq⟩
theorem same_told {x y : Str} {Q : D → Prop} {E : Ex → Prop} (e : x = y) (hq : Q (.bl true)) : S__law_same [.tup [.str "told", .str x], .tup [.str "told", .str y]] Q E := by
  subst e
  unfold S__law_same
  refine ⟨_, rfl, .inr ⟨_, rfl, by show 2 ≤ 100; decide, fun d hd => ?_⟩, hq⟩
  rcases List.mem_cons.mp hd with h | h
  · exact .inl ⟨_, h⟩
  · exact .inl ⟨_, List.mem_singleton.mp h⟩
theorem rb_bad {o t : Str} {Q : D → Prop} {E : Ex → Prop} (ho : ¬ isOrd (tl o)) (h1 : o.length ≤ 1000) (h2 : t.length ≤ 1000) (h3 : ∀ c ∈ tl o, c < 128) (hq : Q (.tup [.str "refused", .tup [.str "BadRow", .str o]])) : S__law_renamed_by [.str o, .str t] Q E := by
  unfold S__law_renamed_by
  exact ⟨o, t, rfl, h1, h2, h3, fun _ => hq, fun z hz h => absurd h ho⟩
theorem bo_bad {o : Str} {Q : D → Prop} {E : Ex → Prop} (ho : ¬ isOrd (tl o)) (h1 : o.length ≤ 1000) (h3 : ∀ c ∈ tl o, c < 128) (hq : Q (.tup [.str "refused", .tup [.str "BadRow", .str o]])) : S__law_back_of [.str o] Q E := by
  unfold S__law_back_of
  exact ⟨o, rfl, h1, h3, fun _ => hq, fun h => absurd h ho⟩
theorem same_ref {x : Str} {Q : D → Prop} {E : Ex → Prop} (hq : Q (.bl true)) : S__law_same [.tup [.str "refused", .tup [.str "BadRow", .str x]], .tup [.str "refused", .tup [.str "BadRow", .str x]]] Q E := by
  unfold S__law_same
  refine ⟨_, rfl, .inr ⟨_, rfl, by show 2 ≤ 100; decide, fun d hd => ?_⟩, hq⟩
  rcases List.mem_cons.mp hd with h | h
  · exact .inl ⟨_, h⟩
  · refine .inr ⟨_, List.mem_singleton.mp h, by show 2 ≤ 100; decide, fun e he => ?_⟩
    rcases List.mem_cons.mp he with h | h
    · exact .inl ⟨_, h⟩
    · exact .inl ⟨_, List.mem_singleton.mp h⟩
/-- a joint order -/
theorem isOrd_ren {f l : List Nat} (hf : isOrd f) (hl : isOrd l) (e : f.length = l.length) : isOrd (ren l f) := by
  have hn := isOrd_len hf
  have lr : (ren l f).length = f.length := by unfold ren; rw [List.length_map]
  refine ⟨fun z => by rw [z] at lr; simp at lr; omega, ?_⟩
  rw [lr]
  refine (perm_of_sub ?_ (fun c hc => ?_) ?_).symm
  · have hd : dig.Nodup := by decide
    exact hd.sublist (List.take_sublist _ _)
  · have hc2 := (dig_mem hn.2).mp hc
    have hcl : c ∈ l := (isOrd_mem hl).mpr (by omega)
    obtain ⟨k, hk⟩ := List.mem_iff_getElem?.mp hcl
    have hkl := (List.getElem?_eq_some_iff.mp hk).1
    have hkf : 48 + k ∈ f := (isOrd_mem hf).mpr (by omega)
    unfold ren
    refine List.mem_map.mpr ⟨48 + k, hkf, ?_⟩
    rw [show 48 + k - 48 = k by omega, List.getD_eq_getElem?_getD, hk]
    rfl
  · rw [lr, List.length_take]
    have : dig.length = 5 := rfl
    omega
theorem ren_ren {f l t : List Nat} (hf : isOrd f) (ht : ∀ c ∈ t, c ∈ dig.take f.length) : ren l (ren f t) = ren (ren l f) t := by
  unfold ren
  rw [List.map_map]
  refine List.map_congr_left fun c hc => ?_
  have hc2 := (dig_mem (isOrd_len hf).2).mp (ht c hc)
  have hk : c - 48 < f.length := by omega
  show l.getD (f.getD (c - 48) 0 - 48) 0 = (f.map fun c => l.getD (c - 48) 0).getD (c - 48) 0
  rw [List.getD_eq_getElem?_getD (l := f), List.getElem?_eq_getElem hk, Option.getD_some, List.getD_eq_getElem?_getD (l := f.map _), List.getElem?_map, List.getElem?_eq_getElem hk]
  rfl
theorem ren_mem {l t : List Nat} (h : isOrd l) (ht : ∀ c ∈ t, c ∈ dig.take l.length) : ∀ c ∈ ren l t, c ∈ dig.take l.length := fun c hc => by
  obtain ⟨b, hb, rfl⟩ := List.mem_map.mp hc
  have hb2 := (dig_mem (isOrd_len h).2).mp (ht b hb)
  have hk : b - 48 < l.length := by omega
  rw [List.getD_eq_getElem?_getD, List.getElem?_eq_getElem hk, Option.getD_some]
  exact h.2.mem_iff.mp (List.getElem_mem hk)
theorem digit_str {i : Nat} (h : i < 5) : Str.ofString (toString ((i : Nat) : Int)) = ⟨#[48 + i]⟩ := by
  have : i = 0 ∨ i = 1 ∨ i = 2 ∨ i = 3 ∨ i = 4 := by omega
  rcases this with e | e | e | e | e <;> (subst e; decide +kernel)
theorem ok__law_undone (T : Txt P K mg) (h__law_back_of : Has P w K mg base "_law_back_of" 6 false S__law_back_of) (h__law_is_order : Has P w K mg base "_law_is_order" 1 false S__law_is_order) (h__law_is_renamed : Has P w K mg base "_law_is_renamed" 1 false S__law_is_renamed) (h__law_renamed_by : Has P w K mg base "_law_renamed_by" 6 false S__law_renamed_by) (h__law_same : Has P w K mg base "_law_same" 4 false S__law_same) {f : Addr} {fd : FuncData} (F : Fun K "_law_undone" "_law_undone" s__law_undone f fd) : FnOk P w K mg base (L2.CX P w) 7 f fd ["order", "text"] (spD K mg false S__law_undone) := by
  refine fn_ok F sc__law_undone (fun ds Qd Ed h => len__law_undone h) (fun cdv Ar outer s H E R M ds Qd Ed hr hK hm h0 h => ?_)
  subst hK hm
  refine ⟨_, (gss_cons (gs_asg (i := 2) (ge_call (Has.call h__law_renamed_by (hr.mono (by decide)) (takes_of rfl rfl rfl rfl)) (gl_cons (ge_var (pv 0)) (gl_cons (ge_var (pv 1)) gl_nil)) h0) sc__law_undone.nd rfl (by first | exact Or.inl rfl | exact Or.inr rfl))
    (gss_cons (gs_if (gt_not (gt_val (ge_call (Has.call h__law_is_renamed (hr.mono (by decide)) (takes_of rfl rfl rfl rfl)) (gl_cons (ge_var (pv 2)) (gl_cons (ge_var (pv 0)) (gl_cons (ge_var (pv 1)) gl_nil))) h0))) (gss_one (gs_ret ge_bl)) gss_nil)
    (gss_cons (gs_asg (i := 3) (ge_call (Has.call h__law_back_of (hr.mono (by decide)) (takes_of rfl rfl rfl rfl)) (gl_cons (ge_var (pv 0)) gl_nil) h0) sc__law_undone.nd rfl (by first | exact Or.inl rfl | exact Or.inr rfl))
    (gss_cons (gs_if (GW.t (gw_or (gt_c (cm_ne (room_units hr)) (ge_ix (ge_var (pv 3)) ge_int) ge_str) (gw_or (gt_not (gt_val (ge_blt (b_isi) (by rfl) T.isinstance PyProof.Rows.boot_isinstance (gl_cons (ge_ix (ge_var (pv 3)) ge_int) (gl_cons (ge_tyc (n := "str") (by rfl) T.str) gl_nil))))) (gw_or (gt_not (gt_val (ge_call (Has.call h__law_is_order (hr.mono (by decide)) (takes_of rfl rfl rfl rfl)) (gl_cons (ge_ix (ge_var (pv 3)) ge_int) gl_nil) h0))) (gw_or1 (gt_c (cm_ne (room_units hr)) (ge_blt (b_len) (by rfl) T.len PySem.boot_len (gl_cons (ge_ix (ge_var (pv 3)) ge_int) gl_nil)) (ge_blt (b_len) (by rfl) T.len PySem.boot_len (gl_cons (ge_var (pv 0)) gl_nil)))))))) (gss_one (gs_ret ge_bl)) gss_nil)
    (gss_cons (gs_for (passes_of rfl) (by rfl) (gi_rng1 (by rfl) T.range (gl_cons (ge_blt (b_len) (by rfl) T.len PySem.boot_len (gl_cons (ge_var (pv 0)) gl_nil)) gl_nil)) (gg_name (i := 4) sc__law_undone.nd rfl (by first | exact Or.inl rfl | exact Or.inr rfl)) (gss_one (gs_if (gt_c (cm_ne (room_units hr)) (ge_ix (ge_ix (ge_var (pv 3)) ge_int) (ge_bltT (b_int) (by rfl) T.int PyProof.Rows.boot_int (gl_cons (ge_ix (ge_var (pv 0)) (ge_var (pv 4))) gl_nil))) (ge_bltT (b_str) (by rfl) T.str PyProof.Rows.boot_str (gl_cons (ge_var (pv 4)) gl_nil))) (gss_one (gs_ret ge_bl)) gss_nil)))
    (gss_cons (gs_if (gt_not (gt_val (ge_call (Has.call h__law_same (hr.mono (by decide)) (takes_of rfl rfl rfl rfl)) (gl_cons (ge_call (Has.call h__law_renamed_by (hr.mono (by decide)) (takes_of rfl rfl rfl rfl)) (gl_cons (ge_ix (ge_var (pv 3)) ge_int) (gl_cons (ge_ix (ge_var (pv 2)) ge_int) gl_nil)) h0) (gl_cons (ge_tup (gl_cons ge_str (gl_cons (ge_var (pv 1)) gl_nil))) gl_nil)) h0))) (gss_one (gs_ret ge_bl)) gss_nil)
    (gss_cons (gs_asg (i := 5) (ge_call (Has.call h__law_renamed_by (hr.mono (by decide)) (takes_of rfl rfl rfl rfl)) (gl_cons (ge_ix (ge_var (pv 3)) ge_int) (gl_cons (ge_var (pv 1)) gl_nil)) h0) sc__law_undone.nd rfl (by first | exact Or.inl rfl | exact Or.inr rfl))
    (gss_cons (gs_if (GW.t (gw_or (gt_c (cm_ne (room_units hr)) (ge_ix (ge_var (pv 5)) ge_int) ge_str) (gw_or1 (gt_not (gt_val (ge_call (Has.call h__law_same (hr.mono (by decide)) (takes_of rfl rfl rfl rfl)) (gl_cons (ge_call (Has.call h__law_renamed_by (hr.mono (by decide)) (takes_of rfl rfl rfl rfl)) (gl_cons (ge_var (pv 0)) (gl_cons (ge_ix (ge_var (pv 5)) ge_int) gl_nil)) h0) (gl_cons (ge_tup (gl_cons ge_str (gl_cons (ge_var (pv 1)) gl_nil))) gl_nil)) h0)))))) (gss_one (gs_ret ge_bl)) gss_nil)
    (gss_one (gs_ret (ge_call (Has.call h__law_same (hr.mono (by decide)) (takes_of rfl rfl rfl rfl)) (gl_cons (ge_call (Has.call h__law_back_of (hr.mono (by decide)) (takes_of rfl rfl rfl rfl)) (gl_cons (ge_ix (ge_var (pv 3)) ge_int) gl_nil) h0) (gl_cons (ge_tup (gl_cons ge_str (gl_cons (ge_var (pv 0)) gl_nil))) gl_nil)) h0))))))))))), ?_⟩
  obtain ⟨o, t, rfl, h2, ho, hg, hq⟩ := h
  have hL : (LINE : Nat) = 16777216 := rfl
  have hlo := isOrd_len ho
  have h128 := isOrd_128 ho
  have eo := len_tl o
  have et := len_tl t
  have hmm : ∃ m, mostL[(tl o).length - 1]? = some m := by
    have : (tl o).length = 1 ∨ (tl o).length = 2 ∨ (tl o).length = 3 ∨ (tl o).length = 4 ∨ (tl o).length = 5 := by omega
    rcases this with e | e | e | e | e <;> (rw [e]; exact ⟨_, rfl⟩)
  obtain ⟨m, hm⟩ := hmm
  have over : ∀ c ∈ tl t, c ∈ dig.take o.length := (hg m hm).2
  refine rb_good ho h2 hg ?_
  refine ⟨o, t, rfl, h2, ho, over, ?_⟩
  show if (!true) = true then _ else _
  rw [if_neg (by decide)]
  refine bo_good ho ?_
  refine ⟨_, rfl, .inl rfl, ?_⟩
  have ktold : D.eqv (.str "told") (.str "told") = true := by rw [eqv_str, beq_self_eq_true]
  have kstr : kitB "str" "str" = some true := by decide +kernel
  have hb := isOrd_bak ho
  have lb : (⟨(bak (tl o)).toArray⟩ : Str).length = o.length := by rw [len_tl, len_tl]; exact bak_len ho
  show if (!D.eqv (.str "told") (.str "told")) = true then _ else _
  rw [if_neg (by rw [ktold]; decide)]
  refine ⟨_, rfl, "str", true, rfl, kstr, ?_⟩
  show if (!true) = true then _ else _
  rw [if_neg (by decide)]
  refine ⟨_, rfl, _, rfl, by rw [lb]; omega, ?_⟩
  show if (!decide (isOrd (bak (tl o)))) = true then _ else _
  rw [if_neg (by rw [decide_eq_true hb]; decide)]
  refine ⟨_, rfl, by rw [lb]; omega, by omega, .inl rfl, ?_⟩
  show if (!D.eqv (.int _) (.int _)) = true then _ else _
  rw [if_neg (by rw [eqv_int, lb, beq_self_eq_true]; decide)]
  refine for_r1 (n := o.length) (fun i env => ∃ x, env = [.val (.str o), .val (.str t), .val (.tup [.str "told", .str ⟨(ren (tl o) (tl t)).toArray⟩]), .val (.tup [.str "told", .str ⟨(bak (tl o)).toArray⟩]), x, .un]) (by intro Q' E' h; exact ⟨by omega, h⟩) (by omega) (by omega) ⟨_, rfl⟩ ?_ ?_
  · rintro i env' hi ⟨x, rfl⟩
    have hi2 : i < (tl o).length := by omega
    have hm9 := (isOrd_mem ho).mp (List.getElem_mem hi2)
    have hin : (tl o)[i] ∈ dig.take o.length := by rw [eo]; exact ho.2.mem_iff.mp (List.getElem_mem hi2)
    obtain ⟨n1, n2⟩ := int_digit hin
    have hbk : (tl o)[i] - 48 < (bak (tl o)).length := by rw [bak_len ho]; omega
    have eb := bak_of ho hi2
    rw [List.getD_eq_getElem?_getD, List.getElem?_eq_getElem hbk, Option.getD_some] at eb
    refine ⟨_, rfl, by omega, _, Nb.atI_nat hi2, _, n1, by show 1 ≤ 640; decide, by rw [lb]; omega, _, Nb.atI_nat hbk, log_small (by omega) (by omega), .inl rfl, ?_⟩
    show if (!D.eqv (.str _) (.str _)) = true then _ else _
    rw [if_neg (by rw [eqv_str, eb, digit_str (by omega), beq_self_eq_true]; decide)]
    exact ⟨_, rfl⟩
  · rintro env' ⟨x, rfl⟩
    have lr : (⟨(ren (tl o) (tl t)).toArray⟩ : Str).length = t.length := by
      rw [len_tl, len_tl]
      show (ren (tl o) (tl t)).length = _
      unfold ren
      rw [List.length_map]
    have lr2 : (⟨(ren (bak (tl o)) (tl t)).toArray⟩ : Str).length = t.length := by
      rw [len_tl, len_tl]
      show (ren (bak (tl o)) (tl t)).length = _
      unfold ren
      rw [List.length_map]
    rw [eo] at over
    have over2 : ∀ c ∈ tl t, c ∈ dig.take (bak (tl o)).length := by rw [bak_len ho]; exact over
    have hgb : ∀ u : Str, u.length = t.length → (∀ c ∈ tl u, c ∈ dig.take (tl o).length) → ∀ z : Int, mostL[(bak (tl o)).length - 1]? = some z → okText u ((⟨(bak (tl o)).toArray⟩ : Str).length : Nat) z := fun u hu hc z hz => by
      rw [bak_len ho] at hz
      have := (hg z hz).1
      refine ⟨by rw [hu]; exact this, ?_⟩
      rw [lb, eo]
      simpa using hc
    refine ⟨_, rfl, _, rfl, rb_good (o := ⟨(bak (tl o)).toArray⟩) (t := ⟨(ren (tl o) (tl t)).toArray⟩) hb (by rw [lr]; exact h2) (hgb _ lr (ren_mem ho over)) ⟨by show 2 ≤ 16777216; decide, same_told (by show (⟨(ren (bak (tl o)) (ren (tl o) (tl t))).toArray⟩ : Str) = t; rw [ren_bak ho over]) ?_⟩⟩
    show if (!true) = true then _ else _
    rw [if_neg (by decide)]
    refine ⟨_, rfl, rb_good (o := ⟨(bak (tl o)).toArray⟩) (t := t) hb h2 (hgb t rfl over) ?_⟩
    refine ⟨_, rfl, .inl rfl, ?_⟩
    show if (!D.eqv (.str "told") (.str "told")) = true then _ else _
    rw [if_neg (by rw [ktold]; decide)]
    have over3 : ∀ c ∈ ren (bak (tl o)) (tl t), c ∈ dig.take o.length := by
      have := ren_mem hb over2
      rw [bak_len ho, ← eo] at this
      exact this
    refine ⟨_, rfl, rb_good (o := o) (t := ⟨(ren (bak (tl o)) (tl t)).toArray⟩) ho (by rw [lr2]; exact h2) (fun z hz => ⟨by rw [lr2]; exact (hg z hz).1, by simpa using over3⟩) ⟨by show 2 ≤ 16777216; decide, same_told (by show (⟨(ren (tl o) (ren (bak (tl o)) (tl t))).toArray⟩ : Str) = t; rw [bak_ren ho over]) ?_⟩⟩
    show if (!true) = true then _ else _
    rw [if_neg (by decide)]
    refine ⟨_, rfl, bo_good (o := ⟨(bak (tl o)).toArray⟩) hb ⟨by show 2 ≤ 16777216; decide, same_told (by show (⟨(bak (bak (tl o))).toArray⟩ : Str) = o; rw [bak_bak ho]) hq⟩⟩
abbrev s__law_order_judged : Stmt := top 52
theorem sc__law_order_judged : FnScope ["order", "text", "due"] ["order", "text"] (defScope s__law_order_judged) := ⟨rfl, rfl, rfl, by decide +kernel, rfl, by decide +kernel, by decide +kernel⟩
def S__law_order_judged : DSp := fun ds Q E => ∃ (o t : Str), ds = [.str o, .str t] ∧ o.length ≤ 1000 ∧ t.length ≤ 1000 ∧ (∀ c ∈ tl o, c < 128) ∧ Q (.bl true)
theorem len__law_order_judged {ds : List D} {Q : D → Prop} {E : Ex → Prop} (h : S__law_order_judged ds Q E) : ds.length = 2 := by obtain ⟨g, _, h, _⟩ := h; rw [h]; rfl
theorem ok__law_order_judged (T : Txt P K mg) (h__law_back_of : Has P w K mg base "_law_back_of" 6 false S__law_back_of) (h__law_is_order : Has P w K mg base "_law_is_order" 1 false S__law_is_order) (h__law_renamed_by : Has P w K mg base "_law_renamed_by" 6 false S__law_renamed_by) (h__law_same : Has P w K mg base "_law_same" 4 false S__law_same) (h__law_undone : Has P w K mg base "_law_undone" 7 false S__law_undone) {f : Addr} {fd : FuncData} (F : Fun K "_law_order_judged" "_law_order_judged" s__law_order_judged f fd) : FnOk P w K mg base (L2.CX P w) 8 f fd ["order", "text"] (spD K mg false S__law_order_judged) := by
  refine fn_ok F sc__law_order_judged (fun ds Qd Ed h => len__law_order_judged h) (fun cdv Ar outer s H E R M ds Qd Ed hr hK hm h0 h => ?_)
  subst hK hm
  refine ⟨_, (gss_cons (gs_if (gt_val (ge_call (Has.call h__law_is_order (hr.mono (by decide)) (takes_of rfl rfl rfl rfl)) (gl_cons (ge_var (pv 0)) gl_nil) h0)) (gss_one (gs_ret (ge_call (Has.call h__law_undone (hr.mono (by decide)) (takes_of rfl rfl rfl rfl)) (gl_cons (ge_var (pv 0)) (gl_cons (ge_ix ge_str (ge_subI (ge_blt (b_len) (by rfl) T.len PySem.boot_len (gl_cons (ge_var (pv 0)) gl_nil)) ge_int)) gl_nil)) h0))) gss_nil)
    (gss_cons (gs_asg (i := 2) (ge_tup (gl_cons ge_str (gl_cons (ge_tup (gl_cons ge_str (gl_cons (ge_var (pv 0)) gl_nil))) gl_nil))) sc__law_order_judged.nd rfl (by first | exact Or.inl rfl | exact Or.inr rfl))
    (gss_cons (gs_if (GW.t (gw_or (gt_not (gt_val (ge_call (Has.call h__law_same (hr.mono (by decide)) (takes_of rfl rfl rfl rfl)) (gl_cons (ge_call (Has.call h__law_back_of (hr.mono (by decide)) (takes_of rfl rfl rfl rfl)) (gl_cons (ge_var (pv 0)) gl_nil) h0) (gl_cons (ge_var (pv 2)) gl_nil)) h0))) (gw_or1 (gt_not (gt_val (ge_call (Has.call h__law_same (hr.mono (by decide)) (takes_of rfl rfl rfl rfl)) (gl_cons (ge_call (Has.call h__law_renamed_by (hr.mono (by decide)) (takes_of rfl rfl rfl rfl)) (gl_cons (ge_var (pv 0)) (gl_cons (ge_var (pv 1)) gl_nil)) h0) (gl_cons (ge_var (pv 2)) gl_nil)) h0)))))) (gss_one (gs_ret ge_bl)) gss_nil)
    (gss_one (gs_ret (ge_call (Has.call h__law_same (hr.mono (by decide)) (takes_of rfl rfl rfl rfl)) (gl_cons (ge_call (Has.call h__law_renamed_by (hr.mono (by decide)) (takes_of rfl rfl rfl rfl)) (gl_cons (ge_var (pv 0)) (gl_cons ge_str gl_nil)) h0) (gl_cons (ge_var (pv 2)) gl_nil)) h0)))))), ?_⟩
  obtain ⟨o, t, rfl, h1, h2, h3, hq⟩ := h
  have hL : (LINE : Nat) = 16777216 := rfl
  have e5 : ("01234" : Str).length = 5 := by rw [len_tl, dig_tl]; rfl
  refine ⟨o, rfl, h1, ?_⟩
  by_cases ho : isOrd (tl o)
  · have hlo := isOrd_len ho
    have eo := len_tl o
    show if decide (isOrd (tl o)) = true then _ else _
    rw [if_pos (decide_eq_true ho)]
    have hat : L2.atI (tl "01234") ((o.length : Int) - 1) = some (47 + o.length) := by
      rw [dig_tl]
      have : o.length = 1 ∨ o.length = 2 ∨ o.length = 3 ∨ o.length = 4 ∨ o.length = 5 := by omega
      rcases this with e | e | e | e | e <;> (rw [e]; rfl)
    refine ⟨by omega, by omega, _, hat, o, _, rfl, by show 1 ≤ 1000; decide, ho, fun z hz => ⟨?_, fun c hc => ?_⟩, hq⟩
    · show ((1 : Nat) : Int) ≤ z
      have : (tl o).length = 1 ∨ (tl o).length = 2 ∨ (tl o).length = 3 ∨ (tl o).length = 4 ∨ (tl o).length = 5 := by omega
      rcases this with e | e | e | e | e <;> (rw [e] at hz; simp [mostL] at hz; omega)
    · rw [tl_one, List.mem_singleton] at hc
      show c ∈ dig.take o.length
      rw [hc]
      exact (dig_mem (by omega)).mpr (by omega)
  · show if decide (isOrd (tl o)) = true then _ else _
    rw [if_neg (by rw [decide_eq_false ho]; decide)]
    refine ⟨by show 2 ≤ 16777216; decide, by show 2 ≤ 16777216; decide, bo_bad ho h1 h3 (same_ref ?_)⟩
    show if (!true) = true then _ else _
    rw [if_neg (by decide)]
    refine rb_bad ho h1 h2 h3 (same_ref ?_)
    show if (!true) = true then _ else _
    rw [if_neg (by decide)]
    exact rb_bad ho h1 (by rw [len_tl, tl_nil]; decide) h3 (same_ref hq)
abbrev s__law_joint : Stmt := top 53
theorem sc__law_joint : FnScope ["first", "second", "text", "joint", "middle", "sign"] ["first", "second", "text"] (defScope s__law_joint) := ⟨rfl, rfl, rfl, by decide +kernel, rfl, by decide +kernel, by decide +kernel⟩
def S__law_joint : DSp := fun ds Q E => ∃ (f g t : Str), ds = [.str f, .str g, .str t] ∧ isOrd (tl f) ∧ isOrd (tl g) ∧ f.length = g.length ∧ t.length ≤ 1000 ∧ (∀ z : Int, mostL[(tl f).length - 1]? = some z → okText t (f.length : Nat) z) ∧ Q (.bl true)
theorem len__law_joint {ds : List D} {Q : D → Prop} {E : Ex → Prop} (h : S__law_joint ds Q E) : ds.length = 3 := by obtain ⟨g, _, _, h, _⟩ := h; rw [h]; rfl
theorem ok__law_joint (T : Txt P K mg) (h__law_renamed_by : Has P w K mg base "_law_renamed_by" 6 false S__law_renamed_by) (h__law_same : Has P w K mg base "_law_same" 4 false S__law_same) {f : Addr} {fd : FuncData} (F : Fun K "_law_joint" "_law_joint" s__law_joint f fd) : FnOk P w K mg base (L2.CX P w) 7 f fd ["first", "second", "text"] (spD K mg false S__law_joint) := by
  refine fn_ok F sc__law_joint (fun ds Qd Ed h => len__law_joint h) (fun cdv Ar outer s H E R M ds Qd Ed hr hK hm h0 h => ?_)
  subst hK hm
  refine ⟨_, (gss_cons (gs_asg (i := 3) (ge_join ge_str (GF.e (gf_lc (own := [("sign", 5)]) (js := [5]) (by rfl) sc__law_joint.nd (gi_str (ge_var (pv 0))) (by show blkC ["first", "second", "text", "joint", "middle", "sign"] (defScope s__law_joint) _ _ = true; decide +kernel) (by decide) (fun B hB _ _ _ _ _ => gg_name (i := 5) sc__law_joint.nd rfl (by first | exact Or.inl rfl | exact Or.inr rfl)) (fun B hB _ _ _ _ _ => gts_nil) (fun B hB _ _ _ _ _ => (ge_ix (ge_var (pv 1)) (ge_bltT (b_int) (by rfl) T.int PyProof.Rows.boot_int (gl_cons (ge_var (pv 5)) gl_nil)) (hK := congrArg RC.K hB)))))) sc__law_joint.nd rfl (by first | exact Or.inl rfl | exact Or.inr rfl))
    (gss_cons (gs_asg (i := 4) (ge_call (Has.call h__law_renamed_by (hr.mono (by decide)) (takes_of rfl rfl rfl rfl)) (gl_cons (ge_var (pv 0)) (gl_cons (ge_var (pv 2)) gl_nil)) h0) sc__law_joint.nd rfl (by first | exact Or.inl rfl | exact Or.inr rfl))
    (gss_cons (gs_if (gt_c (cm_ne (room_units hr)) (ge_ix (ge_var (pv 4)) ge_int) ge_str) (gss_one (gs_ret ge_bl)) gss_nil)
    (gss_one (gs_ret (ge_call (Has.call h__law_same (hr.mono (by decide)) (takes_of rfl rfl rfl rfl)) (gl_cons (ge_call (Has.call h__law_renamed_by (hr.mono (by decide)) (takes_of rfl rfl rfl rfl)) (gl_cons (ge_var (pv 1)) (gl_cons (ge_ix (ge_var (pv 4)) ge_int) gl_nil)) h0) (gl_cons (ge_call (Has.call h__law_renamed_by (hr.mono (by decide)) (takes_of rfl rfl rfl rfl)) (gl_cons (ge_var (pv 3)) (gl_cons (ge_var (pv 2)) gl_nil)) h0) gl_nil)) h0)))))), ?_⟩
  obtain ⟨f', g, t, rfl, hf, hg, hfg, h2, hok, hq⟩ := h
  have hL : (LINE : Nat) = 16777216 := rfl
  have hlf := isOrd_len hf
  have hlg := isOrd_len hg
  have ef := len_tl f'
  have eg := len_tl g
  refine dlc_map (ds := sgnD f') (fun d => match d with
    | .str x => .str ⟨#[(tl g).getD ((tl x).headD 0 - 48) 0]⟩
    | d => d) (by exact fun _ h => h) (by rw [sgnD_eq, List.length_map]; show (List.map _ (tl f')).length ≤ _; rw [List.length_map]; omega) (fun d hd Q' h => ?_) ?_
  · rw [sgnD_eq] at hd
    obtain ⟨x, hx, rfl⟩ := List.mem_map.mp hd
    obtain ⟨c, hc, rfl⟩ := List.mem_map.mp hx
    obtain ⟨n1, n2⟩ := int_digit (hf.2.mem_iff.mp hc)
    have hk : c - 48 < (tl g).length := by omega
    refine ⟨c - 48 |>.cast, n1, by show 1 ≤ 640; decide, by omega, _, Nb.atI_nat hk, ?_⟩
    have e : (tl g)[c - 48] = (tl g).getD (c - 48) 0 := by rw [List.getD_eq_getElem?_getD, List.getElem?_eq_getElem hk]; rfl
    rw [e]
    exact h
  · refine ⟨(ren (tl g) (tl f')).map fun c => (⟨#[c]⟩ : Str), ?_, ?_, ?_⟩
    · rw [sgnD_eq]
      unfold signsS ren
      rw [List.map_map, List.map_map, List.map_map, List.map_map]
      rfl
    · rw [sum_ones]
      unfold ren
      have : ("" : Str).length = 0 := by rw [len_tl, tl_nil]; rfl
      rw [this, Nat.mul_zero, List.length_map]
      omega
    · rw [join_signs]
      have hm1 : ∃ m, mostL[(tl f').length - 1]? = some m := by
        have : (tl f').length = 1 ∨ (tl f').length = 2 ∨ (tl f').length = 3 ∨ (tl f').length = 4 ∨ (tl f').length = 5 := by omega
        rcases this with e | e | e | e | e <;> (rw [e]; exact ⟨_, rfl⟩)
      obtain ⟨m, hm⟩ := hm1
      have over : ∀ c ∈ tl t, c ∈ dig.take (tl f').length := by rw [← ef]; exact (hok m hm).2
      have lr : (⟨(ren (tl f') (tl t)).toArray⟩ : Str).length = t.length := by
        rw [len_tl, len_tl]
        show (ren (tl f') (tl t)).length = _
        unfold ren
        rw [List.length_map]
      have lj : (ren (tl g) (tl f')).length = (tl f').length := by unfold ren; rw [List.length_map]
      have hj := isOrd_ren hf hg (by omega)
      refine rb_good hf h2 hok ?_
      refine ⟨_, rfl, .inl rfl, ?_⟩
      show if (!D.eqv (.str "told") (.str "told")) = true then _ else _
      rw [if_neg (by rw [eqv_str, beq_self_eq_true]; decide)]
      refine ⟨_, rfl, rb_good (o := g) (t := ⟨(ren (tl f') (tl t)).toArray⟩) hg (by rw [lr]; exact h2) (fun z hz => ?_) (rb_good (o := ⟨(ren (tl g) (tl f')).toArray⟩) (t := t) hj h2 (fun z hz => ?_) (same_told ?_ hq))⟩
      · rw [← eg, ← hfg, ef] at hz
        refine ⟨by rw [lr]; exact (hok z hz).1, ?_⟩
        rw [← hfg, ef]
        simpa using ren_mem hf over
      · have hz2 : mostL[(ren (tl g) (tl f')).length - 1]? = some z := hz
        rw [lj] at hz2
        have h3 := hok z hz2
        refine ⟨h3.1, ?_⟩
        have e9 : (⟨(ren (tl g) (tl f')).toArray⟩ : Str).length = f'.length := by rw [len_tl, ef]; exact lj
        rw [e9]
        exact h3.2
      · show (⟨(ren (tl g) (ren (tl f') (tl t))).toArray⟩ : Str) = ⟨(ren (ren (tl g) (tl f')) (tl t)).toArray⟩
        rw [ren_ren hf over]
end
end K9
set_option maxRecDepth 100000
set_option maxHeartbeats 4000000
namespace K9
open PySem PySem.Spec PyProof.Rows L2 Nb TL
section
variable {P : Program} {w : World} {K : PySem.W.Frag} {mg : Str → Option Value} {base : Heap}
abbrev s__law_bad_order : Stmt := top 46
theorem sc__law_bad_order : FnScope ["store", "width", "text", "at", "other", "menu"] ["store"] (defScope s__law_bad_order) := ⟨rfl, rfl, rfl, by decide +kernel, rfl, by decide +kernel, by decide +kernel⟩
def S__law_bad_order : DSp := fun ds Q E => ds = [.sto] ∧ ∀ s : Str, s.length ≤ 8 → (∀ c ∈ tl s, c < 128) → Q (.str s)
theorem len__law_bad_order {ds : List D} {Q : D → Prop} {E : Ex → Prop} (h : S__law_bad_order ds Q E) : ds.length = 1 := by rw [h.1]; rfl
theorem ok__law_bad_order (T : Txt P K mg) (h__law_order : Has P w K mg base "_law_order" 4 false S__law_order) (h__law_take : Has P w K mg base "_law_take" 2 false S__law_take) {f : Addr} {fd : FuncData} (F : Fun K "_law_bad_order" "_law_bad_order" s__law_bad_order f fd) : FnOk P w K mg base (L2.CX P w) 5 f fd ["store"] (spD K mg false S__law_bad_order) := by
  refine fn_ok F sc__law_bad_order (fun ds Qd Ed h => len__law_bad_order h) (fun cdv Ar outer s H E R M ds Qd Ed hr hK hm h0 h => ?_)
  subst hK hm
  refine ⟨_, (gss_cons (gs_asg (i := 1) (ge_add ge_int (ge_call (Has.call h__law_take (hr.mono (by decide)) (takes_of rfl rfl rfl rfl)) (gl_cons (ge_var (pv 0)) (gl_cons ge_int gl_nil)) h0)) sc__law_bad_order.nd rfl (by first | exact Or.inl rfl | exact Or.inr rfl))
    (gss_cons (gs_asg (i := 2) (ge_call (Has.call h__law_order (hr.mono (by decide)) (takes_of rfl rfl rfl rfl)) (gl_cons (ge_var (pv 0)) (gl_cons (ge_var (pv 1)) gl_nil)) h0) sc__law_bad_order.nd rfl (by first | exact Or.inl rfl | exact Or.inr rfl))
    (gss_cons (gs_asg (i := 3) (ge_call (Has.call h__law_take (hr.mono (by decide)) (takes_of rfl rfl rfl rfl)) (gl_cons (ge_var (pv 0)) (gl_cons (ge_var (pv 1)) gl_nil)) h0) sc__law_bad_order.nd rfl (by first | exact Or.inl rfl | exact Or.inr rfl))
    (gss_cons (gs_asg (i := 4) (ge_ix (ge_var (pv 2)) (ge_mod (ge_bltT (b_int) (by rfl) T.int PyProof.Rows.boot_int (gl_cons (ge_add (ge_var (pv 3)) ge_int) gl_nil)) (ge_var (pv 1)))) sc__law_bad_order.nd rfl (by first | exact Or.inl rfl | exact Or.inr rfl))
    (gss_cons (gs_if (gt_c (cm_eq (room_units hr)) (ge_var (pv 1)) ge_int) (gss_one (gs_asg (i := 4) ge_str sc__law_bad_order.nd rfl (by first | exact Or.inl rfl | exact Or.inr rfl))) gss_nil)
    (gss_cons (gs_asg (i := 5) (ge_lst (gl_cons ge_str (gl_cons (ge_add (ge_var (pv 2)) (ge_ix (ge_var (pv 2)) (ge_var (pv 3)))) (gl_cons ge_str (gl_cons (ge_add (ge_add (ge_sl (ge_var (pv 2)) go_none (go_some (ge_var (pv 3)))) (ge_var (pv 4))) (ge_sl (ge_var (pv 2)) (go_some (ge_add (ge_var (pv 3)) ge_int)) go_none)) (gl_cons (ge_add (ge_add (ge_sl (ge_var (pv 2)) go_none (go_some (ge_var (pv 3)))) ge_str) (ge_sl (ge_var (pv 2)) (go_some (ge_add (ge_var (pv 3)) ge_int)) go_none)) gl_nil)))))) sc__law_bad_order.nd rfl (by first | exact Or.inl rfl | exact Or.inr rfl))
    (gss_cons (gs_asg (i := 5) (ge_add (ge_var (pv 5)) (ge_lst (gl_cons (ge_add (ge_add (ge_sl (ge_var (pv 2)) go_none (go_some (ge_var (pv 3)))) (ge_bltT (b_str) (by rfl) T.str PyProof.Rows.boot_str (gl_cons (ge_var (pv 1)) gl_nil))) (ge_sl (ge_var (pv 2)) (go_some (ge_add (ge_var (pv 3)) ge_int)) go_none)) (gl_cons (ge_add (ge_var (pv 2)) ge_str) (gl_cons (ge_add ge_str (ge_var (pv 2))) (gl_cons (ge_add (ge_var (pv 2)) (ge_bltT (b_str) (by rfl) T.str PyProof.Rows.boot_str (gl_cons (ge_add (ge_var (pv 1)) ge_int) gl_nil))) gl_nil)))))) sc__law_bad_order.nd rfl (by first | exact Or.inl rfl | exact Or.inr rfl))
    (gss_one (gs_ret (ge_ix (ge_var (pv 5)) (ge_call (Has.call h__law_take (hr.mono (by decide)) (takes_of rfl rfl rfl rfl)) (gl_cons (ge_var (pv 0)) (gl_cons (ge_blt (b_len) (by rfl) T.len PySem.boot_len (gl_cons (ge_var (pv 5)) gl_nil)) gl_nil)) h0))))))))))), ?_⟩
  obtain ⟨rfl, hq⟩ := h
  have hL : (LINE : Nat) = 16777216 := rfl
  have e0 : startD ["store", "width", "text", "at", "other", "menu"] [D.sto] = [.val .sto, .un, .un, .un, .un, .un] := rfl
  refine ⟨5, rfl, by decide, fun w0 w1 w2 => ?_⟩
  have hw : 1 ≤ 1 + w0 ∧ 1 + w0 ≤ 5 := by omega
  obtain ⟨v, ev⟩ : ∃ v, v = 1 + w0 := ⟨_, rfl⟩
  rw [← ev] at hw
  refine ⟨v, by rw [ev], hw.1, hw.2, fun o ho lo => ?_⟩
  refine ⟨v, by rw [ev], by omega, fun at' a1 a2 => ?_⟩
  have ha : at' < v := by omega
  have h128 := isOrd_128 ho
  have ea : ((at'.toNat : Nat) : Int) = at' := by omega
  have t1 : tl (cutS o none (some at')) = (tl o).take at'.toNat := by
    have := tl_take (z := o) (k := at'.toNat) (by omega)
    rw [ea] at this
    exact this
  have t2 : tl (cutS o (some (at' + 1)) none) = (tl o).drop (at'.toNat + 1) := by
    have := tl_drop (z := o) (k := at'.toNat + 1) (by omega)
    rw [show ((at'.toNat + 1 : Nat) : Int) = at' + 1 by omega] at this
    exact this
  have eo := len_tl o
  have l1 : (cutS o none (some at')).length = at'.toNat := by rw [len_tl, t1, List.length_take]; omega
  have l2 : (cutS o (some (at' + 1)) none).length = o.length - (at'.toNat + 1) := by rw [len_tl, t2, List.length_drop]; omega
  have s1 : ("1" : Str).length = 1 ∧ ("-" : Str).length = 1 ∧ (" " : Str).length = 1 ∧ ("0" : Str).length = 1 := ⟨by decide, by decide, by decide, by decide⟩
  obtain ⟨s1, s2, s3, s4⟩ := s1
  have dg : ∀ y : Int, 0 ≤ y → y < 10 → (Str.ofString (toString y)).length = 1 ∧ ∀ c ∈ tl (Str.ofString (toString y)), c < 128 := by
    intro y y1 y2
    have : y = 0 ∨ y = 1 ∨ y = 2 ∨ y = 3 ∨ y = 4 ∨ y = 5 ∨ y = 6 ∨ y = 7 ∨ y = 8 ∨ y = 9 := by omega
    rcases this with e | e | e | e | e | e | e | e | e | e <;> (subst e; exact ⟨by decide +kernel, by decide +kernel⟩)
  obtain ⟨d1, d2⟩ := dg v (by omega) (by omega)
  obtain ⟨d3, d4⟩ := dg (v + 1) (by omega) (by omega)
  have c1 : ∀ c ∈ tl (cutS o none (some at')), c < 128 := fun c hc => h128 c (List.mem_of_mem_take (by rw [t1] at hc; exact hc))
  have c2 : ∀ c ∈ tl (cutS o (some (at' + 1)) none), c < 128 := fun c hc => h128 c (List.mem_of_mem_drop (by rw [t2] at hc; exact hc))
  have app : ∀ {x y : Str}, (∀ c ∈ tl x, c < 128) → (∀ c ∈ tl y, c < 128) → ∀ c ∈ tl (x ++ y), c < 128 := fun {x y} hx hy c hc => by
    rw [tl_append, List.mem_append] at hc
    exact hc.elim (hx c) (hy c)
  have g1 : ∀ c ∈ tl ("1" : Str), c < 128 := by decide
  have g2 : ∀ c ∈ tl ("-" : Str), c < 128 := by decide
  have g3 : ∀ c ∈ tl (" " : Str), c < 128 := by decide
  have g4 : ∀ c ∈ tl ("0" : Str), c < 128 := by decide
  obtain ⟨ca, ca1, ca2, _⟩ := atI_int (l := tl o) (i := at') a1 (by omega)
  have gca : ∀ c ∈ tl (⟨#[ca]⟩ : Str), c < 128 := fun c hc => by rw [tl_one, List.mem_singleton] at hc; rw [hc]; exact h128 ca ca2
  -- the menu, whatever its other sign
  have menu : ∀ other : Str, other.length = 1 → (∀ c ∈ tl other, c < 128) → ∀ z : Int, 0 ≤ z → z < 9 ∨ z = 0 → ∃ d, L2.atI ([D.str "", .str (o ++ ⟨#[ca]⟩), .str "012345", .str (cutS o none (some at') ++ other ++ cutS o (some (at' + 1)) none), .str (cutS o none (some at') ++ "-" ++ cutS o (some (at' + 1)) none)] ++ [.str (cutS o none (some at') ++ Str.ofString (toString v) ++ cutS o (some (at' + 1)) none), .str (o ++ " "), .str ("0" ++ o), .str (o ++ Str.ofString (toString (v + 1)))]) z = some d ∧ Qd d := by
    intro other o1 o2 z z1 z2
    have hz : z = 0 ∨ z = 1 ∨ z = 2 ∨ z = 3 ∨ z = 4 ∨ z = 5 ∨ z = 6 ∨ z = 7 ∨ z = 8 := by omega
    rcases hz with e | e | e | e | e | e | e | e | e <;> subst e
    · exact ⟨_, rfl, hq _ (by decide) (by decide)⟩
    · exact ⟨_, rfl, hq _ (by rw [len_app, len_one]; omega) (app h128 gca)⟩
    · exact ⟨_, rfl, hq _ (by decide) (by decide)⟩
    · exact ⟨_, rfl, hq _ (by rw [len_app, len_app, l1, l2, o1]; omega) (app (app c1 o2) c2)⟩
    · exact ⟨_, rfl, hq _ (by rw [len_app, len_app, l1, l2, s2]; omega) (app (app c1 g2) c2)⟩
    · exact ⟨_, rfl, hq _ (by rw [len_app, len_app, l1, l2, d1]; omega) (app (app c1 d2) c2)⟩
    · exact ⟨_, rfl, hq _ (by rw [len_app, s3]; omega) (app h128 g3)⟩
    · exact ⟨_, rfl, hq _ (by rw [len_app, s4]; omega) (app g4 h128)⟩
    · exact ⟨_, rfl, hq _ (by rw [len_app, d3]; omega) (app h128 d4)⟩
  obtain ⟨cb, cb1, cb2, _⟩ := atI_int (l := tl o) (i := (at' + 1) % v) (Int.emod_nonneg _ (by omega)) (by have := Int.emod_lt_of_pos (at' + 1) (show 0 < v by omega); omega)
  have gcb : ∀ c ∈ tl (⟨#[cb]⟩ : Str), c < 128 := fun c hc => by rw [tl_one, List.mem_singleton] at hc; rw [hc]; exact h128 cb cb2
  simp only [S__law_take, ↓reduceIte, disX, dxf, dcallQ, dcallQF, eqv_strs, sgnD_eq, draise1, fAll, diR1, diR2, diL, diT, diS, dname, dapp, dappPop, dlenO, dixO, dretO, dSl, donone, dosome, dyes, dfv, dm1, fJoin, fIndex, fListF, fSortT, dRev, dIn, dNotIn, difE, fMax, fMin, fStr, fList, dseq, dif, dret, dretN, dretF, dretO, dasg, dasgO, dexpr, dnext, dop, dopF, dk, dvar, dcons, dnil, dlst, dflst, dtup, dIx, dI0, dII, dB0, dtest, dtruth, dand, dor, dnot, dcb, dcbF, dcall, dcallF, dixS, dsetS, dinS, difS, fLen, fInt, fAbs, endD, e0, scD, SOK, dEq, dNe, eqv_int, eqv_str, eqv_bl, beq_iff_eq, decide_eq_true_eq, Bool.not_eq_true, Bool.not_eq_true', true_and, and_true, and_self, false_and, and_false, reduceCtorEq, true_or, or_true, true_implies, if_true, if_false, Bool.false_eq_true, not_false_eq_true, dAdd, dMul, dAddF, List.getElem?_cons_zero, List.getElem?_cons_succ, List.set_cons_zero, List.set_cons_succ]
  rw [← ev]
  refine ⟨show 0 < v by omega, by omega, cb, cb1, ?_⟩
  have fin : ∀ other : Str, other.length = 1 → (∀ c ∈ tl other, c < 128) → True := fun _ _ _ => trivial
  split
  · refine ⟨by omega, ca, ca1, ?_⟩
    simp only [len_app, len_one, l1, l2, s1, s2, s3, s4, d1, d3, List.length_cons, List.length_nil]
    refine ⟨by omega, by omega, by omega, by omega, by omega, by omega, by omega, by omega, by omega, by omega, by omega, log_small (by omega) (by omega), by omega, by omega, by omega, by omega, by omega, log_small (by omega) (by omega), by omega, by omega, by omega, 9, rfl, by decide, fun z z1 z2 => menu "1" s1 g1 z z1 z2⟩
  · refine ⟨by omega, ca, ca1, ?_⟩
    simp only [len_app, len_one, l1, l2, s1, s2, s3, s4, d1, d3, List.length_cons, List.length_nil]
    refine ⟨by omega, by omega, by omega, by omega, by omega, by omega, by omega, by omega, by omega, by omega, by omega, log_small (by omega) (by omega), by omega, by omega, by omega, by omega, by omega, log_small (by omega) (by omega), by omega, by omega, by omega, 9, rfl, by decide, fun z z1 z2 => menu ⟨#[cb]⟩ rfl gcb z z1 z2⟩
end
end K9
set_option maxRecDepth 100000
set_option maxHeartbeats 4000000
namespace K9
open PySem PySem.Spec PyProof.Rows L2 Nb TL
section
variable {P : Program} {w : World} {K : PySem.W.Frag} {mg : Str → Option Value} {base : Heap}
abbrev s__law_bad_text : Stmt := top 43
theorem sc__law_bad_text : FnScope ["store", "signs", "low", "high", "kind", "size", "text", "at", "menu", "sign"] ["store", "signs", "low", "high"] (defScope s__law_bad_text) := ⟨rfl, rfl, rfl, by decide +kernel, rfl, by decide +kernel, by decide +kernel⟩
def S__law_bad_text : DSp := fun ds Q E => ∃ v h : Int, ds = [.sto, .str (outs v.toNat), .int 0, .int h] ∧ 1 ≤ v ∧ v ≤ 5 ∧ 3 ≤ h ∧ h ≤ 8 ∧ ∀ s : Str, (s.length : Int) ≤ h + 2 → (h < (s.length : Int) ∨ ∃ c ∈ tl s, c ∉ dig.take v.toNat) → Q (.str s)
theorem len__law_bad_text {ds : List D} {Q : D → Prop} {E : Ex → Prop} (h : S__law_bad_text ds Q E) : ds.length = 4 := by obtain ⟨_, _, h, _⟩ := h; rw [h]; rfl
theorem ok__law_bad_text (T : Txt P K mg) (h__law_edge : Has P w K mg base "_law_edge" 3 false S__law_edge) (h__law_free : Has P w K mg base "_law_free" 3 false S__law_free) (h__law_take : Has P w K mg base "_law_take" 2 false S__law_take) {f : Addr} {fd : FuncData} (F : Fun K "_law_bad_text" "_law_bad_text" s__law_bad_text f fd) : FnOk P w K mg base (L2.CX P w) 4 f fd ["store", "signs", "low", "high"] (spD K mg false S__law_bad_text) := by
  refine fn_ok F sc__law_bad_text (fun ds Qd Ed h => len__law_bad_text h) (fun cdv Ar outer s H E R M ds Qd Ed hr hK hm h0 h => ?_)
  subst hK hm
  refine ⟨_, (gss_cons (gs_asg (i := 4) (ge_call (Has.call h__law_take (hr.mono (by decide)) (takes_of rfl rfl rfl rfl)) (gl_cons (ge_var (pv 0)) (gl_cons ge_int gl_nil)) h0) sc__law_bad_text.nd rfl (by first | exact Or.inl rfl | exact Or.inr rfl))
    (gss_cons (gs_if (GW.t (gw_or (gt_c (cm_eq (room_units hr)) (ge_var (pv 4)) ge_int) (gw_or1 (gt_c cm_lt (ge_var (pv 3)) ge_int)))) (gss_one (gs_ret (ge_call (Has.call h__law_free (hr.mono (by decide)) (takes_of rfl rfl rfl rfl)) (gl_cons (ge_var (pv 0)) (gl_cons (ge_var (pv 1)) (gl_cons (ge_add (ge_add (ge_var (pv 3)) ge_int) (ge_call (Has.call h__law_take (hr.mono (by decide)) (takes_of rfl rfl rfl rfl)) (gl_cons (ge_var (pv 0)) (gl_cons ge_int gl_nil)) h0)) gl_nil))) h0))) gss_nil)
    (gss_cons (gs_if (GW.t (gw_and (gt_c (cm_eq (room_units hr)) (ge_var (pv 4)) ge_int) (gw_and1 (gt_c cm_gt (ge_var (pv 2)) ge_int)))) (gss_one (gs_ret (ge_call (Has.call h__law_free (hr.mono (by decide)) (takes_of rfl rfl rfl rfl)) (gl_cons (ge_var (pv 0)) (gl_cons (ge_var (pv 1)) (gl_cons (ge_call (Has.call h__law_edge (hr.mono (by decide)) (takes_of rfl rfl rfl rfl)) (gl_cons (ge_var (pv 0)) (gl_cons (ge_var (pv 2)) gl_nil)) h0) gl_nil))) h0))) gss_nil)
    (gss_cons (gs_asg (i := 5) (ge_add (ge_blt (b_max (by rfl)) (by rfl) T.max PyProof.Rows.boot_max (gl_cons ge_int (gl_cons (ge_var (pv 2)) gl_nil))) (ge_call (Has.call h__law_take (hr.mono (by decide)) (takes_of rfl rfl rfl rfl)) (gl_cons (ge_var (pv 0)) (gl_cons (ge_subI (ge_add ge_int (ge_blt (b_max (by rfl)) (by rfl) T.max PyProof.Rows.boot_max (gl_cons ge_int (gl_cons (ge_var (pv 3)) gl_nil)))) (ge_blt (b_max (by rfl)) (by rfl) T.max PyProof.Rows.boot_max (gl_cons ge_int (gl_cons (ge_var (pv 2)) gl_nil)))) gl_nil)) h0)) sc__law_bad_text.nd rfl (by first | exact Or.inl rfl | exact Or.inr rfl))
    (gss_cons (gs_asg (i := 6) (ge_call (Has.call h__law_free (hr.mono (by decide)) (takes_of rfl rfl rfl rfl)) (gl_cons (ge_var (pv 0)) (gl_cons (ge_var (pv 1)) (gl_cons (ge_var (pv 5)) gl_nil))) h0) sc__law_bad_text.nd rfl (by first | exact Or.inl rfl | exact Or.inr rfl))
    (gss_cons (gs_asg (i := 7) (ge_call (Has.call h__law_edge (hr.mono (by decide)) (takes_of rfl rfl rfl rfl)) (gl_cons (ge_var (pv 0)) (gl_cons (ge_var (pv 5)) gl_nil)) h0) sc__law_bad_text.nd rfl (by first | exact Or.inl rfl | exact Or.inr rfl))
    (gss_cons (gs_asg (i := 8) (ge_lst (gl_cons ge_str (gl_cons ge_str (gl_cons ge_str (gl_cons ge_str (gl_cons ge_str (gl_cons ge_str (gl_cons ge_str (gl_cons ge_str (gl_cons ge_str (gl_cons ge_str (gl_cons ge_str (gl_cons ge_str (gl_cons ge_str (gl_cons ge_str (gl_cons ge_str gl_nil)))))))))))))))) sc__law_bad_text.nd rfl (by first | exact Or.inl rfl | exact Or.inr rfl))
    (gss_cons (gs_asg (i := 9) ge_str sc__law_bad_text.nd rfl (by first | exact Or.inl rfl | exact Or.inr rfl))
    (gss_cons (gs_if (gt_c (cm_eq (room_units hr)) (ge_call (Has.call h__law_take (hr.mono (by decide)) (takes_of rfl rfl rfl rfl)) (gl_cons (ge_var (pv 0)) (gl_cons ge_int gl_nil)) h0) ge_int) (gss_one (gs_asg (i := 9) (ge_ix (ge_lst (gl_cons ge_str (gl_cons ge_str (gl_cons ge_str (gl_cons ge_str (gl_cons ge_str (gl_cons ge_str gl_nil))))))) (ge_blt (b_len) (by rfl) T.len PySem.boot_len (gl_cons (ge_var (pv 1)) gl_nil))) sc__law_bad_text.nd rfl (by first | exact Or.inl rfl | exact Or.inr rfl))) (gss_one (gs_asg (i := 9) (ge_ix (ge_var (pv 8)) (ge_call (Has.call h__law_take (hr.mono (by decide)) (takes_of rfl rfl rfl rfl)) (gl_cons (ge_var (pv 0)) (gl_cons (ge_blt (b_len) (by rfl) T.len PySem.boot_len (gl_cons (ge_var (pv 8)) gl_nil)) gl_nil)) h0)) sc__law_bad_text.nd rfl (by first | exact Or.inl rfl | exact Or.inr rfl))))
    (gss_cons (gs_if (gt_c cm_in (ge_var (pv 9)) (ge_var (pv 1))) (gss_one (gs_asg (i := 9) ge_str sc__law_bad_text.nd rfl (by first | exact Or.inl rfl | exact Or.inr rfl))) gss_nil)
    (gss_one (gs_ret (ge_add (ge_add (ge_sl (ge_var (pv 6)) go_none (go_some (ge_var (pv 7)))) (ge_var (pv 9))) (ge_sl (ge_var (pv 6)) (go_some (ge_add (ge_var (pv 7)) ge_int)) go_none)))))))))))))), ?_⟩
  obtain ⟨v, h, rfl, h1, h2, h3, h4, hq⟩ := h
  have hL : (LINE : Nat) = 16777216 := rfl
  have lo : (outs v.toNat).length = v.toNat := by
    have hv : v = 1 ∨ v = 2 ∨ v = 3 ∨ v = 4 ∨ v = 5 := by omega
    rcases hv with e | e | e | e | e <;> (subst e; rfl)
  have e0 : startD ["store", "signs", "low", "high", "kind", "size", "text", "at", "menu", "sign"] [D.sto, .str (outs v.toNat), .int 0, .int h] = [.val .sto, .val (.str (outs v.toNat)), .val (.int 0), .val (.int h), .un, .un, .un, .un, .un, .un] := rfl
  refine ⟨4, rfl, by decide, fun kind k1 k2 => ?_⟩
  by_cases c0 : kind = 0
  · subst c0
    refine ⟨.inl rfl, ?_⟩
    refine ⟨2, rfl, by decide, fun z z1 z2 => ?_⟩
    exact ⟨_, _, rfl, by omega, by omega, by omega, fun t ht hc => hq t (by omega) (.inl (by omega))⟩
  · have k0 : (kind == 0) = false := by simpa using c0
    have hv : v = 1 ∨ v = 2 ∨ v = 3 ∨ v = 4 ∨ v = 5 := by omega
    have sd : ("-" : Str) = ⟨#[45]⟩ := by decide +kernel
    have atd : ∃ cc : Nat, L2.atI [D.str "0", .str "1", .str "2", .str "3", .str "4", .str "5"] ((outs v.toNat).length : Nat) = some (.str ⟨#[cc]⟩) := by
      have s1 : ("1" : Str) = ⟨#[49]⟩ ∧ ("2" : Str) = ⟨#[50]⟩ ∧ ("3" : Str) = ⟨#[51]⟩ ∧ ("4" : Str) = ⟨#[52]⟩ ∧ ("5" : Str) = ⟨#[53]⟩ := by decide +kernel
      rw [s1.1, s1.2.1, s1.2.2.1, s1.2.2.2.1, s1.2.2.2.2]
      rcases hv with e | e | e | e | e <;> subst e
      · exact ⟨49, rfl⟩
      · exact ⟨50, rfl⟩
      · exact ⟨51, rfl⟩
      · exact ⟨52, rfl⟩
      · exact ⟨53, rfl⟩
    have atm : ∀ z : Int, 0 ≤ z → z < 15 ∨ z = 0 → ∃ cc : Nat, L2.atI [D.str "0", .str "1", .str "2", .str "3", .str "4", .str "5", .str "9", .str "a", .str "b", .str "c", .str "d", .str "A", .str " ", .str "-", .str "~"] z = some (.str ⟨#[cc]⟩) := by
      intro z z1 z2
      have e : ([D.str "0", .str "1", .str "2", .str "3", .str "4", .str "5", .str "9", .str "a", .str "b", .str "c", .str "d", .str "A", .str " ", .str "-", .str "~"] : List D) = [48, 49, 50, 51, 52, 53, 57, 97, 98, 99, 100, 65, 32, 45, 126].map fun c => D.str ⟨#[c]⟩ := by
        have q : ([("0" : Str), "1", "2", "3", "4", "5", "9", "a", "b", "c", "d", "A", " ", "-", "~"] : List Str) = [48, 49, 50, 51, 52, 53, 57, 97, 98, 99, 100, 65, 32, 45, 126].map fun c => ⟨#[c]⟩ := by decide +kernel
        have q2 := congrArg (List.map D.str) q
        rw [List.map_map] at q2
        exact q2
      rw [e]
      obtain ⟨d, d1, d2, _⟩ := atI_int (l := [48, 49, 50, 51, 52, 53, 57, 97, 98, 99, 100, 65, 32, 45, 126].map fun c => D.str ⟨#[c]⟩) (i := z) z1 (by simp; omega)
      obtain ⟨c, _, rfl⟩ := List.mem_map.mp d2
      exact ⟨c, d1⟩
    simp only [S__law_take, S__law_edge, k0, ↓reduceIte, disX, dxf, dcallQ, dcallQF, eqv_strs, sgnD_eq, draise1, fAll, diR1, diR2, diL, diT, diS, dname, dapp, dappPop, dlenO, dixO, dretO, dSl, donone, dosome, dyes, dfv, dm1, fJoin, fIndex, fListF, fSortT, dRev, dIn, dNotIn, difE, fMax, fMin, fStr, fList, dseq, dif, dret, dretN, dretF, dretO, dasg, dasgO, dexpr, dnext, dop, dopF, dk, dvar, dcons, dnil, dlst, dflst, dtup, dIx, dI0, dII, dB0, dtest, dtruth, dand, dor, dnot, dcb, dcbF, dcall, dcallF, dixS, dsetS, dinS, difS, fLen, fInt, fAbs, endD, e0, scD, SOK, dEq, dNe, eqv_int, eqv_str, eqv_bl, beq_iff_eq, decide_eq_true_eq, Bool.not_eq_true, Bool.not_eq_true', true_and, and_true, and_self, false_and, and_false, reduceCtorEq, true_or, or_true, true_implies, if_true, if_false, Bool.false_eq_true, not_false_eq_true, dAdd, dMul, dAddF, List.getElem?_cons_zero, List.getElem?_cons_succ, List.set_cons_zero, List.set_cons_succ]
    rw [if_neg (by omega)]
    have e1 : ∀ (A B : Prop), (if kind = 1 then (if (0 : Int) < 0 then A else B) else B) = B := by
      intro A B
      split
      · rw [if_neg (by decide)]
      · rfl
    rw [e1]
    rw [if_pos (by omega : h > 1), if_neg (by decide : ¬ (0 : Int) > 1)]
    refine ⟨_, rfl, by omega, fun y y1 y2 => ?_⟩
    refine ⟨_, _, rfl, by omega, by omega, by omega, fun t ht hc => ?_⟩
    refine ⟨_, rfl, by omega, fun a' a1 a2 => ⟨by show 15 ≤ LINE; omega, 2, rfl, by decide, fun k k1 k2 => ?_⟩⟩
    have ea : ((a'.toNat : Nat) : Int) = a' := by omega
    have et := len_tl t
    have t1 : tl (cutS t none (some a')) = (tl t).take a'.toNat := by
      have := tl_take (z := t) (k := a'.toNat) (by omega)
      rw [ea] at this
      exact this
    have t2 : tl (cutS t (some (a' + 1)) none) = (tl t).drop (a'.toNat + 1) := by
      have := tl_drop (z := t) (k := a'.toNat + 1) (by omega)
      rw [show ((a'.toNat + 1 : Nat) : Int) = a' + 1 by omega] at this
      exact this
    have l1 : (cutS t none (some a')).length = a'.toNat := by rw [len_tl, t1, List.length_take]; omega
    have l2 : (cutS t (some (a' + 1)) none).length = t.length - (a'.toNat + 1) := by rw [len_tl, t2, List.length_drop]; omega
    have fin : ∀ d : Nat, d ∉ dig.take v.toNat → t.length ≤ LINE ∧ (cutS t none (some a')).length + (⟨#[d]⟩ : Str).length ≤ LINE ∧ t.length ≤ LINE ∧ (cutS t none (some a') ++ ⟨#[d]⟩).length + (cutS t (some (a' + 1)) none).length ≤ LINE ∧ Qd (.str (cutS t none (some a') ++ ⟨#[d]⟩ ++ cutS t (some (a' + 1)) none)) := by
      intro d hd
      refine ⟨by omega, by rw [l1, len_one]; omega, by omega, by rw [len_app, l1, l2, len_one]; omega, hq _ (by rw [len_app, len_app, l1, l2, len_one]; omega) (.inr ⟨d, ?_, hd⟩)⟩
      rw [tl_append, tl_append, tl_one]
      simp
    have nod : 45 ∉ dig.take v.toNat := fun z => by
      have : (45 : Nat) ∈ dig := List.mem_of_mem_take z
      exact absurd this (by decide)
    split
    · refine ⟨by show 6 ≤ LINE; omega, by omega, ?_⟩
      obtain ⟨cc, hcc⟩ := atd
      refine ⟨_, hcc, ?_⟩
      show if hasS ⟨#[cc]⟩ (outs v.toNat) = true then _ else _
      rw [hasS_one, outs_tl]
      split
      · rw [sd]
        exact fin 45 nod
      · rename_i q
        exact fin cc fun z => q (decide_eq_true z)
    · refine ⟨15, rfl, by decide, fun z z1 z2 => ?_⟩
      obtain ⟨cc, hcc⟩ := atm z z1 z2
      refine ⟨_, hcc, ?_⟩
      show if hasS ⟨#[cc]⟩ (outs v.toNat) = true then _ else _
      rw [hasS_one, outs_tl]
      split
      · rw [sd]
        exact fin 45 nod
      · rename_i q
        exact fin cc fun z => q (decide_eq_true z)
end
end K9
set_option maxRecDepth 100000
set_option maxHeartbeats 4000000
namespace K9
open PySem PySem.Spec PyProof.Rows L2 Nb TL
section
variable {P : Program} {w : World} {K : PySem.W.Frag} {mg : Str → Option Value} {base : Heap}
abbrev s__law_store : Stmt := top 33
theorem sc__law_store : FnScope ["script", "cell"] ["script"] (defScope s__law_store) := ⟨rfl, rfl, rfl, by decide +kernel, rfl, by decide +kernel, by decide +kernel⟩
theorem ok_store (T : Txt P K mg) {f : Addr} {fd : FuncData} (F : Fun K "_law_store" "_law_store" s__law_store f fd) : FnOk P w K mg base (L2.CX P w) 1 f fd ["script"] (spStore K) := by
  refine F.okX sc__law_store (fun vs H Q E h => by obtain ⟨a, ns, rfl, _⟩ := h; rfl) fun cdv Ar outer s H vs Q E hr ⟨a, ns, e, hs, hl, q⟩ => ?_
  subst e
  refine ⟨_, pss_one (ps_ret (by exact pe_op op_cat (by exact pe_lst (by exact pa_cons pe_int (pa_cons pe_int (pa_cons (by exact pe_op op_add pe_int (by exact pe_callB call_len_seq (by rfl) T.len PySem.boot_len (by exact pa_cons (pv 0) pa_nil))) (pa_cons pe_int (pa_cons pe_int pa_nil)))))) (by exact pe_lc (own := [("cell", 1)]) (by rfl) sc__law_store.nd (pi_list (pv 0)) (blkOk_by (by show blkC ["script", "cell"] (defScope s__law_store) _ _ = true; decide +kernel)) (fun _ _ _ _ _ => pg_name (i := 1) sc__law_store.nd rfl (by first | exact Or.inl rfl | exact Or.inr rfl)) (fun _ _ _ _ _ => pts_nil) (fun _ _ _ _ _ => by exact pe_callTy call_int1 (by rfl) T.int PyProof.Rows.boot_int (by exact pa_cons (pv 1) pa_nil))))), ?_⟩
  have hL : sizeLine = 16777216 := by rw [line_is]
  refine ⟨.ref a, rfl, a, ns.map V.int, rfl, .inl hs, 1, _, rfl, rfl, by show 5 ≤ sizeLine; omega, fun p hp => ?_⟩
  have hs1 : SqL K (upd H p (.lst [V.int 5, .int 0, .int (1 + (((ns.map V.int).length : Nat) : Int)), .int 0, .int 0])) a (ns.map V.int) := Nb.SqL.up hs hp
  have hp1 : (upd H p (.lst [V.int 5, .int 0, .int (1 + (((ns.map V.int).length : Nat) : Int)), .int 0, .int 0])) p = some (.lst [V.int 5, .int 0, .int (1 + (((ns.map V.int).length : Nat) : Int)), .int 0, .int 0]) := upd_same
  generalize upd H p (.lst [V.int 5, .int 0, .int (1 + (((ns.map V.int).length : Nat) : Int)), .int 0, .int 0]) = H1 at hs1 hp1 ⊢
  refine ⟨.ref a, rfl, a, rfl, ⟨_, hs1⟩, fun D0 hD => ?_⟩
  have hs2 : ∀ ys, SqL K (upd H1 D0 (.lst ys)) a (ns.map V.int) := fun ys => Nb.SqL.up hs1 hD
  refine ⟨fun i m H' => m = ns.length - i ∧ i ≤ ns.length ∧ H' = upd H1 D0 (.lst ((ns.take i).map V.int)), ⟨ns.length, rfl, Nat.zero_le _, rfl⟩, fun i m H' ⟨hm, hi, e⟩ => ?_⟩
  by_cases c : i < ns.length
  · have g : (ns.map V.int)[i]? = some (.int ns[i]) := by rw [List.getElem?_map, List.getElem?_eq_getElem c]; rfl
    refine .inr ⟨⟨_, .int ns[i], by rw [e]; exact hs2 _, g⟩, fun H'' => H'' = upd H1 D0 (.lst ((ns.take (i + 1)).map V.int)), fun H'' h => ⟨ns.length - (i + 1), by omega, rfl, by omega, h⟩, fun x H2 y => ?_⟩
    obtain ⟨e2, y⟩ := y
    subst e2
    have ex := y _ (by rw [e]; exact hs2 _)
    rw [g] at ex
    cases ex
    refine ⟨rfl, .int ns[i], rfl, .inl ⟨_, rfl, (ns.take i).map V.int, by rw [e]; exact upd_same, by rw [List.length_map, List.length_take]; omega, ?_⟩⟩
    rw [e, upd_upd, List.take_add_one, List.getElem?_eq_getElem c, List.map_append]
    rfl
  · have ei : i = ns.length := by omega
    subst ei
    refine .inl ⟨⟨_, by rw [e]; exact hs2 _, by rw [List.length_map]; exact Nat.le_refl _⟩, ?_⟩
    rw [List.take_length] at e
    have ne : p ≠ D0 := fun z => by rw [← z, hp1] at hD; cases hD
    refine ⟨p, D0, _, ns.map V.int, rfl, rfl, by rw [e, upd_ne ne]; exact hp1, by rw [e]; exact upd_same, by simp; omega, fun p' hp' => ?_⟩
    refine q _ p' ([5, 0, 1 + ((ns.length : Nat) : Int), 0, 0] ++ ns) (by rw [List.map_append, List.length_map]; exact upd_same) ⟨⟨by simp, by simp; omega⟩, fun k z e => ?_⟩
    match k, e with
    | 0, e => simp at e; subst e; exact (by decide : (5 : Int) ≤ 5)
    | 1, e => simp at e; subst e; exact (by decide : (0 : Int) ≤ 0)
    | 2, e => simp at e; subst e; exact ⟨by omega, by omega⟩
    | k + 3, e => exact True.intro
end
end K9
set_option maxRecDepth 100000
set_option maxHeartbeats 4000000
namespace K9
open PySem PySem.Spec PyProof.Rows L2 Nb TL
section
variable {P : Program} {w : World} {K : PySem.W.Frag} {mg : Str → Option Value} {base : Heap}
abbrev s_law : Stmt := top 54
theorem sc_law : FnScope ["script", "store", "k", "width", "first", "second", "most", "text", "free", "bad", "j", "near", "signs"] ["script"] (defScope s_law) := ⟨rfl, rfl, rfl, by decide +kernel, rfl, by decide +kernel, by decide +kernel⟩
theorem rb_text {o t : Str} {Q : D → Prop} {E : Ex → Prop} (ho : isOrd (tl o)) (h1 : t.length ≤ 1000) (hb : ∀ z : Int, mostL[(tl o).length - 1]? = some z → ¬ okText t (o.length : Nat) z) (hq : Q (.tup [.str "refused", .tup [.str "BadRow", .str t]])) : S__law_renamed_by [.str o, .str t] Q E := by
  unfold S__law_renamed_by
  exact ⟨o, t, rfl, by have := isOrd_len ho; rw [len_tl]; omega, h1, isOrd_128 ho, fun hn => absurd ho hn, fun z hz _ => ⟨fun _ => hq, fun hg => absurd hg (hb z hz)⟩⟩
theorem ok_law (T : Txt P K mg) (h__law_bad_order : Has P w K mg base "_law_bad_order" 5 false S__law_bad_order) (h__law_bad_text : Has P w K mg base "_law_bad_text" 4 false S__law_bad_text) (h__law_edge : Has P w K mg base "_law_edge" 3 false S__law_edge) (h__law_free : Has P w K mg base "_law_free" 3 false S__law_free) (h__law_joint : Has P w K mg base "_law_joint" 7 false S__law_joint) (h__law_most : Has P w K mg base "_law_most" 1 false S__law_most) (h__law_order : Has P w K mg base "_law_order" 4 false S__law_order) (h__law_order_judged : Has P w K mg base "_law_order_judged" 8 false S__law_order_judged) (h__law_renamed_by : Has P w K mg base "_law_renamed_by" 6 false S__law_renamed_by) (h__law_row : Has P w K mg base "_law_row" 4 false S__law_row) (h__law_same : Has P w K mg base "_law_same" 4 false S__law_same) (h__law_take : Has P w K mg base "_law_take" 2 false S__law_take) (h__law_undone : Has P w K mg base "_law_undone" 7 false S__law_undone) {fS : Addr} {fdS : FuncData} (FS : FnOk P w K mg base (L2.CX P w) 1 fS fdS ["script"] (spStore K)) (mS : mg "_law_store" = some (.ref fS)) (kS : PySem.W.keepIn K (.ref fS) = true) (bS : Binds K fdS ["script"] []) {f : Addr} {fd : FuncData} (F : Fun K "law" "law" s_law f fd) : FnOk P w K mg base (L2.CX P w) 11 f fd ["script"] (spLaw K) := by
  refine F.okX sc_law (fun vs H Q E h => by obtain ⟨a, ns, rfl, _⟩ := h; rfl) fun cdv Ar outer s H vs Q E hr ⟨a, ns, e, hs, hl, q⟩ => ?_
  subst e
  have h0 : (none : Option (Addr × Addr × Option Addr)) = none := rfl
  refine ⟨_, pss_cons (ps_set (i := 1) sc_law.nd rfl (by first | exact Or.inl rfl | exact Or.inr rfl) (by exact pe_callS FS (hr.mono (by decide)) (by rfl) mS kS bS (fun σ => passAt (W := fun cls d _ H => E cls d H) (takes_of rfl rfl rfl rfl) σ) (by exact pa_cons (pv 0) pa_nil))) (rest_act (W := fun cls d _ H => E cls d H) (K := K) (mg := mg) (fun B hKB hmB hxB hfB => (gss_cons (gs_for (passes_of rfl) (by rfl) (gi_rng1 (by rfl) T.range (gl_cons (ge_add ge_int (ge_call (Has.call h__law_take (hr.mono (by decide)) (takes_of rfl rfl rfl rfl)) (gl_cons (ge_var (pv 1)) (gl_cons ge_int gl_nil)) (hxB.trans h0) (hK := hKB) (hm := hmB)) (hK := hKB)) gl_nil)) (gg_name (i := 2) sc_law.nd rfl (by first | exact Or.inl rfl | exact Or.inr rfl)) (gss_cons (gs_asg (i := 3) (ge_add ge_int (ge_call (Has.call h__law_take (hr.mono (by decide)) (takes_of rfl rfl rfl rfl)) (gl_cons (ge_var (pv 1)) (gl_cons ge_int gl_nil)) (hxB.trans h0) (hK := hKB) (hm := hmB)) (hK := hKB)) sc_law.nd rfl (by first | exact Or.inl rfl | exact Or.inr rfl))
    (gss_cons (gs_asg (i := 4) (ge_call (Has.call h__law_order (hr.mono (by decide)) (takes_of rfl rfl rfl rfl)) (gl_cons (ge_var (pv 1)) (gl_cons (ge_var (pv 3)) gl_nil)) (hxB.trans h0) (hK := hKB) (hm := hmB)) sc_law.nd rfl (by first | exact Or.inl rfl | exact Or.inr rfl))
    (gss_cons (gs_asg (i := 5) (ge_call (Has.call h__law_order (hr.mono (by decide)) (takes_of rfl rfl rfl rfl)) (gl_cons (ge_var (pv 1)) (gl_cons (ge_var (pv 3)) gl_nil)) (hxB.trans h0) (hK := hKB) (hm := hmB)) sc_law.nd rfl (by first | exact Or.inl rfl | exact Or.inr rfl))
    (gss_cons (gs_asg (i := 6) (ge_call (Has.call h__law_most (hr.mono (by decide)) (takes_of rfl rfl rfl rfl)) (gl_cons (ge_var (pv 3)) gl_nil) (hxB.trans h0) (hK := hKB) (hm := hmB)) sc_law.nd rfl (by first | exact Or.inl rfl | exact Or.inr rfl))
    (gss_cons (gs_asg (i := 7) (ge_call (Has.call h__law_row (hr.mono (by decide)) (takes_of rfl rfl rfl rfl)) (gl_cons (ge_var (pv 1)) (gl_cons (ge_var (pv 3)) (gl_cons (ge_call (Has.call h__law_edge (hr.mono (by decide)) (takes_of rfl rfl rfl rfl)) (gl_cons (ge_var (pv 1)) (gl_cons (ge_add (ge_var (pv 6)) ge_int (hK := hKB)) gl_nil)) (hxB.trans h0) (hK := hKB) (hm := hmB)) gl_nil))) (hxB.trans h0) (hK := hKB) (hm := hmB)) sc_law.nd rfl (by first | exact Or.inl rfl | exact Or.inr rfl))
    (gss_cons (gs_asg (i := 8) (ge_call (Has.call h__law_free (hr.mono (by decide)) (takes_of rfl rfl rfl rfl)) (gl_cons (ge_var (pv 1)) (gl_cons (ge_sl ge_str go_none (go_some (ge_var (pv 3)))) (gl_cons (ge_call (Has.call h__law_take (hr.mono (by decide)) (takes_of rfl rfl rfl rfl)) (gl_cons (ge_var (pv 1)) (gl_cons (ge_add (ge_var (pv 6)) ge_int (hK := hKB)) gl_nil)) (hxB.trans h0) (hK := hKB) (hm := hmB)) gl_nil))) (hxB.trans h0) (hK := hKB) (hm := hmB)) sc_law.nd rfl (by first | exact Or.inl rfl | exact Or.inr rfl))
    (gss_cons (gs_if (GW.t (gw_or (gt_not (gt_val (ge_call (Has.call h__law_undone (hr.mono (by decide)) (takes_of rfl rfl rfl rfl)) (gl_cons (ge_var (pv 4)) (gl_cons (ge_var (pv 7)) gl_nil)) (hxB.trans h0) (hK := hKB) (hm := hmB)))) (gw_or (gt_not (gt_val (ge_call (Has.call h__law_undone (hr.mono (by decide)) (takes_of rfl rfl rfl rfl)) (gl_cons (ge_var (pv 5)) (gl_cons (ge_var (pv 8)) gl_nil)) (hxB.trans h0) (hK := hKB) (hm := hmB)))) (gw_or1 (gt_not (gt_val (ge_call (Has.call h__law_joint (hr.mono (by decide)) (takes_of rfl rfl rfl rfl)) (gl_cons (ge_var (pv 4)) (gl_cons (ge_var (pv 5)) (gl_cons (ge_var (pv 8)) gl_nil))) (hxB.trans h0) (hK := hKB) (hm := hmB)))))))) (gss_one (gs_ret ge_bl (hf := hfB))) gss_nil)
    (gss_cons (gs_asg (i := 9) (ge_call (Has.call h__law_bad_text (hr.mono (by decide)) (takes_of rfl rfl rfl rfl)) (gl_cons (ge_var (pv 1)) (gl_cons (ge_sl ge_str go_none (go_some (ge_var (pv 3)))) (gl_cons ge_int (gl_cons (ge_var (pv 6)) gl_nil)))) (hxB.trans h0) (hK := hKB) (hm := hmB)) sc_law.nd rfl (by first | exact Or.inl rfl | exact Or.inr rfl))
    (gss_cons (gs_if (gt_not (gt_val (ge_call (Has.call h__law_same (hr.mono (by decide)) (takes_of rfl rfl rfl rfl)) (gl_cons (ge_call (Has.call h__law_renamed_by (hr.mono (by decide)) (takes_of rfl rfl rfl rfl)) (gl_cons (ge_var (pv 4)) (gl_cons (ge_var (pv 9)) gl_nil)) (hxB.trans h0) (hK := hKB) (hm := hmB)) (gl_cons (ge_tup (gl_cons ge_str (gl_cons (ge_tup (gl_cons ge_str (gl_cons (ge_var (pv 9)) gl_nil))) gl_nil))) gl_nil)) (hxB.trans h0) (hK := hKB) (hm := hmB)))) (gss_one (gs_ret ge_bl (hf := hfB))) gss_nil)
    (gss_cons (gs_if (GW.t (gw_or (gt_not (gt_val (ge_call (Has.call h__law_order_judged (hr.mono (by decide)) (takes_of rfl rfl rfl rfl)) (gl_cons (ge_call (Has.call h__law_bad_order (hr.mono (by decide)) (takes_of rfl rfl rfl rfl)) (gl_cons (ge_var (pv 1)) gl_nil) (hxB.trans h0) (hK := hKB) (hm := hmB)) (gl_cons (ge_var (pv 7)) gl_nil)) (hxB.trans h0) (hK := hKB) (hm := hmB)))) (gw_or1 (gt_not (gt_val (ge_call (Has.call h__law_order_judged (hr.mono (by decide)) (takes_of rfl rfl rfl rfl)) (gl_cons (ge_call (Has.call h__law_bad_order (hr.mono (by decide)) (takes_of rfl rfl rfl rfl)) (gl_cons (ge_var (pv 1)) gl_nil) (hxB.trans h0) (hK := hKB) (hm := hmB)) (gl_cons (ge_var (pv 9)) gl_nil)) (hxB.trans h0) (hK := hKB) (hm := hmB))))))) (gss_one (gs_ret ge_bl (hf := hfB))) gss_nil)
    (gss_cons (gs_for (passes_of rfl) (by rfl) (gi_rng1 (by rfl) T.range (gl_cons ge_int gl_nil)) (gg_name (i := 10) sc_law.nd rfl (by first | exact Or.inl rfl | exact Or.inr rfl)) (gss_cons (gs_asg (i := 12) (ge_ix (ge_lst (gl_cons ge_str (gl_cons ge_str (gl_cons ge_str (gl_cons ge_str (gl_cons ge_str gl_nil)))))) (ge_call (Has.call h__law_take (hr.mono (by decide)) (takes_of rfl rfl rfl rfl)) (gl_cons (ge_var (pv 1)) (gl_cons ge_int gl_nil)) (hxB.trans h0) (hK := hKB) (hm := hmB)) (hK := hKB)) sc_law.nd rfl (by first | exact Or.inl rfl | exact Or.inr rfl))
    (gss_one (gs_if (gt_not (gt_val (ge_call (Has.call h__law_order_judged (hr.mono (by decide)) (takes_of rfl rfl rfl rfl)) (gl_cons (ge_call (Has.call h__law_free (hr.mono (by decide)) (takes_of rfl rfl rfl rfl)) (gl_cons (ge_var (pv 1)) (gl_cons (ge_var (pv 12)) (gl_cons (ge_call (Has.call h__law_take (hr.mono (by decide)) (takes_of rfl rfl rfl rfl)) (gl_cons (ge_var (pv 1)) (gl_cons ge_int gl_nil)) (hxB.trans h0) (hK := hKB) (hm := hmB)) gl_nil))) (hxB.trans h0) (hK := hKB) (hm := hmB)) (gl_cons (ge_var (pv 7)) gl_nil)) (hxB.trans h0) (hK := hKB) (hm := hmB)))) (gss_one (gs_ret ge_bl (hf := hfB))) gss_nil))))
    (gss_cons (gs_asg (i := 11) (ge_sl (ge_var (pv 4)) go_none (go_some (ge_subI (ge_blt (b_len (hK := hKB)) (by rfl) T.len PySem.boot_len (gl_cons (ge_var (pv 4)) gl_nil)) ge_int))) sc_law.nd rfl (by first | exact Or.inl rfl | exact Or.inr rfl))
    (gss_cons (gs_if (GW.t (gw_or (gt_not (gt_val (ge_call (Has.call h__law_order_judged (hr.mono (by decide)) (takes_of rfl rfl rfl rfl)) (gl_cons (ge_var (pv 11)) (gl_cons (ge_var (pv 7)) gl_nil)) (hxB.trans h0) (hK := hKB) (hm := hmB)))) (gw_or1 (gt_not (gt_val (ge_call (Has.call h__law_order_judged (hr.mono (by decide)) (takes_of rfl rfl rfl rfl)) (gl_cons (ge_add (ge_var (pv 4)) (ge_var (pv 11)) (hK := hKB)) (gl_cons (ge_var (pv 7)) gl_nil)) (hxB.trans h0) (hK := hKB) (hm := hmB))))))) (gss_one (gs_ret ge_bl (hf := hfB))) gss_nil)
    (gss_one (gs_if (GW.t (gw_or (gt_not (gt_val (ge_call (Has.call h__law_undone (hr.mono (by decide)) (takes_of rfl rfl rfl rfl)) (gl_cons (ge_var (pv 4)) (gl_cons (ge_var (pv 7)) gl_nil)) (hxB.trans h0) (hK := hKB) (hm := hmB)))) (gw_or1 (gt_not (gt_val (ge_call (Has.call h__law_joint (hr.mono (by decide)) (takes_of rfl rfl rfl rfl)) (gl_cons (ge_var (pv 5)) (gl_cons (ge_var (pv 4)) (gl_cons (ge_var (pv 7)) gl_nil))) (hxB.trans h0) (hK := hKB) (hm := hmB))))))) (gss_one (gs_ret ge_bl (hf := hfB))) gss_nil))))))))))))))))
    (gss_one (gs_ret ge_bl (hf := hfB)))))), ?_⟩
  refine ⟨.ref a, rfl, a, ns, rfl, hs, hl, fun H1 p ms h1 hI => ?_⟩
  refine toS_store (N := 11) h1 hI rfl rfl ?_ q
  have hL : (LINE : Nat) = 16777216 := rfl
  refine for_rn (lo := 1) (hi := 4) (fun env => ∃ x2 x3 x4 x5 x6 x7 x8 x9 x10 x11 x12, env = [.un, .val .sto, x2, x3, x4, x5, x6, x7, x8, x9, x10, x11, x12]) (by intro Q' E' h; exact ⟨4, rfl, by decide, fun z z1 z2 => h _ (by omega) (by omega)⟩) (by decide) (by decide) ⟨.un, .un, .un, .un, .un, .un, .un, .un, .un, .un, .un, rfl⟩ ?_ (fun env' _ => rfl)
  rintro k env' ⟨x2, x3, x4, x5, x6, x7, x8, x9, x10, x11, x12, rfl⟩
  refine ⟨5, rfl, by decide, fun w0 w1 w2 => ?_⟩
  obtain ⟨v, ev⟩ : ∃ v, v = 1 + w0 := ⟨_, rfl⟩
  refine ⟨v, by rw [ev], by omega, by omega, fun o ho lo => ?_⟩
  refine ⟨v, by rw [ev], by omega, by omega, fun o2 ho2 lo2 => ?_⟩
  refine ⟨v, by rw [ev], by omega, by omega, fun m hm m3 m8 => ?_⟩
  refine ⟨m + 1, rfl, by omega, fun sz s1 s2 => ⟨v, sz, by rw [ev], by omega, by omega, by omega, by omega, fun t ht hc => ?_⟩⟩
  have hv : v = 1 ∨ v = 2 ∨ v = 3 ∨ v = 4 ∨ v = 5 := by omega
  have hcut : cutS "01234" none (some (1 + w0)) = outs v.toNat := by rw [← ev]; exact cut_outs (by omega) (by omega)
  have e5 : ("01234" : Str).length = 5 := by rw [len_tl, dig_tl]; rfl
  have lou : (outs v.toNat).length = v.toNat := by
    rcases hv with e | e | e | e | e <;> (subst e; rfl)
  have elo := len_tl o
  have elo2 := len_tl o2
  have emost : ∀ (l : Nat), l = v.toNat → ∀ z : Int, mostL[l - 1]? = some z → z = m := fun l el z hz => by
    rw [el, show v.toNat - 1 = (v - 1).toNat by omega, hm] at hz
    exact (Option.some.inj hz).symm
  have okt : okText t (o.length : Nat) m := ⟨by omega, fun c h => by rw [lo, Int.toNat_natCast]; exact hc c h⟩
  refine ⟨by omega, ?_⟩
  rw [hcut]
  refine ⟨m + 1, rfl, by omega, fun fz f1 f2 => ⟨_, fz, rfl, by omega, by omega, by omega, fun u hu hcu => ?_⟩⟩
  have oku : okText u (o.length : Nat) m := ⟨by omega, fun c h => by rw [lo, Int.toNat_natCast]; exact hcu c h⟩
  have oA : ∀ z : Int, mostL[(tl o).length - 1]? = some z → okText t (o.length : Nat) z := fun z hz => by rw [emost _ (by omega) z hz]; exact okt
  have oB : ∀ z : Int, mostL[(tl o2).length - 1]? = some z → okText u (o2.length : Nat) z := fun z hz => by rw [emost _ (by omega) z hz, lo2, ← lo]; exact oku
  have oC : ∀ z : Int, mostL[(tl o).length - 1]? = some z → okText u (o.length : Nat) z := fun z hz => by rw [emost _ (by omega) z hz]; exact oku
  have oD : ∀ z : Int, mostL[(tl o2).length - 1]? = some z → okText t (o2.length : Nat) z := fun z hz => by rw [emost _ (by omega) z hz, lo2, ← lo]; exact okt
  have h128 := isOrd_128 ho
  refine ⟨o, t, rfl, by omega, ho, oA, ?_⟩
  show if (!true) = true then _ else _
  rw [if_neg (by decide)]
  refine ⟨o2, u, rfl, by omega, ho2, oB, ?_⟩
  show if (!true) = true then _ else _
  rw [if_neg (by decide)]
  refine ⟨o, o2, u, rfl, ho, ho2, by omega, by omega, oC, ?_⟩
  show if (!true) = true then _ else _
  rw [if_neg (by decide)]
  refine ⟨by omega, ?_⟩
  rw [hcut]
  refine ⟨v, m, rfl, by omega, by omega, m3, m8, fun b hb1 hb2 => ?_⟩
  have nob : ∀ z : Int, mostL[(tl o).length - 1]? = some z → ¬ okText b (o.length : Nat) z := fun z hz ok => by
    rw [emost _ (by omega) z hz] at ok
    rcases hb2 with h | ⟨c, c1, c2⟩
    · have := ok.1
      omega
    · have := ok.2 c c1
      rw [lo, Int.toNat_natCast] at this
      exact c2 this
  refine rb_text ho (by omega) nob ?_
  refine ⟨by show 2 ≤ LINE; omega, by show 2 ≤ LINE; omega, same_ref ?_⟩
  show if (!true) = true then _ else _
  rw [if_neg (by decide)]
  refine ⟨rfl, fun s1 hs1 hs2 => ⟨s1, t, rfl, by omega, by omega, hs2, ?_⟩⟩
  show if (!true) = true then _ else _
  rw [if_neg (by decide)]
  refine ⟨rfl, fun s2 hs3 hs4 => ⟨s2, b, rfl, by omega, by omega, hs4, ?_⟩⟩
  show if (!true) = true then _ else _
  rw [if_neg (by decide)]
  refine for_r1 (n := 4) (fun _ env => ∃ x2 x3 x10 x11 x12, env = [.un, .val .sto, x2, x3, .val (.str o), .val (.str o2), .val (.int m), .val (.str t), .val (.str u), .val (.str b), x10, x11, x12]) (by intro Q' E' h; exact h) (by decide) (by decide) ⟨_, _, _, _, _, rfl⟩ ?_ ?_
  · rintro i env' hi ⟨y2, y3, y10, y11, y12, rfl⟩
    refine ⟨by show 5 ≤ LINE; omega, 5, rfl, by decide, fun z z1 z2 => ?_⟩
    have menu : ∃ g : Str, L2.atI [D.str "01", .str "012", .str "0123", .str "01234", .str "0123 -a"] z = some (.str g) ∧ 0 < g.length ∧ g.length ≤ 1000 ∧ ∀ c ∈ tl g, c < 128 := by
      have : z = 0 ∨ z = 1 ∨ z = 2 ∨ z = 3 ∨ z = 4 := by omega
      rcases this with e | e | e | e | e <;> subst e
      · exact ⟨_, rfl, by decide, by decide, by decide⟩
      · exact ⟨_, rfl, by decide, by decide, by decide⟩
      · exact ⟨_, rfl, by decide, by decide, by decide⟩
      · exact ⟨_, rfl, by decide, by decide, by decide⟩
      · exact ⟨_, rfl, by decide, by decide, by decide⟩
    obtain ⟨g, g1, g2, g3, g4⟩ := menu
    refine ⟨_, g1, ?_⟩
    refine ⟨7, rfl, by decide, fun n n1 n2 => ⟨g, n, rfl, g2, g3, by omega, fun r hr1 hr2 => ⟨r, t, rfl, by omega, by omega, fun c hc => g4 c (hr2 c hc), ?_⟩⟩⟩
    show if (!true) = true then _ else _
    rw [if_neg (by decide)]
    exact ⟨_, _, _, _, _, rfl⟩
  · rintro env' ⟨y2, y3, y10, y11, y12, rfl⟩
    have cl : tl (cutS o none (some ((o.length : Int) - 1))) = (tl o).take (o.length - 1) := by
      have hlo := isOrd_len ho
      have := tl_take (z := o) (k := o.length - 1) (by omega)
      rw [show ((o.length - 1 : Nat) : Int) = (o.length : Int) - 1 by omega] at this
      exact this
    have ln : (cutS o none (some ((o.length : Int) - 1))).length ≤ 5 := by
      rw [len_tl, cl, List.length_take]
      omega
    have n128 : ∀ c ∈ tl (cutS o none (some ((o.length : Int) - 1))), c < 128 := fun c hc => h128 c (List.mem_of_mem_take (by rw [cl] at hc; exact hc))
    refine ⟨by omega, by omega, ?_⟩
    refine ⟨cutS o none (some ((o.length : Int) - 1)), t, rfl, by omega, by omega, n128, ?_⟩
    show if (!true) = true then _ else _
    rw [if_neg (by decide)]
    refine ⟨by show o.length + (cutS o none (some ((o.length : Int) - 1))).length ≤ LINE; omega, o ++ cutS o none (some ((o.length : Int) - 1)), t, rfl, by rw [len_app]; omega, by omega, fun c hc => ?_, ?_⟩
    · rw [tl_append, List.mem_append] at hc
      exact hc.elim (h128 c) (n128 c)
    show if (!true) = true then _ else _
    rw [if_neg (by decide)]
    refine ⟨o, t, rfl, by omega, ho, oA, ?_⟩
    show if (!true) = true then _ else _
    rw [if_neg (by decide)]
    refine ⟨o2, o, t, rfl, ho2, ho, by omega, by omega, oD, ?_⟩
    show if (!true) = true then _ else _
    rw [if_neg (by decide)]
    exact ⟨_, _, _, _, _, _, _, _, _, _, _, rfl⟩
end
end K9
set_option maxRecDepth 100000
set_option maxHeartbeats 4000000
namespace K9
open PySem PySem.Spec PyProof.Rows L2 Nb TL
theorem exm_sub {K : PySem.W.Frag} {S E : Addr} (h1 : PySem.W.subIn K (.ref S) (.type "BaseException") = some true) (h2 : PySem.W.isClsIn K S = true) (h3 : PySem.W.typeIn K (.ref S) = some (.type "type")) (h4 : PySem.W.subIn K (.ref E) (.ref S) = some true) :
    PySem.W.exmOne K (.ref E) (.ref S) = some true := by
  have e1 : (PySem.W.subIn K (.ref S) (.type "BaseException") == some true) = true := by rw [h1] <;> rfl
  have e2 : ((PySem.W.clsIn K S).isSome && PySem.W.typeIn K (.ref S) == some (.type "type")) = true := by
    have h2' : (PySem.W.clsIn K S).isSome = true := h2
    rw [h2', h3] <;> rfl
  show (if (PySem.W.subIn K (.ref S) (.type "BaseException") == some true) = true then (if ((PySem.W.clsIn K S).isSome && PySem.W.typeIn K (.ref S) == some (.type "type")) = true then PySem.W.subIn K (.ref E) (.ref S) else none) else none) = some true
  rw [if_pos e1, if_pos e2]
  exact h4
theorem most_sq {K : PySem.W.Frag} {a : Addr} {od : Option Addr} {t1 t2 t3 t4 t5 : Tok} {c : Nat} {sl : Array (Option Value)} (h : K.lookup a = some ⟨.type "tuple", od, .seq #[.int 8 t1, .int 8 t2, .int 5 t3, .int 4 t4, .int 3 t5] c, sl⟩) : SqT K (fun _ => none) a ([8, 8, 5, 4, 3].map V.int) :=
  .inr ⟨_, _, _, h, rfl, rfl, by rw [line_is]; show 5 ≤ 16777216; decide, .cons ⟨_, rfl⟩ (.cons ⟨_, rfl⟩ (.cons ⟨_, rfl⟩ (.cons ⟨_, rfl⟩ (.cons ⟨_, rfl⟩ .nil))))⟩
theorem init1_BadRow : Init1 init_BadRow "found" := by
  refine ⟨⟨"found", _, _, _, _, _, _, _, _, _, _, _, _, _, _, rfl, rfl, by decide, by decide, by decide, rfl, rfl, rfl, rfl, rfl, rfl, rfl, by decide +kernel, fun _ _ _ _ _ _ _ _ _ => rfl, fun _ => rfl, fun env => ⟨_, rfl⟩⟩⟩
theorem all_mk {l : PySem.W.OpenLaw} {w : World} {K : PySem.W.Frag} {h : Heap} {mg : Str → Option Value} {fa cBR cNB fI ccA cdA aMost f0 f1 f2 f3 f4 f5 f6 f7 f8 f9 f10 f11 f12 f13 f14 f15 f16 f17 f18 f19 f20 f21 f22 f23 f24 f25 f26 f27 f28 c_BadCount c_BadName c_BadNumber c_BadShare c_BadSize c_BadText c_BadWeight c_DivisionByZero c_GameOver c_InUse c_Lacking c_Mismatch c_NoHelper c_NotExact c_NothingToTakeBack c_TakenName c_UnknownName c_WrongKind : Addr} (X : K.In h) (G : h.Ns mainGlobals mg) (hfa : mg "law" = some (.ref fa))
    {nm q : Str} {N : Addr} {bs : List Value} {sn : List Str} {sub : List Value} {ab : Bool} {col : Option Bool} {dd : Option Addr} {m0 m1 m2 m3 m5 : Option Value}
    {file : Str} {tfile tO t1 t2 t3 t4 t5 : Tok} {cM : Nat} {odM odI anI cldcc cldcd : Option Addr} {slM slI cslcc cslcd : Array (Option Value)} {ocI dcI pmI ctI clcc clcd : Value} {vscd : Array Value}
    {od0 an0 od1 an1 od2 an2 od3 an3 od4 an4 od5 an5 od6 an6 od7 an7 od8 an8 od9 an9 od10 an10 od11 an11 od12 an12 od13 an13 od14 an14 od15 an15 od16 an16 od17 an17 od18 an18 od19 an19 od20 an20 od21 an21 od22 an22 od23 an23 od24 an24 od25 an25 od26 an26 od27 an27 od28 an28 : Option Addr} {sl0 sl1 sl2 sl3 sl4 sl5 sl6 sl7 sl8 sl9 sl10 sl11 sl12 sl13 sl14 sl15 sl16 sl17 sl18 sl19 sl20 sl21 sl22 sl23 sl24 sl25 sl26 sl27 sl28 : Array (Option Value)} {oc0 kV0 dc0 pm0 cd0 ct0 oc1 kV1 dc1 pm1 cd1 ct1 oc2 kV2 dc2 pm2 cd2 ct2 oc3 kV3 dc3 pm3 cd3 ct3 oc4 kV4 dc4 pm4 cd4 ct4 oc5 kV5 dc5 pm5 cd5 ct5 oc6 kV6 dc6 pm6 cd6 ct6 oc7 kV7 dc7 pm7 cd7 ct7 oc8 kV8 dc8 pm8 cd8 ct8 oc9 kV9 dc9 pm9 cd9 ct9 oc10 kV10 dc10 pm10 cd10 ct10 oc11 kV11 dc11 pm11 cd11 ct11 oc12 kV12 dc12 pm12 cd12 ct12 oc13 kV13 dc13 pm13 cd13 ct13 oc14 kV14 dc14 pm14 cd14 ct14 oc15 kV15 dc15 pm15 cd15 ct15 oc16 kV16 dc16 pm16 cd16 ct16 oc17 kV17 dc17 pm17 cd17 ct17 oc18 kV18 dc18 pm18 cd18 ct18 oc19 kV19 dc19 pm19 cd19 ct19 oc20 kV20 dc20 pm20 cd20 ct20 oc21 kV21 dc21 pm21 cd21 ct21 oc22 kV22 dc22 pm22 cd22 ct22 oc23 kV23 dc23 pm23 cd23 ct23 oc24 kV24 dc24 pm24 cd24 ct24 oc25 kV25 dc25 pm25 cd25 ct25 oc26 kV26 dc26 pm26 cd26 ct26 oc27 kV27 dc27 pm27 cd27 ct27 oc28 kV28 dc28 pm28 cd28 ct28 : Value}
    (g_BadRow : PySem.W.nsIn K mainGlobals "BadRow" = some (some (.ref cBR)))
    (g_NotBehindError : PySem.W.nsIn K mainGlobals "NotBehindError" = some (some (.ref cNB)))
    (g_BadCount : PySem.W.nsIn K mainGlobals "BadCount" = some (some (.ref c_BadCount)))
    (g_BadName : PySem.W.nsIn K mainGlobals "BadName" = some (some (.ref c_BadName)))
    (g_BadNumber : PySem.W.nsIn K mainGlobals "BadNumber" = some (some (.ref c_BadNumber)))
    (g_BadShare : PySem.W.nsIn K mainGlobals "BadShare" = some (some (.ref c_BadShare)))
    (g_BadSize : PySem.W.nsIn K mainGlobals "BadSize" = some (some (.ref c_BadSize)))
    (g_BadText : PySem.W.nsIn K mainGlobals "BadText" = some (some (.ref c_BadText)))
    (g_BadWeight : PySem.W.nsIn K mainGlobals "BadWeight" = some (some (.ref c_BadWeight)))
    (g_DivisionByZero : PySem.W.nsIn K mainGlobals "DivisionByZero" = some (some (.ref c_DivisionByZero)))
    (g_GameOver : PySem.W.nsIn K mainGlobals "GameOver" = some (some (.ref c_GameOver)))
    (g_InUse : PySem.W.nsIn K mainGlobals "InUse" = some (some (.ref c_InUse)))
    (g_Lacking : PySem.W.nsIn K mainGlobals "Lacking" = some (some (.ref c_Lacking)))
    (g_Mismatch : PySem.W.nsIn K mainGlobals "Mismatch" = some (some (.ref c_Mismatch)))
    (g_NoHelper : PySem.W.nsIn K mainGlobals "NoHelper" = some (some (.ref c_NoHelper)))
    (g_NotExact : PySem.W.nsIn K mainGlobals "NotExact" = some (some (.ref c_NotExact)))
    (g_NothingToTakeBack : PySem.W.nsIn K mainGlobals "NothingToTakeBack" = some (some (.ref c_NothingToTakeBack)))
    (g_TakenName : PySem.W.nsIn K mainGlobals "TakenName" = some (some (.ref c_TakenName)))
    (g_UnknownName : PySem.W.nsIn K mainGlobals "UnknownName" = some (some (.ref c_UnknownName)))
    (g_WrongKind : PySem.W.nsIn K mainGlobals "WrongKind" = some (some (.ref c_WrongKind)))
    (a0 : PySem.W.nsIn K mainGlobals "is_made_of" = some (some (.ref f0)))
    (l0 : K.lookup f0 = some ⟨oc0, od0, .func (PySem.W.fnOf "is_made_of" "is_made_of" (defArgs s_is_made_of) (defBody s_is_made_of) (defScope s_is_made_of) .none kV0 dc0 pm0 an0 cd0 ct0), sl0⟩)
    (c0 : PySem.W.codeIn K cd0 "is_made_of" = true)
    (k0 : PySem.W.keepIn K (.ref f0) = true)
    (a1 : PySem.W.nsIn K mainGlobals "is_outcomes" = some (some (.ref f1)))
    (l1 : K.lookup f1 = some ⟨oc1, od1, .func (PySem.W.fnOf "is_outcomes" "is_outcomes" (defArgs s_is_outcomes) (defBody s_is_outcomes) (defScope s_is_outcomes) .none kV1 dc1 pm1 an1 cd1 ct1), sl1⟩)
    (c1 : PySem.W.codeIn K cd1 "is_outcomes" = true)
    (k1 : PySem.W.keepIn K (.ref f1) = true)
    (a2 : PySem.W.nsIn K mainGlobals "is_beginning" = some (some (.ref f2)))
    (l2 : K.lookup f2 = some ⟨oc2, od2, .func (PySem.W.fnOf "is_beginning" "is_beginning" (defArgs s_is_beginning) (defBody s_is_beginning) (defScope s_is_beginning) .none kV2 dc2 pm2 an2 cd2 ct2), sl2⟩)
    (c2 : PySem.W.codeIn K cd2 "is_beginning" = true)
    (k2 : PySem.W.keepIn K (.ref f2) = true)
    (a3 : PySem.W.nsIn K mainGlobals "check_beginning" = some (some (.ref f3)))
    (l3 : K.lookup f3 = some ⟨oc3, od3, .func (PySem.W.fnOf "check_beginning" "check_beginning" (defArgs s_check_beginning) (defBody s_check_beginning) (defScope s_check_beginning) .none kV3 dc3 pm3 an3 cd3 ct3), sl3⟩)
    (c3 : PySem.W.codeIn K cd3 "check_beginning" = true)
    (k3 : PySem.W.keepIn K (.ref f3) = true)
    (a4 : PySem.W.nsIn K mainGlobals "check_order" = some (some (.ref f4)))
    (l4 : K.lookup f4 = some ⟨oc4, od4, .func (PySem.W.fnOf "check_order" "check_order" (defArgs s_check_order) (defBody s_check_order) (defScope s_check_order) .none kV4 dc4 pm4 an4 cd4 ct4), sl4⟩)
    (c4 : PySem.W.codeIn K cd4 "check_order" = true)
    (k4 : PySem.W.keepIn K (.ref f4) = true)
    (a5 : PySem.W.nsIn K mainGlobals "renamed" = some (some (.ref f5)))
    (l5 : K.lookup f5 = some ⟨oc5, od5, .func (PySem.W.fnOf "renamed" "renamed" (defArgs s_renamed) (defBody s_renamed) (defScope s_renamed) .none kV5 dc5 pm5 an5 cd5 ct5), sl5⟩)
    (c5 : PySem.W.codeIn K cd5 "renamed" = true)
    (k5 : PySem.W.keepIn K (.ref f5) = true)
    (a6 : PySem.W.nsIn K mainGlobals "back_order" = some (some (.ref f6)))
    (l6 : K.lookup f6 = some ⟨oc6, od6, .func (PySem.W.fnOf "back_order" "back_order" (defArgs s_back_order) (defBody s_back_order) (defScope s_back_order) .none kV6 dc6 pm6 an6 cd6 ct6), sl6⟩)
    (c6 : PySem.W.codeIn K cd6 "back_order" = true)
    (k6 : PySem.W.keepIn K (.ref f6) = true)
    (a7 : PySem.W.nsIn K mainGlobals "_law_store" = some (some (.ref f7)))
    (l7 : K.lookup f7 = some ⟨oc7, od7, .func (PySem.W.fnOf "_law_store" "_law_store" (defArgs s__law_store) (defBody s__law_store) (defScope s__law_store) .none kV7 dc7 pm7 an7 cd7 ct7), sl7⟩)
    (c7 : PySem.W.codeIn K cd7 "_law_store" = true)
    (k7 : PySem.W.keepIn K (.ref f7) = true)
    (a8 : PySem.W.nsIn K mainGlobals "_law_mixed" = some (some (.ref f8)))
    (l8 : K.lookup f8 = some ⟨oc8, od8, .func (PySem.W.fnOf "_law_mixed" "_law_mixed" (defArgs s__law_mixed) (defBody s__law_mixed) (defScope s__law_mixed) .none kV8 dc8 pm8 an8 cd8 ct8), sl8⟩)
    (c8 : PySem.W.codeIn K cd8 "_law_mixed" = true)
    (k8 : PySem.W.keepIn K (.ref f8) = true)
    (a9 : PySem.W.nsIn K mainGlobals "_law_take" = some (some (.ref f9)))
    (l9 : K.lookup f9 = some ⟨oc9, od9, .func (PySem.W.fnOf "_law_take" "_law_take" (defArgs s__law_take) (defBody s__law_take) (defScope s__law_take) .none kV9 dc9 pm9 an9 cd9 ct9), sl9⟩)
    (c9 : PySem.W.codeIn K cd9 "_law_take" = true)
    (k9 : PySem.W.keepIn K (.ref f9) = true)
    (a10 : PySem.W.nsIn K mainGlobals "_law_edge" = some (some (.ref f10)))
    (l10 : K.lookup f10 = some ⟨oc10, od10, .func (PySem.W.fnOf "_law_edge" "_law_edge" (defArgs s__law_edge) (defBody s__law_edge) (defScope s__law_edge) .none kV10 dc10 pm10 an10 cd10 ct10), sl10⟩)
    (c10 : PySem.W.codeIn K cd10 "_law_edge" = true)
    (k10 : PySem.W.keepIn K (.ref f10) = true)
    (a11 : PySem.W.nsIn K mainGlobals "_law_shuffled" = some (some (.ref f11)))
    (l11 : K.lookup f11 = some ⟨oc11, od11, .func (PySem.W.fnOf "_law_shuffled" "_law_shuffled" (defArgs s__law_shuffled) (defBody s__law_shuffled) (defScope s__law_shuffled) .none kV11 dc11 pm11 an11 cd11 ct11), sl11⟩)
    (c11 : PySem.W.codeIn K cd11 "_law_shuffled" = true)
    (k11 : PySem.W.keepIn K (.ref f11) = true)
    (a12 : PySem.W.nsIn K mainGlobals "_law_same" = some (some (.ref f12)))
    (l12 : K.lookup f12 = some ⟨oc12, od12, .func (PySem.W.fnOf "_law_same" "_law_same" (defArgs s__law_same) (defBody s__law_same) (defScope s__law_same) .none kV12 dc12 pm12 an12 cd12 ct12), sl12⟩)
    (c12 : PySem.W.codeIn K cd12 "_law_same" = true)
    (k12 : PySem.W.keepIn K (.ref f12) = true)
    (a13 : PySem.W.nsIn K mainGlobals "_law_refusal" = some (some (.ref f13)))
    (l13 : K.lookup f13 = some ⟨oc13, od13, .func (PySem.W.fnOf "_law_refusal" "_law_refusal" (defArgs s__law_refusal) (defBody s__law_refusal) (defScope s__law_refusal) .none kV13 dc13 pm13 an13 cd13 ct13), sl13⟩)
    (c13 : PySem.W.codeIn K cd13 "_law_refusal" = true)
    (k13 : PySem.W.keepIn K (.ref f13) = true)
    (a14 : PySem.W.nsIn K mainGlobals "_law_bare" = some (some (.ref f14)))
    (l14 : K.lookup f14 = some ⟨oc14, od14, .func (PySem.W.fnOf "_law_bare" "_law_bare" (defArgs s__law_bare) (defBody s__law_bare) (defScope s__law_bare) .none kV14 dc14 pm14 an14 cd14 ct14), sl14⟩)
    (c14 : PySem.W.codeIn K cd14 "_law_bare" = true)
    (k14 : PySem.W.keepIn K (.ref f14) = true)
    (a15 : PySem.W.nsIn K mainGlobals "_law_most" = some (some (.ref f15)))
    (l15 : K.lookup f15 = some ⟨oc15, od15, .func (PySem.W.fnOf "_law_most" "_law_most" (defArgs s__law_most) (defBody s__law_most) (defScope s__law_most) .none kV15 dc15 pm15 an15 cd15 ct15), sl15⟩)
    (c15 : PySem.W.codeIn K cd15 "_law_most" = true)
    (k15 : PySem.W.keepIn K (.ref f15) = true)
    (a16 : PySem.W.nsIn K mainGlobals "_law_row" = some (some (.ref f16)))
    (l16 : K.lookup f16 = some ⟨oc16, od16, .func (PySem.W.fnOf "_law_row" "_law_row" (defArgs s__law_row) (defBody s__law_row) (defScope s__law_row) .none kV16 dc16 pm16 an16 cd16 ct16), sl16⟩)
    (c16 : PySem.W.codeIn K cd16 "_law_row" = true)
    (k16 : PySem.W.keepIn K (.ref f16) = true)
    (a17 : PySem.W.nsIn K mainGlobals "_law_bad_text" = some (some (.ref f17)))
    (l17 : K.lookup f17 = some ⟨oc17, od17, .func (PySem.W.fnOf "_law_bad_text" "_law_bad_text" (defArgs s__law_bad_text) (defBody s__law_bad_text) (defScope s__law_bad_text) .none kV17 dc17 pm17 an17 cd17 ct17), sl17⟩)
    (c17 : PySem.W.codeIn K cd17 "_law_bad_text" = true)
    (k17 : PySem.W.keepIn K (.ref f17) = true)
    (a18 : PySem.W.nsIn K mainGlobals "_law_free" = some (some (.ref f18)))
    (l18 : K.lookup f18 = some ⟨oc18, od18, .func (PySem.W.fnOf "_law_free" "_law_free" (defArgs s__law_free) (defBody s__law_free) (defScope s__law_free) .none kV18 dc18 pm18 an18 cd18 ct18), sl18⟩)
    (c18 : PySem.W.codeIn K cd18 "_law_free" = true)
    (k18 : PySem.W.keepIn K (.ref f18) = true)
    (a19 : PySem.W.nsIn K mainGlobals "_law_order" = some (some (.ref f19)))
    (l19 : K.lookup f19 = some ⟨oc19, od19, .func (PySem.W.fnOf "_law_order" "_law_order" (defArgs s__law_order) (defBody s__law_order) (defScope s__law_order) .none kV19 dc19 pm19 an19 cd19 ct19), sl19⟩)
    (c19 : PySem.W.codeIn K cd19 "_law_order" = true)
    (k19 : PySem.W.keepIn K (.ref f19) = true)
    (a20 : PySem.W.nsIn K mainGlobals "_law_bad_order" = some (some (.ref f20)))
    (l20 : K.lookup f20 = some ⟨oc20, od20, .func (PySem.W.fnOf "_law_bad_order" "_law_bad_order" (defArgs s__law_bad_order) (defBody s__law_bad_order) (defScope s__law_bad_order) .none kV20 dc20 pm20 an20 cd20 ct20), sl20⟩)
    (c20 : PySem.W.codeIn K cd20 "_law_bad_order" = true)
    (k20 : PySem.W.keepIn K (.ref f20) = true)
    (a21 : PySem.W.nsIn K mainGlobals "_law_renamed_by" = some (some (.ref f21)))
    (l21 : K.lookup f21 = some ⟨oc21, od21, .func (PySem.W.fnOf "_law_renamed_by" "_law_renamed_by" (defArgs s__law_renamed_by) (defBody s__law_renamed_by) (defScope s__law_renamed_by) .none kV21 dc21 pm21 an21 cd21 ct21), sl21⟩)
    (c21 : PySem.W.codeIn K cd21 "_law_renamed_by" = true)
    (k21 : PySem.W.keepIn K (.ref f21) = true)
    (a22 : PySem.W.nsIn K mainGlobals "_law_back_of" = some (some (.ref f22)))
    (l22 : K.lookup f22 = some ⟨oc22, od22, .func (PySem.W.fnOf "_law_back_of" "_law_back_of" (defArgs s__law_back_of) (defBody s__law_back_of) (defScope s__law_back_of) .none kV22 dc22 pm22 an22 cd22 ct22), sl22⟩)
    (c22 : PySem.W.codeIn K cd22 "_law_back_of" = true)
    (k22 : PySem.W.keepIn K (.ref f22) = true)
    (a23 : PySem.W.nsIn K mainGlobals "_law_is_order" = some (some (.ref f23)))
    (l23 : K.lookup f23 = some ⟨oc23, od23, .func (PySem.W.fnOf "_law_is_order" "_law_is_order" (defArgs s__law_is_order) (defBody s__law_is_order) (defScope s__law_is_order) .none kV23 dc23 pm23 an23 cd23 ct23), sl23⟩)
    (c23 : PySem.W.codeIn K cd23 "_law_is_order" = true)
    (k23 : PySem.W.keepIn K (.ref f23) = true)
    (a24 : PySem.W.nsIn K mainGlobals "_law_is_renamed" = some (some (.ref f24)))
    (l24 : K.lookup f24 = some ⟨oc24, od24, .func (PySem.W.fnOf "_law_is_renamed" "_law_is_renamed" (defArgs s__law_is_renamed) (defBody s__law_is_renamed) (defScope s__law_is_renamed) .none kV24 dc24 pm24 an24 cd24 ct24), sl24⟩)
    (c24 : PySem.W.codeIn K cd24 "_law_is_renamed" = true)
    (k24 : PySem.W.keepIn K (.ref f24) = true)
    (a25 : PySem.W.nsIn K mainGlobals "_law_undone" = some (some (.ref f25)))
    (l25 : K.lookup f25 = some ⟨oc25, od25, .func (PySem.W.fnOf "_law_undone" "_law_undone" (defArgs s__law_undone) (defBody s__law_undone) (defScope s__law_undone) .none kV25 dc25 pm25 an25 cd25 ct25), sl25⟩)
    (c25 : PySem.W.codeIn K cd25 "_law_undone" = true)
    (k25 : PySem.W.keepIn K (.ref f25) = true)
    (a26 : PySem.W.nsIn K mainGlobals "_law_order_judged" = some (some (.ref f26)))
    (l26 : K.lookup f26 = some ⟨oc26, od26, .func (PySem.W.fnOf "_law_order_judged" "_law_order_judged" (defArgs s__law_order_judged) (defBody s__law_order_judged) (defScope s__law_order_judged) .none kV26 dc26 pm26 an26 cd26 ct26), sl26⟩)
    (c26 : PySem.W.codeIn K cd26 "_law_order_judged" = true)
    (k26 : PySem.W.keepIn K (.ref f26) = true)
    (a27 : PySem.W.nsIn K mainGlobals "_law_joint" = some (some (.ref f27)))
    (l27 : K.lookup f27 = some ⟨oc27, od27, .func (PySem.W.fnOf "_law_joint" "_law_joint" (defArgs s__law_joint) (defBody s__law_joint) (defScope s__law_joint) .none kV27 dc27 pm27 an27 cd27 ct27), sl27⟩)
    (c27 : PySem.W.codeIn K cd27 "_law_joint" = true)
    (k27 : PySem.W.keepIn K (.ref f27) = true)
    (a28 : PySem.W.nsIn K mainGlobals "law" = some (some (.ref f28)))
    (l28 : K.lookup f28 = some ⟨oc28, od28, .func (PySem.W.fnOf "law" "law" (defArgs s_law) (defBody s_law) (defScope s_law) .none kV28 dc28 pm28 an28 cd28 ct28), sl28⟩)
    (c28 : PySem.W.codeIn K cd28 "law" = true)
    (k28 : PySem.W.keepIn K (.ref f28) = true)
    (z_ValueError : PySem.W.nsIn K mainGlobals "ValueError" = some none)
    (z_abs : PySem.W.nsIn K mainGlobals "abs" = some none)
    (z_all : PySem.W.nsIn K mainGlobals "all" = some none)
    (z_bool : PySem.W.nsIn K mainGlobals "bool" = some none)
    (z_int : PySem.W.nsIn K mainGlobals "int" = some none)
    (z_isinstance : PySem.W.nsIn K mainGlobals "isinstance" = some none)
    (z_len : PySem.W.nsIn K mainGlobals "len" = some none)
    (z_list : PySem.W.nsIn K mainGlobals "list" = some none)
    (z_max : PySem.W.nsIn K mainGlobals "max" = some none)
    (z_range : PySem.W.nsIn K mainGlobals "range" = some none)
    (z_sorted : PySem.W.nsIn K mainGlobals "sorted" = some none)
    (z_str : PySem.W.nsIn K mainGlobals "str" = some none)
    (z_tuple : PySem.W.nsIn K mainGlobals "tuple" = some none)
    (z_super : PySem.W.nsIn K mainGlobals "super" = some none)
    (xL : K.lookup cBR = some (excClassObj nm q cBR N bs [.ref cNB, .type "ValueError", .type "Exception", .type "BaseException", .type "object"] true sn sub ab col dd m0 m1 m2 m3 m5 "ValueError.__new__"))
    (fisetattr : PySem.W.findIn K (.ref cBR) "__setattr__" = some (some (.builtin "object.__setattr__")))
    (figetattribute : PySem.W.findIn K (.ref cBR) "__getattribute__" = some (some (.builtin "BaseException.__getattribute__")))
    (ficlass : PySem.W.findIn K (.ref cBR) "__class__" = some (some (.builtin "object.__class__")))
    (figetattr : PySem.W.findIn K (.ref cBR) "__getattr__" = some none)
    (fn_amount : PySem.W.findIn K (.ref cBR) "amount" = some none)
    (fn_at : PySem.W.findIn K (.ref cBR) "at" = some none)
    (fn_beginning : PySem.W.findIn K (.ref cBR) "beginning" = some none)
    (fn_due : PySem.W.findIn K (.ref cBR) "due" = some none)
    (fn_found : PySem.W.findIn K (.ref cBR) "found" = some none)
    (fn_high : PySem.W.findIn K (.ref cBR) "high" = some none)
    (fn_line : PySem.W.findIn K (.ref cBR) "line" = some none)
    (fn_low : PySem.W.findIn K (.ref cBR) "low" = some none)
    (fn_name : PySem.W.findIn K (.ref cBR) "name" = some none)
    (fn_user : PySem.W.findIn K (.ref cBR) "user" = some none)
    (fiinit : PySem.W.findIn K (.ref cBR) "__init__" = some (some (.ref fI)))
    (tI : PySem.W.typeIn K (.ref fI) = some (.type "function"))
    (kBR : PySem.W.keepIn K (.ref cBR) = true)
    (eBR : PySem.W.subIn K (.ref cBR) (.type "BaseException") = some true)
    (vBR : PySem.W.subIn K (.ref cBR) (.type "ValueError") = some true)
    (tBR : PySem.W.typeIn K (.ref cBR) = some (.type "type"))
    (hBR : PySem.W.hasDictIn K cBR = true)
    (iBR : PySem.W.isClsIn K cBR = true)
    (sBR : PySem.W.subIn K (.ref cBR) (.ref cBR) = some true)
    (mBR : PySem.W.mroIn K cBR (.ref cBR) = some true)
    (oBR : PySem.W.mroIn K cBR (.type "object") = some true)
    (spO : PySem.W.specialIn K (.builtin "object.__class__") "__get__" = some (some (.builtin "getset_descriptor.__get__")))
    (tkO : PySem.W.takesIn K (.builtin "object.__class__") = some true)
    (eNB : PySem.W.subIn K (.ref cNB) (.type "BaseException") = some true)
    (tNB : PySem.W.typeIn K (.ref cNB) = some (.type "type"))
    (iNB : PySem.W.isClsIn K cNB = true)
    (sNB : PySem.W.subIn K (.ref cBR) (.ref cNB) = some true)
    (kV : PySem.W.kitOne K (.ref cBR) (.type "ValueError") = some true)
    (ki_BadCount : PySem.W.kitOne K (.ref cBR) (.ref c_BadCount) = some false)
    (ki_BadName : PySem.W.kitOne K (.ref cBR) (.ref c_BadName) = some false)
    (ki_BadNumber : PySem.W.kitOne K (.ref cBR) (.ref c_BadNumber) = some false)
    (ki_BadRow : PySem.W.kitOne K (.ref cBR) (.ref cBR) = some true)
    (ki_BadShare : PySem.W.kitOne K (.ref cBR) (.ref c_BadShare) = some false)
    (ki_BadSize : PySem.W.kitOne K (.ref cBR) (.ref c_BadSize) = some false)
    (ki_BadText : PySem.W.kitOne K (.ref cBR) (.ref c_BadText) = some false)
    (ki_BadWeight : PySem.W.kitOne K (.ref cBR) (.ref c_BadWeight) = some false)
    (ki_DivisionByZero : PySem.W.kitOne K (.ref cBR) (.ref c_DivisionByZero) = some false)
    (ki_GameOver : PySem.W.kitOne K (.ref cBR) (.ref c_GameOver) = some false)
    (ki_InUse : PySem.W.kitOne K (.ref cBR) (.ref c_InUse) = some false)
    (ki_Lacking : PySem.W.kitOne K (.ref cBR) (.ref c_Lacking) = some false)
    (ki_Mismatch : PySem.W.kitOne K (.ref cBR) (.ref c_Mismatch) = some false)
    (ki_NoHelper : PySem.W.kitOne K (.ref cBR) (.ref c_NoHelper) = some false)
    (ki_NotExact : PySem.W.kitOne K (.ref cBR) (.ref c_NotExact) = some false)
    (ki_NothingToTakeBack : PySem.W.kitOne K (.ref cBR) (.ref c_NothingToTakeBack) = some false)
    (ki_TakenName : PySem.W.kitOne K (.ref cBR) (.ref c_TakenName) = some false)
    (ki_UnknownName : PySem.W.kitOne K (.ref cBR) (.ref c_UnknownName) = some false)
    (ki_WrongKind : PySem.W.kitOne K (.ref cBR) (.ref c_WrongKind) = some false)
    (sup : PySem.W.ks_superIn K cBR cBR "__init__" = some (some (.builtin "ValueError.__init__")))
    (opq : PySem.W.nsIn K cStatics "thirdparty.any" = some none)
    (lI : K.lookup fI = some ⟨ocI, odI, .func (PySem.W.ksFn "__init__" "BadRow.__init__" (defArgs init_BadRow) (defBody init_BadRow) (defScope init_BadRow) .none .none dcI pmI anI (.ref cdA) ctI ccA), slI⟩)
    (cI : PySem.W.codeIn K (.ref cdA) "BadRow.__init__" = true)
    (lcc : K.lookup ccA = some ⟨clcc, cldcc, .cell (some (.ref cBR)), cslcc⟩)
    (lcd : K.lookup cdA = some ⟨clcd, cldcd, .fields vscd, cslcd⟩)
    (vs2 : vscd[2]? = some (.str file tfile))
    (ffile : ((l.prog.main.file : Str) == file) = true)
    (ftop : (l.prog.main.scope.names.lookup ("super" : Str)).isSome = false)
    (oOuts : PySem.W.nsIn K mainGlobals "OUTCOMES" = some (some (.str "01234" tO)))
    (oMost : PySem.W.nsIn K mainGlobals "MOST_ROUNDS" = some (some (.ref aMost)))
    (lMost : K.lookup aMost = some ⟨.type "tuple", odM, .seq #[.int 8 t1, .int 8 t2, .int 5 t3, .int 4 t4, .int 3 t5] cM, slM⟩)
    : ∃ fd : FuncData, (∀ (s : Shared) (v : Value), BindsTo s fd ⟨[v], []⟩ [("script", v)]) ∧ ∀ base : Heap, K.In base → base.Ns mainGlobals mg → FnOk l.prog w K mg base (L2.CX l.prog w) 11 fa fd ["script"] (spLaw K) := by
  have e := hfa.symm.trans (PySem.W.mg_of X G a28)
  cases e
  have G_BadRow := PySem.W.mg_of X G g_BadRow
  have G_NotBehindError := PySem.W.mg_of X G g_NotBehindError
  have G_BadCount := PySem.W.mg_of X G g_BadCount
  have G_BadName := PySem.W.mg_of X G g_BadName
  have G_BadNumber := PySem.W.mg_of X G g_BadNumber
  have G_BadShare := PySem.W.mg_of X G g_BadShare
  have G_BadSize := PySem.W.mg_of X G g_BadSize
  have G_BadText := PySem.W.mg_of X G g_BadText
  have G_BadWeight := PySem.W.mg_of X G g_BadWeight
  have G_DivisionByZero := PySem.W.mg_of X G g_DivisionByZero
  have G_GameOver := PySem.W.mg_of X G g_GameOver
  have G_InUse := PySem.W.mg_of X G g_InUse
  have G_Lacking := PySem.W.mg_of X G g_Lacking
  have G_Mismatch := PySem.W.mg_of X G g_Mismatch
  have G_NoHelper := PySem.W.mg_of X G g_NoHelper
  have G_NotExact := PySem.W.mg_of X G g_NotExact
  have G_NothingToTakeBack := PySem.W.mg_of X G g_NothingToTakeBack
  have G_TakenName := PySem.W.mg_of X G g_TakenName
  have G_UnknownName := PySem.W.mg_of X G g_UnknownName
  have G_WrongKind := PySem.W.mg_of X G g_WrongKind
  have only : ∀ (n : Str) (C : Addr), okX n → mg n = some (.ref C) → C = cBR := fun n C hn hm => by
    obtain rfl : n = "BadRow" := hn
    rw [G_BadRow] at hm
    cases hm
    rfl
  have isC : ∀ (x : Str) (C : Addr) (b : Bool), mg x = some (.ref C) → PySem.W.kitOne K (.ref cBR) (.ref C) = some b → ("BadRow" == x) = b → IsC K mg okX x fun n => n == x := fun x C b h1 h2 h3 => ⟨C, h1, fun n C2 hn hm => by
    obtain rfl := only n C2 hn hm
    obtain rfl : n = "BadRow" := hn
    rw [h2, h3]⟩
  have fno : ∀ (f : Str), PySem.W.findIn K (.ref cBR) f = some none → ∀ n C, okX n → mg n = some (.ref C) → PySem.W.findIn K (.ref C) f = some none := fun f hf n C hn hm => by
    obtain rfl := only n C hn hm
    exact hf
  have hcl : (PySem.W.clsIn K cBR).isSome = true := iBR
  have sup1 : SupTxt l.prog K mg "BadRow" cBR fI ["found"] init_BadRow :=
    { gC := G_BadRow, cls := ⟨nm, q, N, bs, _, sn, sub, ab, col, dd, m0, m1, m2, m3, m5, xL, by rfl⟩, sa := fisetattr, ga := figetattribute, gg := figetattr, noN := fun f hf => by rw [List.mem_singleton.mp hf]; exact fn_found, iC := fiinit, tC := tI, kC := kBR, exC := eBR, veC := vBR, tyC := tBR, hdC := hBR, te := exm_sub eBR iBR tBR sBR, sup := sup, sCC := mBR, opq := opq, sN := PySem.W.mg_none_of X G z_super, top := ftop, fn := ⟨ccA, cdA, _, _, _, _, _, _, _, _, _, _, _, _, _, _, _, _, _, lI, cI, lcc, lcd, vs2, ffile⟩ }
  have T : Txt l.prog K mg :=
    { ValueError := PySem.W.mg_none_of X G z_ValueError, abs := PySem.W.mg_none_of X G z_abs, all := PySem.W.mg_none_of X G z_all, bool := PySem.W.mg_none_of X G z_bool, int := PySem.W.mg_none_of X G z_int, isinstance := PySem.W.mg_none_of X G z_isinstance, len := PySem.W.mg_none_of X G z_len, list := PySem.W.mg_none_of X G z_list, max := PySem.W.mg_none_of X G z_max, range := PySem.W.mg_none_of X G z_range, sorted := PySem.W.mg_none_of X G z_sorted, str := PySem.W.mg_none_of X G z_str, tuple := PySem.W.mg_none_of X G z_tuple,
      kinds := ⟨fun n C hn hm => by
        obtain rfl := only n C hn hm
        exact { cl := hcl, ga := figetattribute, gg := figetattr, sb := eBR, hd := hBR, ca := ficlass, sp := spO, tk := tkO, mo := oBR }⟩,
      i_BadCount := isC "BadCount" c_BadCount _ G_BadCount ki_BadCount (by decide), i_BadName := isC "BadName" c_BadName _ G_BadName ki_BadName (by decide), i_BadNumber := isC "BadNumber" c_BadNumber _ G_BadNumber ki_BadNumber (by decide), i_BadRow := isC "BadRow" cBR _ G_BadRow ki_BadRow (by decide), i_BadShare := isC "BadShare" c_BadShare _ G_BadShare ki_BadShare (by decide), i_BadSize := isC "BadSize" c_BadSize _ G_BadSize ki_BadSize (by decide), i_BadText := isC "BadText" c_BadText _ G_BadText ki_BadText (by decide), i_BadWeight := isC "BadWeight" c_BadWeight _ G_BadWeight ki_BadWeight (by decide), i_DivisionByZero := isC "DivisionByZero" c_DivisionByZero _ G_DivisionByZero ki_DivisionByZero (by decide), i_GameOver := isC "GameOver" c_GameOver _ G_GameOver ki_GameOver (by decide), i_InUse := isC "InUse" c_InUse _ G_InUse ki_InUse (by decide), i_Lacking := isC "Lacking" c_Lacking _ G_Lacking ki_Lacking (by decide), i_Mismatch := isC "Mismatch" c_Mismatch _ G_Mismatch ki_Mismatch (by decide), i_NoHelper := isC "NoHelper" c_NoHelper _ G_NoHelper ki_NoHelper (by decide), i_NotExact := isC "NotExact" c_NotExact _ G_NotExact ki_NotExact (by decide), i_NothingToTakeBack := isC "NothingToTakeBack" c_NothingToTakeBack _ G_NothingToTakeBack ki_NothingToTakeBack (by decide), i_TakenName := isC "TakenName" c_TakenName _ G_TakenName ki_TakenName (by decide), i_UnknownName := isC "UnknownName" c_UnknownName _ G_UnknownName ki_UnknownName (by decide), i_WrongKind := isC "WrongKind" c_WrongKind _ G_WrongKind ki_WrongKind (by decide),
      f_amount := fno "amount" fn_amount, f_at := fno "at" fn_at, f_beginning := fno "beginning" fn_beginning, f_due := fno "due" fn_due, f_found := fno "found" fn_found, f_high := fno "high" fn_high, f_line := fno "line" fn_line, f_low := fno "low" fn_low, f_name := fno "name" fn_name, f_user := fno "user" fn_user,
      v_ValueError := fun n C hn hm => by
        obtain rfl := only n C hn hm
        exact kV,
      c_NotBehindError := ⟨cNB, G_NotBehindError, fun n C hn hm => by
        obtain rfl := only n C hn hm
        exact exm_sub eNB iNB tNB sNB⟩,
      r_BadRow := ⟨⟨cBR, fI, sup1⟩, init1_BadRow⟩,
      outs := ⟨tO, PySem.W.mg_of X G oOuts⟩,
      most := ⟨aMost, PySem.W.mg_of X G oMost, most_sq lMost⟩ }
  have F0 := fun_mk (st := s_is_made_of) l0 c0 k0
  have F1 := fun_mk (st := s_is_outcomes) l1 c1 k1
  have F2 := fun_mk (st := s_is_beginning) l2 c2 k2
  have F3 := fun_mk (st := s_check_beginning) l3 c3 k3
  have F4 := fun_mk (st := s_check_order) l4 c4 k4
  have F5 := fun_mk (st := s_renamed) l5 c5 k5
  have F6 := fun_mk (st := s_back_order) l6 c6 k6
  have F7 := fun_mk (st := s__law_store) l7 c7 k7
  have F8 := fun_mk (st := s__law_mixed) l8 c8 k8
  have F9 := fun_mk (st := s__law_take) l9 c9 k9
  have F10 := fun_mk (st := s__law_edge) l10 c10 k10
  have F11 := fun_mk (st := s__law_shuffled) l11 c11 k11
  have F12 := fun_mk (st := s__law_same) l12 c12 k12
  have F13 := fun_mk (st := s__law_refusal) l13 c13 k13
  have F14 := fun_mk (st := s__law_bare) l14 c14 k14
  have F15 := fun_mk (st := s__law_most) l15 c15 k15
  have F16 := fun_mk (st := s__law_row) l16 c16 k16
  have F17 := fun_mk (st := s__law_bad_text) l17 c17 k17
  have F18 := fun_mk (st := s__law_free) l18 c18 k18
  have F19 := fun_mk (st := s__law_order) l19 c19 k19
  have F20 := fun_mk (st := s__law_bad_order) l20 c20 k20
  have F21 := fun_mk (st := s__law_renamed_by) l21 c21 k21
  have F22 := fun_mk (st := s__law_back_of) l22 c22 k22
  have F23 := fun_mk (st := s__law_is_order) l23 c23 k23
  have F24 := fun_mk (st := s__law_is_renamed) l24 c24 k24
  have F25 := fun_mk (st := s__law_undone) l25 c25 k25
  have F26 := fun_mk (st := s__law_order_judged) l26 c26 k26
  have F27 := fun_mk (st := s__law_joint) l27 c27 k27
  have F28 := fun_mk (st := s_law) l28 c28 k28
  have b0 := F0.binds (ps := ["text", "letters"]) fun _ _ _ _ _ _ us hl => match us, hl with | [_, _], _ => rfl
  have b1 := F1.binds (ps := ["text", "width"]) fun _ _ _ _ _ _ us hl => match us, hl with | [_, _], _ => rfl
  have b2 := F2.binds (ps := ["text", "width", "rounds"]) fun _ _ _ _ _ _ us hl => match us, hl with | [_, _, _], _ => rfl
  have b3 := F3.binds (ps := ["text", "width", "rounds"]) fun _ _ _ _ _ _ us hl => match us, hl with | [_, _, _], _ => rfl
  have b4 := F4.binds (ps := ["text"]) fun _ _ _ _ _ _ us hl => match us, hl with | [_], _ => rfl
  have b5 := F5.binds (ps := ["order", "text"]) fun _ _ _ _ _ _ us hl => match us, hl with | [_, _], _ => rfl
  have b6 := F6.binds (ps := ["order"]) fun _ _ _ _ _ _ us hl => match us, hl with | [_], _ => rfl
  have b7 := F7.binds (ps := ["script"]) fun _ _ _ _ _ _ us hl => match us, hl with | [_], _ => rfl
  have b8 := F8.binds (ps := ["store"]) fun _ _ _ _ _ _ us hl => match us, hl with | [_], _ => rfl
  have b9 := F9.binds (ps := ["store", "many"]) fun _ _ _ _ _ _ us hl => match us, hl with | [_, _], _ => rfl
  have b10 := F10.binds (ps := ["store", "many"]) fun _ _ _ _ _ _ us hl => match us, hl with | [_, _], _ => rfl
  have b11 := F11.binds (ps := ["store", "things"]) fun _ _ _ _ _ _ us hl => match us, hl with | [_, _], _ => rfl
  have b12 := F12.binds (ps := ["actual", "due"]) fun _ _ _ _ _ _ us hl => match us, hl with | [_, _], _ => rfl
  have b13 := F13.binds (ps := ["e"]) fun _ _ _ _ _ _ us hl => match us, hl with | [_], _ => rfl
  have b14 := F14.binds (ps := ["e"]) fun _ _ _ _ _ _ us hl => match us, hl with | [_], _ => rfl
  have b15 := F15.binds (ps := ["width"]) fun _ _ _ _ _ _ us hl => match us, hl with | [_], _ => rfl
  have b16 := F16.binds (ps := ["store", "width", "size"]) fun _ _ _ _ _ _ us hl => match us, hl with | [_, _, _], _ => rfl
  have b17 := F17.binds (ps := ["store", "signs", "low", "high"]) fun _ _ _ _ _ _ us hl => match us, hl with | [_, _, _, _], _ => rfl
  have b18 := F18.binds (ps := ["store", "signs", "size"]) fun _ _ _ _ _ _ us hl => match us, hl with | [_, _, _], _ => rfl
  have b19 := F19.binds (ps := ["store", "width"]) fun _ _ _ _ _ _ us hl => match us, hl with | [_, _], _ => rfl
  have b20 := F20.binds (ps := ["store"]) fun _ _ _ _ _ _ us hl => match us, hl with | [_], _ => rfl
  have b21 := F21.binds (ps := ["order", "text"]) fun _ _ _ _ _ _ us hl => match us, hl with | [_, _], _ => rfl
  have b22 := F22.binds (ps := ["order"]) fun _ _ _ _ _ _ us hl => match us, hl with | [_], _ => rfl
  have b23 := F23.binds (ps := ["text"]) fun _ _ _ _ _ _ us hl => match us, hl with | [_], _ => rfl
  have b24 := F24.binds (ps := ["told", "order", "text"]) fun _ _ _ _ _ _ us hl => match us, hl with | [_, _, _], _ => rfl
  have b25 := F25.binds (ps := ["order", "text"]) fun _ _ _ _ _ _ us hl => match us, hl with | [_, _], _ => rfl
  have b26 := F26.binds (ps := ["order", "text"]) fun _ _ _ _ _ _ us hl => match us, hl with | [_, _], _ => rfl
  have b27 := F27.binds (ps := ["first", "second", "text"]) fun _ _ _ _ _ _ us hl => match us, hl with | [_, _, _], _ => rfl
  refine ⟨PySem.W.fnOf "law" "law" (defArgs s_law) (defBody s_law) (defScope s_law) .none kV28 dc28 pm28 an28 cd28 ct28, fun s v => .of_eq rfl, fun base _ _ => ?_⟩
  have h_is_made_of : Has l.prog w K mg base "is_made_of" 1 false S_is_made_of := Fun.has F0 (PySem.W.mg_of X G a0) b0 (ok_is_made_of T  F0)
  have h__law_mixed : Has l.prog w K mg base "_law_mixed" 1 false S__law_mixed := Fun.has F8 (PySem.W.mg_of X G a8) b8 (ok__law_mixed T  F8)
  have hq__law_bare : HasQ l.prog w K mg base "_law_bare" 1 true S__law_bare := ⟨_, _, _, ok__law_bare T  F14, PySem.W.mg_of X G a14, k14, b14⟩
  have h__law_most : Has l.prog w K mg base "_law_most" 1 false S__law_most := Fun.has F15 (PySem.W.mg_of X G a15) b15 (ok__law_most T  F15)
  have h__law_is_order : Has l.prog w K mg base "_law_is_order" 1 false S__law_is_order := Fun.has F23 (PySem.W.mg_of X G a23) b23 (ok__law_is_order T  F23)
  have h__law_is_renamed : Has l.prog w K mg base "_law_is_renamed" 1 false S__law_is_renamed := Fun.has F24 (PySem.W.mg_of X G a24) b24 (ok__law_is_renamed T  F24)
  have h_is_outcomes : Has l.prog w K mg base "is_outcomes" 2 false S_is_outcomes := Fun.has F1 (PySem.W.mg_of X G a1) b1 (ok_is_outcomes T h_is_made_of F1)
  have h__law_take : Has l.prog w K mg base "_law_take" 2 false S__law_take := Fun.has F9 (PySem.W.mg_of X G a9) b9 (ok__law_take T h__law_mixed F9)
  have hq__law_refusal : HasQ l.prog w K mg base "_law_refusal" 2 false S__law_refusal := ⟨_, _, _, ok__law_refusal T hq__law_bare F13, PySem.W.mg_of X G a13, k13, b13⟩
  have h_is_beginning : Has l.prog w K mg base "is_beginning" 3 false S_is_beginning := Fun.has F2 (PySem.W.mg_of X G a2) b2 (ok_is_beginning T h_is_outcomes F2)
  have h_check_order : Has l.prog w K mg base "check_order" 3 false S_check_order := Fun.has F4 (PySem.W.mg_of X G a4) b4 (ok_check_order T  F4)
  have h__law_edge : Has l.prog w K mg base "_law_edge" 3 false S__law_edge := Fun.has F10 (PySem.W.mg_of X G a10) b10 (ok__law_edge T h__law_take F10)
  have h__law_shuffled : Has l.prog w K mg base "_law_shuffled" 3 true S__law_shuffled := Fun.has F11 (PySem.W.mg_of X G a11) b11 (ok__law_shuffled T h__law_take F11)
  have h__law_free : Has l.prog w K mg base "_law_free" 3 false S__law_free := Fun.has F18 (PySem.W.mg_of X G a18) b18 (ok__law_free T h__law_take F18)
  have h_check_beginning : Has l.prog w K mg base "check_beginning" 4 false S_check_beginning := Fun.has F3 (PySem.W.mg_of X G a3) b3 (ok_check_beginning T h_is_beginning F3)
  have sm0 : Has l.prog w K mg base "_law_same" 1 false (S_same 0) := Fun.has F12 (PySem.W.mg_of X G a12) b12 (fn_ok F12 sc__law_same (fun ds Qd Ed h => by obtain ⟨_, _, h, _⟩ := h; exact h.elim) fun cdv Ar outer s H E R M ds Qd Ed hr hK hm h0 h => by obtain ⟨_, _, h, _⟩ := h; exact h.elim)
  have sm1 : Has l.prog w K mg base "_law_same" 2 false (S_same 1) := Fun.has F12 (PySem.W.mg_of X G a12) b12 (ok__law_same T sm0 F12)
  have sm2 : Has l.prog w K mg base "_law_same" 3 false (S_same 2) := Fun.has F12 (PySem.W.mg_of X G a12) b12 (ok__law_same T sm1 F12)
  have sm3 : Has l.prog w K mg base "_law_same" 4 false (S_same 3) := Fun.has F12 (PySem.W.mg_of X G a12) b12 (ok__law_same T sm2 F12)
  have h__law_same : Has l.prog w K mg base "_law_same" 4 false S__law_same := by unfold S__law_same; exact sm3
  have h__law_row : Has l.prog w K mg base "_law_row" 4 false S__law_row := Fun.has F16 (PySem.W.mg_of X G a16) b16 (ok__law_row T h__law_edge h__law_take F16)
  have h__law_bad_text : Has l.prog w K mg base "_law_bad_text" 4 false S__law_bad_text := Fun.has F17 (PySem.W.mg_of X G a17) b17 (ok__law_bad_text T h__law_edge h__law_free h__law_take F17)
  have h__law_order : Has l.prog w K mg base "_law_order" 4 false S__law_order := Fun.has F19 (PySem.W.mg_of X G a19) b19 (ok__law_order T h__law_shuffled h__law_take F19)
  have h_renamed : Has l.prog w K mg base "renamed" 5 false S_renamed := Fun.has F5 (PySem.W.mg_of X G a5) b5 (ok_renamed T h_check_beginning h_check_order F5)
  have h_back_order : Has l.prog w K mg base "back_order" 5 false S_back_order := Fun.has F6 (PySem.W.mg_of X G a6) b6 (ok_back_order T h_check_order F6)
  have h__law_bad_order : Has l.prog w K mg base "_law_bad_order" 5 false S__law_bad_order := Fun.has F20 (PySem.W.mg_of X G a20) b20 (ok__law_bad_order T h__law_order h__law_take F20)
  have h__law_renamed_by : Has l.prog w K mg base "_law_renamed_by" 6 false S__law_renamed_by := Fun.has F21 (PySem.W.mg_of X G a21) b21 (ok__law_renamed_by T h_renamed hq__law_refusal F21)
  have h__law_back_of : Has l.prog w K mg base "_law_back_of" 6 false S__law_back_of := Fun.has F22 (PySem.W.mg_of X G a22) b22 (ok__law_back_of T h_back_order hq__law_refusal F22)
  have h__law_undone : Has l.prog w K mg base "_law_undone" 7 false S__law_undone := Fun.has F25 (PySem.W.mg_of X G a25) b25 (ok__law_undone T h__law_back_of h__law_is_order h__law_is_renamed h__law_renamed_by h__law_same F25)
  have h__law_joint : Has l.prog w K mg base "_law_joint" 7 false S__law_joint := Fun.has F27 (PySem.W.mg_of X G a27) b27 (ok__law_joint T h__law_renamed_by h__law_same F27)
  have h__law_order_judged : Has l.prog w K mg base "_law_order_judged" 8 false S__law_order_judged := Fun.has F26 (PySem.W.mg_of X G a26) b26 (ok__law_order_judged T h__law_back_of h__law_is_order h__law_renamed_by h__law_same h__law_undone F26)
  exact ok_law T h__law_bad_order h__law_bad_text h__law_edge h__law_free h__law_joint h__law_most h__law_order h__law_order_judged h__law_renamed_by h__law_row h__law_same h__law_take h__law_undone (ok_store T F7) (PySem.W.mg_of X G a7) k7 b7 F28

end K9
open PySem PySem.W PyProof.Rows
set_option maxRecDepth 100000 in
set_option maxHeartbeats 0 in
theorem PySem.Challenge.cw_notbehind_k09_orders_and_back_holds : PySem.Challenge.rw_notbehind_k09_orders_and_back.Holds := by
  w_on; o_law; k_head; (case hw => w_witness2)
  k_fill
  refine L2.walk_of (l := PySem.Challenge.rw_notbehind_k09_orders_and_back) (n := 63) (k := 11) (x := "script") (CX := fun w => L2.CX PySem.Challenge.rw_notbehind_k09_orders_and_back.prog w) (sp := fun w => Nb.spLaw _) rfl (by decide) rfl ⟨rfl, by decide, by decide⟩ (fun w h Y => PySem.W.kIn_of Y) ?F (fun _ _ a ns hl _ hS => ⟨a, ns, rfl, hS, hl, fun _ => rfl⟩) (fun _ _ _ _ _ h => Nb.cx_no h)
  case F =>
    intro w mg fa h KX G hmg
    refine' K9.all_mk KX G hmg ?g_BadRow ?g_NotBehindError ?g_BadCount ?g_BadName ?g_BadNumber ?g_BadShare ?g_BadSize ?g_BadText ?g_BadWeight ?g_DivisionByZero ?g_GameOver ?g_InUse ?g_Lacking ?g_Mismatch ?g_NoHelper ?g_NotExact ?g_NothingToTakeBack ?g_TakenName ?g_UnknownName ?g_WrongKind ?a0 ?l0 ?c0 ?k0 ?a1 ?l1 ?c1 ?k1 ?a2 ?l2 ?c2 ?k2 ?a3 ?l3 ?c3 ?k3 ?a4 ?l4 ?c4 ?k4 ?a5 ?l5 ?c5 ?k5 ?a6 ?l6 ?c6 ?k6 ?a7 ?l7 ?c7 ?k7 ?a8 ?l8 ?c8 ?k8 ?a9 ?l9 ?c9 ?k9 ?a10 ?l10 ?c10 ?k10 ?a11 ?l11 ?c11 ?k11 ?a12 ?l12 ?c12 ?k12 ?a13 ?l13 ?c13 ?k13 ?a14 ?l14 ?c14 ?k14 ?a15 ?l15 ?c15 ?k15 ?a16 ?l16 ?c16 ?k16 ?a17 ?l17 ?c17 ?k17 ?a18 ?l18 ?c18 ?k18 ?a19 ?l19 ?c19 ?k19 ?a20 ?l20 ?c20 ?k20 ?a21 ?l21 ?c21 ?k21 ?a22 ?l22 ?c22 ?k22 ?a23 ?l23 ?c23 ?k23 ?a24 ?l24 ?c24 ?k24 ?a25 ?l25 ?c25 ?k25 ?a26 ?l26 ?c26 ?k26 ?a27 ?l27 ?c27 ?k27 ?a28 ?l28 ?c28 ?k28 ?z_ValueError ?z_abs ?z_all ?z_bool ?z_int ?z_isinstance ?z_len ?z_list ?z_max ?z_range ?z_sorted ?z_str ?z_tuple ?z_super ?xL ?fisetattr ?figetattribute ?ficlass ?figetattr ?fn_amount ?fn_at ?fn_beginning ?fn_due ?fn_found ?fn_high ?fn_line ?fn_low ?fn_name ?fn_user ?fiinit ?tI ?kBR ?eBR ?vBR ?tBR ?hBR ?iBR ?sBR ?mBR ?oBR ?spO ?tkO ?eNB ?tNB ?iNB ?sNB ?kV ?ki_BadCount ?ki_BadName ?ki_BadNumber ?ki_BadRow ?ki_BadShare ?ki_BadSize ?ki_BadText ?ki_BadWeight ?ki_DivisionByZero ?ki_GameOver ?ki_InUse ?ki_Lacking ?ki_Mismatch ?ki_NoHelper ?ki_NotExact ?ki_NothingToTakeBack ?ki_TakenName ?ki_UnknownName ?ki_WrongKind ?sup ?opq ?lI ?cI ?lcc ?lcd ?vs2 ?ffile ?ftop ?oOuts ?oMost ?lMost
    (case g_BadRow => k_is)
    (case g_NotBehindError => k_is)
    (case g_BadCount => k_is)
    (case g_BadName => k_is)
    (case g_BadNumber => k_is)
    (case g_BadShare => k_is)
    (case g_BadSize => k_is)
    (case g_BadText => k_is)
    (case g_BadWeight => k_is)
    (case g_DivisionByZero => k_is)
    (case g_GameOver => k_is)
    (case g_InUse => k_is)
    (case g_Lacking => k_is)
    (case g_Mismatch => k_is)
    (case g_NoHelper => k_is)
    (case g_NotExact => k_is)
    (case g_NothingToTakeBack => k_is)
    (case g_TakenName => k_is)
    (case g_UnknownName => k_is)
    (case g_WrongKind => k_is)
    (case a0 => k_is)
    (case l0 => k_is)
    (case c0 => k_is)
    (case k0 => k_is)
    (case a1 => k_is)
    (case l1 => k_is)
    (case c1 => k_is)
    (case k1 => k_is)
    (case a2 => k_is)
    (case l2 => k_is)
    (case c2 => k_is)
    (case k2 => k_is)
    (case a3 => k_is)
    (case l3 => k_is)
    (case c3 => k_is)
    (case k3 => k_is)
    (case a4 => k_is)
    (case l4 => k_is)
    (case c4 => k_is)
    (case k4 => k_is)
    (case a5 => k_is)
    (case l5 => k_is)
    (case c5 => k_is)
    (case k5 => k_is)
    (case a6 => k_is)
    (case l6 => k_is)
    (case c6 => k_is)
    (case k6 => k_is)
    (case a7 => k_is)
    (case l7 => k_is)
    (case c7 => k_is)
    (case k7 => k_is)
    (case a8 => k_is)
    (case l8 => k_is)
    (case c8 => k_is)
    (case k8 => k_is)
    (case a9 => k_is)
    (case l9 => k_is)
    (case c9 => k_is)
    (case k9 => k_is)
    (case a10 => k_is)
    (case l10 => k_is)
    (case c10 => k_is)
    (case k10 => k_is)
    (case a11 => k_is)
    (case l11 => k_is)
    (case c11 => k_is)
    (case k11 => k_is)
    (case a12 => k_is)
    (case l12 => k_is)
    (case c12 => k_is)
    (case k12 => k_is)
    (case a13 => k_is)
    (case l13 => k_is)
    (case c13 => k_is)
    (case k13 => k_is)
    (case a14 => k_is)
    (case l14 => k_is)
    (case c14 => k_is)
    (case k14 => k_is)
    (case a15 => k_is)
    (case l15 => k_is)
    (case c15 => k_is)
    (case k15 => k_is)
    (case a16 => k_is)
    (case l16 => k_is)
    (case c16 => k_is)
    (case k16 => k_is)
    (case a17 => k_is)
    (case l17 => k_is)
    (case c17 => k_is)
    (case k17 => k_is)
    (case a18 => k_is)
    (case l18 => k_is)
    (case c18 => k_is)
    (case k18 => k_is)
    (case a19 => k_is)
    (case l19 => k_is)
    (case c19 => k_is)
    (case k19 => k_is)
    (case a20 => k_is)
    (case l20 => k_is)
    (case c20 => k_is)
    (case k20 => k_is)
    (case a21 => k_is)
    (case l21 => k_is)
    (case c21 => k_is)
    (case k21 => k_is)
    (case a22 => k_is)
    (case l22 => k_is)
    (case c22 => k_is)
    (case k22 => k_is)
    (case a23 => k_is)
    (case l23 => k_is)
    (case c23 => k_is)
    (case k23 => k_is)
    (case a24 => k_is)
    (case l24 => k_is)
    (case c24 => k_is)
    (case k24 => k_is)
    (case a25 => k_is)
    (case l25 => k_is)
    (case c25 => k_is)
    (case k25 => k_is)
    (case a26 => k_is)
    (case l26 => k_is)
    (case c26 => k_is)
    (case k26 => k_is)
    (case a27 => k_is)
    (case l27 => k_is)
    (case c27 => k_is)
    (case k27 => k_is)
    (case a28 => k_is)
    (case l28 => k_is)
    (case c28 => k_is)
    (case k28 => k_is)
    (case z_ValueError => k_is)
    (case z_abs => k_is)
    (case z_all => k_is)
    (case z_bool => k_is)
    (case z_int => k_is)
    (case z_isinstance => k_is)
    (case z_len => k_is)
    (case z_list => k_is)
    (case z_max => k_is)
    (case z_range => k_is)
    (case z_sorted => k_is)
    (case z_str => k_is)
    (case z_tuple => k_is)
    (case z_super => k_is)
    (case xL => k_is)
    (case fisetattr => k_is)
    (case figetattribute => k_is)
    (case ficlass => k_is)
    (case figetattr => k_is)
    (case fn_amount => k_is)
    (case fn_at => k_is)
    (case fn_beginning => k_is)
    (case fn_due => k_is)
    (case fn_found => k_is)
    (case fn_high => k_is)
    (case fn_line => k_is)
    (case fn_low => k_is)
    (case fn_name => k_is)
    (case fn_user => k_is)
    (case fiinit => k_is)
    (case tI => k_is)
    (case kBR => k_is)
    (case eBR => k_is)
    (case vBR => k_is)
    (case tBR => k_is)
    (case hBR => k_is)
    (case iBR => k_is)
    (case sBR => first | rfl | k_is)
    (case mBR => first | k_is | rfl)
    (case oBR => k_is)
    (case spO => k_is)
    (case tkO => k_is)
    (case eNB => k_is)
    (case tNB => k_is)
    (case iNB => k_is)
    (case sNB => k_is)
    (case kV => kit_is)
    (case ki_BadCount => kit_is)
    (case ki_BadName => kit_is)
    (case ki_BadNumber => kit_is)
    (case ki_BadRow => kit_is)
    (case ki_BadShare => kit_is)
    (case ki_BadSize => kit_is)
    (case ki_BadText => kit_is)
    (case ki_BadWeight => kit_is)
    (case ki_DivisionByZero => kit_is)
    (case ki_GameOver => kit_is)
    (case ki_InUse => kit_is)
    (case ki_Lacking => kit_is)
    (case ki_Mismatch => kit_is)
    (case ki_NoHelper => kit_is)
    (case ki_NotExact => kit_is)
    (case ki_NothingToTakeBack => kit_is)
    (case ki_TakenName => kit_is)
    (case ki_UnknownName => kit_is)
    (case ki_WrongKind => kit_is)
    (case sup => ks_is)
    (case opq => k_is)
    (case lI => k_is)
    (case cI => k_is)
    (case lcc => k_is)
    (case lcd => k_is)
    (case vs2 => rfl)
    (case ffile => first | rfl | decide +kernel)
    (case ftop => first | rfl | decide +kernel)
    (case oOuts => k_is)
    (case oMost => k_is)
    (case lMost => k_is)
