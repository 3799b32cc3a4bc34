import PyProof.Rows.All
import Wide.All
import OpenK.AllK
import Wide.FinOn
import HandS.ForMost
import HandS.ForExc
import HandS.ExcInit
import HandS.Wide
import HandS.IsInst
import HandS.Style
import HandS.StrMore
import HandS.RaiseMore
import HandS.Gcd
import PyProof.ListStr
import HandS.Conv
import HandS.ExcCtx
import HandS.Replace
import PyProof.Rows.SortShellAny
import KE.KExcSuper
import HandS.HotCalls
import HandS.ExcField
import KE.KExcIs
import HandS.Codes
import HandS.ExcOwn
import KE.GoesComp
import HandS.Defaults
import HandS.More
import HandS.CallSlots
import KE.GoesMore
import KE.GoesZip
import KE.GoesEnum
import PyProof.StrOps2
import PySem.Challenge.RW_notbehind_k05_names_and_words
set_option Elab.async false
set_option linter.all false
set_option maxRecDepth 100000
set_option maxHeartbeats 2000000
/-! Nb: data without addresses over the layer's heaps. -/
namespace Nb
open PySem PySem.Spec PyProof.Rows L2
abbrev St := L2.St
/-- data: what a Python value says, tuples and lists by their items -/
inductive D where
  | non | bl (b : Bool) | int (i : Int) | str (x : Str) | ty (n : String)
  | tup (ds : List D) | lst (ds : List D)
  | sto
  | exc (n : Str) (fs : List (Str × D))
  | ins (n : Str) (fs : List (Str × D))
  | dct
/-- what is true of the store's number at k -/
def SOK (k : Nat) (z : Int) : Prop := match k with
  | 0 => 5 ≤ z
  | 1 => 0 ≤ z
  | 2 => 0 ≤ z ∧ z < 2 ^ 61
  | _ => True
def InvS (ns : List Int) : Prop := (5 ≤ ns.length ∧ ns.length ≤ 100000) ∧ ∀ k z, ns[k]? = some z → SOK k z
/-- what stays fixed for a run: the written part, the module's names, the store's address, the exception at hand (its address, class, dict) -/
structure RC where
  K : PySem.W.Frag
  mg : Str → Option Value
  st : Option Addr
  hx : Option (Addr × Addr × Option Addr)
/-- a tuple that is read: tracked and not of M's, or of the written part -/
def TAt (K : PySem.W.Frag) (M : Addr → Prop) (H : Hp) (a : Addr) (xs : List V) : Prop := (Rd H a (.tup xs) ∧ ¬ M a) ∨ SqT K (fun _ => none) a xs
mutual
inductive Rep (R : RC) (M : Addr → Prop) (H : Hp) : V → D → Prop
  | non : Rep R M H .non .non
  | bl (b : Bool) : Rep R M H (.bl b) (.bl b)
  | int (i : Int) : Rep R M H (.int i) (.int i)
  | str (x : Str) : Rep R M H (.str x) (.str x)
  | ty (n : String) : Rep R M H (.ty n) (.ty n)
  | tup {a : Addr} {xs : List V} {ds : List D} : TAt R.K M H a xs → RepL R M H xs ds → Rep R M H (.ref a) (.tup ds)
  | lst {a : Addr} {xs : List V} {ds : List D} : H a = some (.lst xs) → ¬ M a → RepL R M H xs ds → Rep R M H (.ref a) (.lst ds)
  | sto {a : Addr} : R.st = some a → Rep R M H (.ref a) .sto
  | exc0 {a C : Addr} {n : Str} : R.hx = some (a, C, none) → R.mg n = some (.ref C) → Rep R M H (.ref a) (.exc n [])
  | excF {a C d : Addr} {n : Str} {fv : List (Str × V)} {fs : List (Str × D)} : R.hx = some (a, C, some d) → R.mg n = some (.ref C) → H d = some (.xd fv) → ¬ M d → RepF R M H fv fs → Rep R M H (.ref a) (.exc n fs)
  | ins {a C dx : Addr} {n : Str} {fv : List (Str × V)} {fs : List (Str × D)} : H a = some (.ins C dx fv) → ¬ M a → R.mg n = some (.ref C) → RepF R M H fv fs → Rep R M H (.ref a) (.ins n fs)
  | dct {a : Addr} {kvs : List (Key × V)} : H a = some (.dK kvs) → ¬ M a → Rep R M H (.ref a) .dct
inductive RepL (R : RC) (M : Addr → Prop) (H : Hp) : List V → List D → Prop
  | nil : RepL R M H [] []
  | cons {v : V} {d : D} {vs : List V} {ds : List D} : Rep R M H v d → RepL R M H vs ds → RepL R M H (v :: vs) (d :: ds)
inductive RepF (R : RC) (M : Addr → Prop) (H : Hp) : List (Str × V) → List (Str × D) → Prop
  | nil : RepF R M H [] []
  | cons {f : Str} {v : V} {d : D} {vs : List (Str × V)} {ds : List (Str × D)} : Rep R M H v d → RepF R M H vs ds → RepF R M H ((f, v) :: vs) ((f, d) :: ds)
end
/-- what was tracked and is not of M's stands; what is newly of M' was not tracked -/
structure Keep (M M' : Addr → Prop) (H H' : Hp) : Prop where
  k : ∀ a o, H a = some o → ¬ M a → H' a = some o
  m : ∀ a, M' a → M a ∨ H a = none
theorem Keep.refl (M : Addr → Prop) (H : Hp) : Keep M M H H := ⟨fun _ _ h _ => h, fun _ h => .inl h⟩
theorem Keep.trans {M M1 M2 : Addr → Prop} {H H1 H2 : Hp} (a : Keep M M1 H H1) (b : Keep M1 M2 H1 H2) : Keep M M2 H H2 := by
  refine ⟨fun x o h n => b.k x o (a.k x o h n) fun z => ?_, fun x h => ?_⟩
  · rcases a.m x z with z | z
    · exact n z
    · rw [h] at z; cases z
  · rcases b.m x h with z | z
    · exact a.m x z
    · by_cases q : M x
      · exact .inl q
      · refine .inr ?_
        cases e : H x with
        | none => rfl
        | some o => rw [a.k x o e q] at z; cases z
section
variable {R : RC} {M M' : Addr → Prop} {H H' : Hp}
theorem Keep.not (k : Keep M M' H H') {a : Addr} {o : HO} (e : H a = some o) (n : ¬ M a) : ¬ M' a := fun z => by
  rcases k.m a z with z | z
  · exact n z
  · rw [e] at z; cases z
theorem TAt.keep {K : PySem.W.Frag} {a : Addr} {xs : List V} (k : Keep M M' H H') (h : TAt K M H a xs) : TAt K M' H' a xs := by
  rcases h with ⟨h, n⟩ | h
  · rcases h with h | ⟨o, h⟩
    · exact .inl ⟨.inl (k.k a _ h n), k.not h n⟩
    · exact .inl ⟨.inr ⟨o, k.k a _ h n⟩, k.not h n⟩
  · exact .inr h
theorem TAt.sq {K : PySem.W.Frag} {a : Addr} {xs : List V} (h : TAt K M H a xs) : SqT K H a xs := by
  rcases h with ⟨h, _⟩ | h | h
  · exact .inl h
  · rcases h with h | ⟨_, h⟩ <;> cases h
  · exact .inr h
mutual
theorem Rep.keep (k : Keep M M' H H') : ∀ {v : V} {d : D}, Rep R M H v d → Rep R M' H' v d
  | _, _, .non => .non
  | _, _, .bl b => .bl b
  | _, _, .int i => .int i
  | _, _, .str x => .str x
  | _, _, .ty n => .ty n
  | _, _, .tup t l => .tup (t.keep k) (RepL.keep k l)
  | _, _, .lst e n l => .lst (k.k _ _ e n) (k.not e n) (RepL.keep k l)
  | _, _, .sto e => .sto e
  | _, _, .exc0 a b => .exc0 a b
  | _, _, .excF a b c n l => .excF a b (k.k _ _ c n) (k.not c n) (RepF.keep k l)
  | _, _, .ins e n b l => .ins (k.k _ _ e n) (k.not e n) b (RepF.keep k l)
  | _, _, .dct e n => .dct (k.k _ _ e n) (k.not e n)
theorem RepL.keep (k : Keep M M' H H') : ∀ {v : List V} {d : List D}, RepL R M H v d → RepL R M' H' v d
  | _, _, .nil => .nil
  | _, _, .cons a b => .cons (Rep.keep k a) (RepL.keep k b)
theorem RepF.keep (k : Keep M M' H H') : ∀ {v : List (Str × V)} {d : List (Str × D)}, RepF R M H v d → RepF R M' H' v d
  | _, _, .nil => .nil
  | _, _, .cons a b => .cons (Rep.keep k a) (RepF.keep k b)
end
theorem RepL.length : ∀ {v : List V} {d : List D}, RepL R M H v d → v.length = d.length
  | _, _, .nil => rfl
  | _, _, .cons _ b => by rw [List.length_cons, List.length_cons, RepL.length b]
theorem RepL.append : ∀ {v w : List V} {d e : List D}, RepL R M H v d → RepL R M H w e → RepL R M H (v ++ w) (d ++ e)
  | _, _, _, _, .nil, q => q
  | _, _, _, _, .cons a b, q => .cons a (RepL.append b q)
theorem RepL.get : ∀ {vs : List V} {ds : List D} {i : Nat} {d : D}, RepL R M H vs ds → ds[i]? = some d → ∃ v, vs[i]? = some v ∧ Rep R M H v d
  | _, _, _, _, .nil, e => by simp at e
  | _, _, 0, _, .cons a _, e => by simp at e; subst e; exact ⟨_, rfl, a⟩
  | _, _, i + 1, _, .cons _ b, e => by
    obtain ⟨v, h1, h2⟩ := RepL.get (i := i) b (by simpa using e)
    exact ⟨v, by simpa using h1, h2⟩
theorem RepL.drop : ∀ {vs : List V} {ds : List D} (i : Nat), RepL R M H vs ds → RepL R M H (vs.drop i) (ds.drop i)
  | _, _, 0, q => q
  | _, _, _ + 1, .nil => .nil
  | _, _, i + 1, .cons _ b => RepL.drop i b
theorem RepL.take : ∀ {vs : List V} {ds : List D} (i : Nat), RepL R M H vs ds → RepL R M H (vs.take i) (ds.take i)
  | _, _, 0, _ => .nil
  | _, _, _ + 1, .nil => .nil
  | _, _, i + 1, .cons a b => .cons a (RepL.take i b)
theorem RepL.eraseIdx : ∀ {vs : List V} {ds : List D} (i : Nat), RepL R M H vs ds → RepL R M H (vs.eraseIdx i) (ds.eraseIdx i)
  | _, _, _, .nil => .nil
  | _, _, 0, .cons _ b => b
  | _, _, i + 1, .cons a b => .cons a (RepL.eraseIdx i b)
theorem RepL.set {v : V} {d : D} (q : Rep R M H v d) : ∀ {vs : List V} {ds : List D} (i : Nat), RepL R M H vs ds → RepL R M H (vs.set i v) (ds.set i d)
  | _, _, _, .nil => .nil
  | _, _, 0, .cons _ b => .cons q b
  | _, _, i + 1, .cons a b => .cons a (RepL.set q i b)
theorem RepL.reverse : ∀ {vs : List V} {ds : List D}, RepL R M H vs ds → RepL R M H vs.reverse ds.reverse
  | _, _, .nil => .nil
  | _, _, .cons a b => by
    rw [List.reverse_cons, List.reverse_cons]
    exact (RepL.reverse b).append (.cons a .nil)
theorem RepL.strs (ns : List Str) : RepL R M H (ns.map V.str) (ns.map D.str) := by
  induction ns with
  | nil => exact .nil
  | cons n ns ih => exact .cons (.str n) ih
theorem RepL.strsV : ∀ {ns : List Str} {vs : List V}, RepL R M H vs (ns.map D.str) → vs = ns.map V.str
  | [], _, h => by cases h; rfl
  | n :: ns, _, h => by
    cases h with
    | cons a b =>
      cases a
      rw [RepL.strsV b]
      rfl
theorem RepL.blsV : ∀ {ns : List Bool} {vs : List V}, RepL R M H vs (ns.map D.bl) → vs = ns.map V.bl
  | [], _, h => by cases h; rfl
  | n :: ns, _, h => by
    cases h with
    | cons a b =>
      cases a
      rw [RepL.blsV b]
      rfl
end
/-! ### the store, the steps of an expression -/
/-- the store's list bears its word -/
def HInv (R : RC) (H : Hp) : Prop := ∀ a, R.st = some a → ∃ ns : List Int, H a = some (.lst (ns.map V.int)) ∧ InvS ns
/-- what an expression may change: the store; new things come -/
structure Stp (R : RC) (H H' : Hp) : Prop where
  k : ∀ a o, H a = some o → R.st ≠ some a → H' a = some o
  s : HInv R H → HInv R H'
theorem Stp.refl (R : RC) (H : Hp) : Stp R H H := ⟨fun _ _ h _ => h, id⟩
theorem Stp.trans {R : RC} {H H1 H2 : Hp} (a : Stp R H H1) (b : Stp R H1 H2) : Stp R H H2 := ⟨fun x o h n => b.k x o (a.k x o h n) n, fun h => b.s (a.s h)⟩
theorem Stp.new {R : RC} {H : Hp} {p : Addr} {o : HO} (h : H p = none) : Stp R H (upd H p o) := by
  refine ⟨fun a u e _ => by rw [upd_ne (ne_of_none e h)]; exact e, fun q a e => ?_⟩
  obtain ⟨ns, h1, h2⟩ := q a e
  exact ⟨ns, by rw [upd_ne (ne_of_none h1 h)]; exact h1, h2⟩
theorem Stp.none {R : RC} {H H' : Hp} (hi : HInv R H) (k : Stp R H H') {a : Addr} (h : H' a = none) : H a = none := by
  cases e : H a with
  | none => rfl
  | some o =>
    by_cases q : R.st = some a
    · obtain ⟨ns, h1, _⟩ := k.s hi a q
      rw [h1] at h; cases h
    · rw [k.k a o e q] at h; cases h
theorem Stp.keep {R : RC} {M : Addr → Prop} {H H' : Hp} (k : Stp R H H') (hm : ∀ a, R.st = some a → M a) : Keep M M H H' :=
  ⟨fun a o h n => k.k a o h fun z => n (hm a z), fun _ h => .inl h⟩
/-! ### a def's activation -/
structure Act where
  R : RC
  H0 : Hp
  M0 : Addr → Prop
  fr : Bool
/-- what holds of an activation at its start -/
structure Act.Ok (A : Act) : Prop where
  inv : HInv A.R A.H0
  st : ∀ a, A.R.st = some a → A.M0 a
  m : ∀ a, A.M0 a → A.H0 a ≠ none
/-- a slot: nothing is known; data; a list of the def's own that may change -/
inductive SD where
  | un | val (d : D) | own (ds : List D)
abbrev DEnv := List SD
def IsOwn (σ : St) (env : DEnv) (a : Addr) : Prop := ∃ (i : Nat) (ds : List D), env[i]? = some (.own ds) ∧ σ[i]? = some (some (.ref a))
def MM (A : Act) (σ : St) (env : DEnv) (a : Addr) : Prop := A.M0 a ∨ IsOwn σ env a
structure ERep (A : Act) (H : Hp) (σ : St) (env : DEnv) : Prop where
  ok : A.Ok
  len : env.length = σ.length
  val : ∀ (i : Nat) (d : D), env[i]? = some (.val d) → ∃ v, σ[i]? = some (some v) ∧ Rep A.R (MM A σ env) H v d
  own : ∀ (i : Nat) (ds : List D), env[i]? = some (.own ds) → ∃ a vs, σ[i]? = some (some (.ref a)) ∧ H a = some (.lst vs) ∧ RepL A.R (MM A σ env) H vs ds ∧ ¬ A.M0 a ∧ A.H0 a = none
  one : ∀ (i j : Nat) (ds es : List D) (a : Addr), env[i]? = some (.own ds) → env[j]? = some (.own es) → σ[i]? = some (some (.ref a)) → σ[j]? = some (some (.ref a)) → i = j
  base : Stp A.R A.H0 H
section
variable {A : Act} {H H' : Hp} {σ : St} {env : DEnv}
theorem ERep.inv (E : ERep A H σ env) : HInv A.R H := E.base.s E.ok.inv
theorem ERep.mst (E : ERep A H σ env) : ∀ a, A.R.st = some a → MM A σ env a := fun a h => .inl (E.ok.st a h)
theorem ERep.keep (E : ERep A H σ env) (k : Stp A.R H H') : Keep (MM A σ env) (MM A σ env) H H' := k.keep E.mst
theorem ERep.mtrk (E : ERep A H σ env) {a : Addr} (h : MM A σ env a) : H a ≠ none := by
  rcases h with h | ⟨i, ds, h1, h2⟩
  · intro z
    exact E.ok.m a h (Stp.none E.ok.inv E.base z)
  · obtain ⟨b, vs, e1, e2, _⟩ := E.own i ds h1
    rw [h2] at e1
    cases e1
    rw [e2]
    intro z
    cases z
theorem ERep.fresh (E : ERep A H σ env) {a : Addr} (h : H a = none) : ¬ MM A σ env a := fun z => E.mtrk z h
theorem ERep.stp (E : ERep A H σ env) (k : Stp A.R H H') : ERep A H' σ env := by
  have kk := E.keep k
  refine ⟨E.ok, E.len, fun i d h => ?_, fun i ds h => ?_, E.one, E.base.trans k⟩
  · obtain ⟨v, h1, h2⟩ := E.val i d h
    exact ⟨v, h1, h2.keep kk⟩
  · obtain ⟨a, vs, h1, h2, h3, h4, h5⟩ := E.own i ds h
    exact ⟨a, vs, h1, k.k a _ h2 fun z => h4 (E.ok.st a z), h3.keep kk, h4, h5⟩
end
/-! ### the judgements -/
abbrev Ex := Str × List (Str × D)
def XRep (R : RC) (M : Addr → Prop) (H : Hp) (cls : Value) (dd : Option Addr) (x : Ex) : Prop :=
  ∃ C, cls = .ref C ∧ R.mg x.1 = some (.ref C) ∧ ((x.2 = [] ∧ dd = none) ∨ ∃ d fv, dd = some d ∧ H d = some (.xd fv) ∧ ¬ M d ∧ RepF R M H fv x.2)
abbrev DE := DEnv → (D → Prop) → (Ex → Prop) → Prop
abbrev DL := DEnv → (List D → Prop) → (Ex → Prop) → Prop
abbrev DB := DEnv → (Bool → Prop) → (Ex → Prop) → Prop
structure KEnd where
  nx : DEnv → Prop
  rt : D → DEnv → Prop
  bk : DEnv → Prop := fun _ => False
  ct : DEnv → Prop := fun _ => False
  ex : Ex → DEnv → Prop
abbrev DS := KEnd → DEnv → Prop
/-- what the def hands back: data; where fr is told, a new list -/
def RetRep (A : Act) (H : Hp) (v : V) (d : D) : Prop := if A.fr = true then ∃ p vs ds, v = .ref p ∧ d = .lst ds ∧ A.H0 p = none ∧ H p = some (.lst vs) ∧ RepL A.R (fun a => A.M0 a ∨ a = p) H vs ds else Rep A.R A.M0 H v d
def XOut (A : Act) (W : WX) (σ : St) (env : DEnv) (H : Hp) (Ed : Ex → Prop) : Prop := ∀ x cls dd H', Stp A.R H H' → XRep A.R (MM A σ env) H' cls dd x → Ed x → W cls dd σ H'
def toE (A : Act) (W : WX) (g : DE) : TE := fun σ H Q => ∃ (env : DEnv) (Qd : D → Prop) (Ed : Ex → Prop), ERep A H σ env ∧ g env Qd Ed ∧
  (∀ v d H', Stp A.R H H' → Rep A.R (MM A σ env) H' v d → Qd d → Q v H') ∧ XOut A W σ env H Ed
def toL (A : Act) (W : WX) (g : DL) : TA := fun σ H Q => ∃ (env : DEnv) (Qd : List D → Prop) (Ed : Ex → Prop), ERep A H σ env ∧ g env Qd Ed ∧
  (∀ v d H', Stp A.R H H' → RepL A.R (MM A σ env) H' v d → Qd d → Q v H') ∧ XOut A W σ env H Ed
def toB (A : Act) (W : WX) (g : DB) : TT := fun σ H Q => ∃ (env : DEnv) (Qd : Bool → Prop) (Ed : Ex → Prop), ERep A H σ env ∧ g env Qd Ed ∧
  (∀ b H', Stp A.R H H' → Qd b → Q b H') ∧ XOut A W σ env H Ed
def toS (A : Act) (W : WX) (s : DS) : TS := fun De σ H => ∃ (env : DEnv) (K : KEnd), ERep A H σ env ∧ s K env ∧
  (∀ σ' H' env', Keep (MM A σ env) (MM A σ' env') H H' → ERep A H' σ' env' → K.nx env' → De.nx σ' H') ∧
  (∀ σ' H' env', Keep (MM A σ env) (MM A σ' env') H H' → ERep A H' σ' env' → K.bk env' → De.bk σ' H') ∧
  (∀ σ' H' env', Keep (MM A σ env) (MM A σ' env') H H' → ERep A H' σ' env' → K.ct env' → De.ct σ' H') ∧
  (∀ v d σ' H' env', ERep A H' σ' env' → RetRep A H' v d → K.rt d env' → De.rt v H') ∧
  (∀ x cls dd σ' H' env', Keep (MM A σ env) (MM A σ' env') H H' → ERep A H' σ' env' → XRep A.R (MM A σ' env') H' cls dd x → K.ex x env' → W cls dd σ' H')
structure GE (X : Cx) (A : Act) (W : WX) (e : Expr) (g : DE) : Prop where
  p : PE X e (toE A W g)
structure GL (X : Cx) (A : Act) (W : WX) (es : List Expr) (g : DL) : Prop where
  p : PA X es (toL A W g)
structure GT (X : Cx) (A : Act) (W : WX) (e : Expr) (g : DB) : Prop where
  p : PT X e (toB A W g)
structure GS (X : Cx) (A : Act) (W : WX) (s : Stmt) (g : DS) : Prop where
  p : PS X s (toS A W g)
structure GSs (X : Cx) (A : Act) (W : WX) (s : List Stmt) (g : DS) : Prop where
  p : PSs X s (toS A W g)
section
variable {X : Cx} {A : Act} {W : WX}
theorem pe_imp {e : Expr} {t t' : TE} (h : PE X e t) (i : ∀ σ H Q, t' σ H Q → t σ H Q) : PE X e t' := ⟨fun pins s σ H Q I w => h.run pins s σ H Q I (i σ H Q w)⟩
theorem pa_imp {e : List Expr} {t t' : TA} (h : PA X e t) (i : ∀ σ H Q, t' σ H Q → t σ H Q) : PA X e t' := ⟨fun pos pins s σ H Q I w => h.run pos pins s σ H Q I (i σ H Q w)⟩
theorem pt_imp {e : Expr} {t t' : TT} (h : PT X e t) (i : ∀ σ H Q, t' σ H Q → t σ H Q) : PT X e t' := ⟨fun pins s σ H Q I w => h.run pins s σ H Q I (i σ H Q w)⟩
theorem ps_imp {e : Stmt} {t t' : TS} (h : PS X e t) (i : ∀ De σ H, t' De σ H → t De σ H) : PS X e t' := ⟨fun pins s σ H De I w => h.run pins s σ H De I (i De σ H w)⟩
theorem pss_imp {e : List Stmt} {t t' : TS} (h : PSs X e t) (i : ∀ De σ H, t' De σ H → t De σ H) : PSs X e t' := ⟨fun pins s σ H De I w => h.run pins s σ H De I (i De σ H w)⟩
theorem XOut.stp {σ : St} {env : DEnv} {H H' : Hp} {Ed : Ex → Prop} (x : XOut A W σ env H Ed) (k : Stp A.R H H') : XOut A W σ env H' Ed := fun e cls dd H2 k2 r q => x e cls dd H2 (k.trans k2) r q
/-- a part of an expression, its value handed on -/
theorem toE_step {g : DE} {σ : St} {H : Hp} {env : DEnv} {Q : VK} {Qd : D → Prop} {Ed : Ex → Prop} (E : ERep A H σ env) (h : g env Qd Ed) (x : XOut A W σ env H Ed)
    (k : ∀ v d H', Stp A.R H H' → ERep A H' σ env → XOut A W σ env H' Ed → Rep A.R (MM A σ env) H' v d → Qd d → Q v H') : toE A W g σ H Q :=
  ⟨env, Qd, Ed, E, h, fun v d H' s r q => k v d H' s (E.stp s) (x.stp s) r q, x⟩
/-! ### arguments -/
def dnil : DL := fun _ Q _ => Q []
def dcons (g : DE) (gs : DL) : DL := fun env Q Ed => g env (fun d => gs env (fun ds => Q (d :: ds)) Ed) Ed
theorem gl_nil : GL X A W [] dnil := ⟨pa_imp pa_nil fun σ H Q ⟨env, Qd, Ed, E, h, q, x⟩ => q [] [] H (Stp.refl _ _) .nil h⟩
theorem gl_cons {e : Expr} {es : List Expr} {g : DE} {gs : DL} (h1 : GE X A W e g) (h2 : GL X A W es gs) (hs : starEach (e :: es) X.env = (false, eval e X.env) :: starEach es X.env := by rfl) : GL X A W (e :: es) (dcons g gs) := by
  refine ⟨pa_imp (pa_cons h1.p h2.p hs) fun σ H Q ⟨env, Qd, Ed, E, h, q, x⟩ => toE_step E h x fun v d H' s E' x' r h' => ?_⟩
  exact ⟨env, _, Ed, E', h', fun vs ds H2 s2 r2 q2 => q _ _ H2 (s.trans s2) (.cons (r.keep (E'.keep s2)) r2) q2, x'⟩
/-! ### names, constants -/
def dvar (i : Nat) : DE := fun env Q _ => match env[i]? with
  | some (.val d) => Q d
  | _ => False
def dk (d : D) : DE := fun _ Q _ => Q d
theorem ge_var {i : Nat} {e : Expr} (h : PE X e (tVar i)) : GE X A W e (dvar i) := by
  refine ⟨pe_imp h fun σ H Q ⟨env, Qd, Ed, E, h, q, x⟩ => ?_⟩
  unfold dvar at h
  cases e : env[i]? with
  | none => rw [e] at h; exact h.elim
  | some s =>
    rw [e] at h
    cases s with
    | un => exact h.elim
    | own ds => exact h.elim
    | val d =>
      obtain ⟨v, h1, h2⟩ := E.val i d e
      exact ⟨v, h1, q v d H (Stp.refl _ _) h2 h⟩
/-- a constant: a value that means the same in every heap -/
theorem ge_const {v : V} {d : D} {e : Expr} (h : PE X e (tC v)) (r : ∀ M H, Rep A.R M H v d) : GE X A W e (dk d) :=
  ⟨pe_imp h fun σ H Q ⟨env, Qd, Ed, E, h, q, x⟩ => q v d H (Stp.refl _ _) (r _ _) h⟩
theorem ge_int {i : Int} {j pos} : GE X A W (.Constant (.int i) j pos) (dk (.int i)) := ge_const pe_int fun _ _ => .int i
theorem ge_str {z : Str} {j pos} : GE X A W (.Constant (.str z) j pos) (dk (.str z)) := ge_const pe_str fun _ _ => .str z
theorem ge_bl {b : Bool} {j pos} : GE X A W (.Constant (.bool b) j pos) (dk (.bl b)) := ge_const pe_bl fun _ _ => .bl b
theorem ge_non {j pos} : GE X A W (.Constant .none j pos) (dk .non) := ge_const pe_non fun _ _ => .non
/-! ### displays -/
abbrev LINE : Nat := 16777216
theorem line_is : (sizeLine : Nat) = LINE := sizeLine_eq
theorem TAt.new {K : PySem.W.Frag} {M : Addr → Prop} {H : Hp} {p : Addr} {xs : List V} (n : ¬ M p) : TAt K M (upd H p (.tup xs)) p xs := .inl ⟨.inl upd_same, n⟩
def dtup (gs : DL) : DE := fun env Q Ed => gs env (fun ds => ds.length ≤ LINE ∧ Q (.tup ds)) Ed
def dlst (gs : DL) : DE := fun env Q Ed => gs env (fun ds => ds.length ≤ LINE ∧ Q (.lst ds)) Ed
theorem ge_tup {es : List Expr} {k pos} {gs : DL} (h : GL X A W es gs) : GE X A W (.Tuple es k pos) (dtup gs) := by
  refine ⟨pe_imp (pe_tup h.p) fun σ H Q ⟨env, Qd, Ed, E, h, q, x⟩ => ?_⟩
  refine ⟨env, _, Ed, E, h, fun vs ds H' s r hq => ⟨by rw [r.length, line_is]; exact hq.1, fun p hp => ?_⟩, x⟩
  have E' := E.stp s
  have s2 : Stp A.R H' (upd H' p (.tup vs)) := Stp.new hp
  exact q _ _ _ (s.trans s2) (.tup (TAt.new (E'.fresh hp)) (r.keep (E'.keep s2))) hq.2
theorem ge_lst {es : List Expr} {pos} {gs : DL} (h : GL X A W es gs) : GE X A W (.List es pos) (dlst gs) := by
  refine ⟨pe_imp (pe_lst h.p) fun σ H Q ⟨env, Qd, Ed, E, h, q, x⟩ => ?_⟩
  refine ⟨env, _, Ed, E, h, fun vs ds H' s r hq => ⟨by rw [r.length, line_is]; exact hq.1, fun p hp => ?_⟩, x⟩
  have E' := E.stp s
  have s2 : Stp A.R H' (upd H' p (.lst vs)) := Stp.new hp
  exact q _ _ _ (s.trans s2) (.lst upd_same (E'.fresh hp) (r.keep (E'.keep s2))) hq.2
/-! ### operators by values -/
/-- f says of data what r asks of values -/
def OpD (A : Act) (r : R2) (f : D → D → (D → Prop) → Prop) : Prop := ∀ (M : Addr → Prop) (H : Hp) (x y : V) (d e : D) (Q : VK) (Qd : D → Prop), (∀ a, A.R.st = some a → M a) → (∀ a, H a = none → ¬ M a) → Rep A.R M H x d → Rep A.R M H y e → f d e Qd →
  (∀ v d' H', Stp A.R H H' → Rep A.R M H' v d' → Qd d' → Q v H') → r x y H Q
def dop (f : D → D → (D → Prop) → Prop) (ga gb : DE) : DE := fun env Q Ed => ga env (fun x => gb env (fun y => f x y Q) Ed) Ed
theorem tOp_of {r : R2} {f : D → D → (D → Prop) → Prop} {ga gb : DE} (o : OpD A r f) {σ : St} {H : Hp} {Q : VK} (h : toE A W (dop f ga gb) σ H Q) : tOp r (toE A W ga) (toE A W gb) σ H Q := by
  obtain ⟨env, Qd, Ed, E, h, q, x⟩ := h
  refine toE_step E h x fun v d H1 s1 E1 x1 r1 h1 => toE_step E1 h1 x1 fun w e H2 s2 E2 x2 r2 h2 => ?_
  exact o _ H2 v w d e Q Qd E2.mst (fun a z => E2.fresh z) (r1.keep (E1.keep s2)) r2 h2 fun u d' H3 s3 r3 q3 => q u d' H3 ((s1.trans s2).trans s3) r3 q3
theorem ge_bin {op : Operator} {r : R2} {f : D → D → (D → Prop) → Prop} {a b : Expr} {pos} {ga gb : DE} (o : OpR X (binaryOp op) r) (od : OpD A r f) (ha : GE X A W a ga) (hb : GE X A W b gb) : GE X A W (.BinOp a op b pos) (dop f ga gb) :=
  ⟨pe_imp (pe_op o ha.p hb.p) fun _ _ _ h => tOp_of od h⟩
theorem ge_cmp {op : CmpOp} {r : R2} {f : D → D → (D → Prop) → Prop} {a b : Expr} {pos} {ga gb : DE} (o : OpR X (compareOp op) r) (od : OpD A r f) (ha : GE X A W a ga) (hb : GE X A W b gb) (hm : behindInMarks op b = false) : GE X A W (.Compare a [op] [b] pos) (dop f ga gb) :=
  ⟨pe_imp (pe_cmpR o ha.p hb.p hm) fun _ _ _ h => tOp_of od h⟩
def dtest (g : DE) : DB := fun env Q Ed => g env (fun d => match d with
  | .bl b => Q b
  | _ => False) Ed
theorem gt_cmp {op : CmpOp} {r : R2} {f : D → D → (D → Prop) → Prop} {a b : Expr} {pos} {ga gb : DE} (o : OpR X (compareOp op) r) (od : OpD A r f) (ha : GE X A W a ga) (hb : GE X A W b gb) (hm : behindInMarks op b = false) : GT X A W (.Compare a [op] [b] pos) (dtest (dop f ga gb)) := by
  refine ⟨pt_imp (pt_cmpR o ha.p hb.p hm) fun σ H Q ⟨env, Qd, Ed, E, h, q, x⟩ => tOp_of od ⟨env, _, Ed, E, h, fun v d H' s r hd => ?_, x⟩⟩
  cases d <;> first | exact hd.elim | skip
  cases r
  exact ⟨_, rfl, q _ H' s hd⟩
theorem ge_sub {r : R2} {f : D → D → (D → Prop) → Prop} {a b : Expr} {pos} {ga gb : DE} (o : IxR X r) (od : OpD A r f) (ha : GE X A W a ga) (hb : GE X A W b gb) (hs : PlainIx b) : GE X A W (.Subscript a b pos) (dop f ga gb) :=
  ⟨pe_imp (pe_ix o ha.p hb.p hs) fun _ _ _ h => tOp_of od h⟩
theorem OpD.or {r r' : R2} {f f' : D → D → (D → Prop) → Prop} (a : OpD A r f) (b : OpD A r' f') : OpD A (fun x y H Q => r x y H Q ∨ r' x y H Q) (fun x y Q => f x y Q ∨ f' x y Q) := fun M H x y d e Q Qd h1 h2 h3 h4 h5 h6 =>
  h5.elim (fun z => .inl (a M H x y d e Q Qd h1 h2 h3 h4 z h6)) fun z => .inr (b M H x y d e Q Qd h1 h2 h3 h4 z h6)
end
end Nb
set_option maxRecDepth 100000
set_option maxHeartbeats 2000000
/-! Nb: statements. -/
namespace Nb
open PySem PySem.Spec PyProof.Rows L2
section
variable {A : Act} {H H' : Hp} {σ : St} {env : DEnv}
theorem get_set {α : Type} (l : List α) (i j : Nat) (x : α) : (l.set i x)[j]? = if i = j ∧ j < l.length then some x else l[j]? := by
  rw [List.getElem?_set]
  by_cases h : i = j
  · subst h
    by_cases h2 : i < l.length
    · simp [h2]
    · simp [h2, List.getElem?_eq_none (Nat.le_of_not_lt h2)]
  · simp [h]
/-- a slot takes data -/
theorem mm_set {i : Nat} {v : V} {d : D} {a : Addr} (hl : env.length = σ.length) (h : MM A (σ.set i (some v)) (env.set i (.val d)) a) : MM A σ env a := by
  rcases h with h | ⟨j, ds, h1, h2⟩
  · exact .inl h
  · refine .inr ⟨j, ds, ?_⟩
    rw [get_set] at h1 h2
    by_cases c : i = j ∧ j < env.length
    · rw [if_pos c] at h1; cases h1
    · rw [if_neg c] at h1
      rw [if_neg (by rw [← hl]; exact c)] at h2
      exact ⟨h1, h2⟩
theorem keep_sub {M M' : Addr → Prop} {H : Hp} (h : ∀ a, M' a → M a) : Keep M M' H H := ⟨fun _ _ e _ => e, fun a z => .inl (h a z)⟩
theorem ERep.set {i : Nat} {v : V} {d : D} (E : ERep A H σ env) (r : Rep A.R (MM A σ env) H v d) : ERep A H (σ.set i (some v)) (env.set i (.val d)) := by
  have ks : Keep (MM A σ env) (MM A (σ.set i (some v)) (env.set i (.val d))) H H := keep_sub fun a => mm_set E.len
  refine ⟨E.ok, by rw [List.length_set, List.length_set]; exact E.len, fun j e h => ?_, fun j ds h => ?_, fun j k ds es a h1 h2 h3 h4 => ?_, E.base⟩
  · rw [get_set] at h
    by_cases c : i = j ∧ j < env.length
    · rw [if_pos c] at h
      cases h
      exact ⟨v, by rw [get_set, if_pos (by rw [← E.len]; exact c)], r.keep ks⟩
    · rw [if_neg c] at h
      obtain ⟨w, h1, h2⟩ := E.val j e h
      exact ⟨w, by rw [get_set, if_neg (by rw [← E.len]; exact c)]; exact h1, h2.keep ks⟩
  · rw [get_set] at h
    by_cases c : i = j ∧ j < env.length
    · rw [if_pos c] at h; cases h
    · rw [if_neg c] at h
      obtain ⟨a, vs, h1, h2, h3, h4, h5⟩ := E.own j ds h
      exact ⟨a, vs, by rw [get_set, if_neg (by rw [← E.len]; exact c)]; exact h1, h2, h3.keep ks, h4, h5⟩
  · rw [get_set] at h1 h2 h3 h4
    by_cases c : i = j ∧ j < env.length
    · rw [if_pos c] at h1; cases h1
    · by_cases c2 : i = k ∧ k < env.length
      · rw [if_pos c2] at h2; cases h2
      · rw [if_neg c] at h1
        rw [if_neg c2] at h2
        rw [if_neg (by rw [← E.len]; exact c)] at h3
        rw [if_neg (by rw [← E.len]; exact c2)] at h4
        exact E.one j k ds es a h1 h2 h3 h4
theorem ERep.setKeep {i : Nat} {v : V} {d : D} (E : ERep A H σ env) : Keep (MM A σ env) (MM A (σ.set i (some v)) (env.set i (.val d))) H H := keep_sub fun a => mm_set E.len
/-- a slot takes a new list of the def's own -/
theorem ERep.setOwn {i : Nat} {p : Addr} {vs : List V} {ds : List D} (E : ERep A H σ env) (hp : H p = none) (h0 : Stp A.R H H') (hq : H' p = some (.lst vs)) (r : RepL A.R (fun a => MM A σ env a ∨ a = p) H' vs ds) :
    ERep A H' (σ.set i (some (.ref p))) (env.set i (.own ds)) ∧ Keep (MM A σ env) (MM A (σ.set i (some (.ref p))) (env.set i (.own ds))) H H' := by
  have E' := E.stp h0
  have mm : ∀ a, MM A (σ.set i (some (.ref p))) (env.set i (.own ds)) a → MM A σ env a ∨ a = p := fun a h => by
    rcases h with h | ⟨j, es, h1, h2⟩
    · exact .inl (.inl h)
    · rw [get_set] at h1 h2
      by_cases c : i = j ∧ j < env.length
      · rw [if_pos (by rw [← E.len]; exact c)] at h2
        cases h2
        exact .inr rfl
      · rw [if_neg c] at h1
        rw [if_neg (by rw [← E.len]; exact c)] at h2
        exact .inl (.inr ⟨j, es, h1, h2⟩)
  have kk : Keep (MM A σ env) (MM A (σ.set i (some (.ref p))) (env.set i (.own ds))) H H' := ⟨(E.keep h0).k, fun a z => (mm a z).elim .inl fun e => .inr (by rw [e]; exact hp)⟩
  have k2 : Keep (fun a => MM A σ env a ∨ a = p) (MM A (σ.set i (some (.ref p))) (env.set i (.own ds))) H' H' := keep_sub mm
  have np : ¬ MM A σ env p := E.fresh hp
  have n0 : A.H0 p = none := Stp.none E.ok.inv E.base hp
  refine ⟨⟨E.ok, by rw [List.length_set, List.length_set]; exact E.len, fun j e h => ?_, fun j es h => ?_, fun j k es fs a h1 h2 h3 h4 => ?_, E'.base⟩, kk⟩
  · rw [get_set] at h
    by_cases c : i = j ∧ j < env.length
    · rw [if_pos c] at h; cases h
    · rw [if_neg c] at h
      obtain ⟨w, h1, h2⟩ := E.val j e h
      exact ⟨w, by rw [get_set, if_neg (by rw [← E.len]; exact c)]; exact h1, h2.keep kk⟩
  · rw [get_set] at h
    by_cases c : i = j ∧ j < env.length
    · rw [if_pos c] at h
      cases h
      exact ⟨p, vs, by rw [get_set, if_pos (by rw [← E.len]; exact c)], hq, r.keep k2, fun z => np (.inl z), n0⟩
    · rw [if_neg c] at h
      obtain ⟨a, ws, h1, h2, h3, h4, h5⟩ := E.own j es h
      exact ⟨a, ws, by rw [get_set, if_neg (by rw [← E.len]; exact c)]; exact h1, h0.k a _ h2 fun z => h4 (E.ok.st a z), h3.keep kk, h4, h5⟩
  · rw [get_set] at h1 h2 h3 h4
    by_cases c : i = j ∧ j < env.length
    · by_cases c2 : i = k ∧ k < env.length
      · exact c.1.symm.trans c2.1
      · rw [if_pos (by rw [← E.len]; exact c)] at h3
        rw [if_neg c2] at h2
        rw [if_neg (by rw [← E.len]; exact c2)] at h4
        cases h3
        exact absurd (.inr ⟨k, fs, h2, h4⟩) np
    · rw [if_neg c] at h1
      rw [if_neg (by rw [← E.len]; exact c)] at h3
      by_cases c2 : i = k ∧ k < env.length
      · rw [if_pos (by rw [← E.len]; exact c2)] at h4
        cases h4
        exact absurd (.inr ⟨j, es, h1, h3⟩) np
      · rw [if_neg c2] at h2
        rw [if_neg (by rw [← E.len]; exact c2)] at h4
        exact E.one j k es fs a h1 h2 h3 h4
/-- a list of the def's own changes -/
theorem ERep.mut {i : Nat} {a : Addr} {us vs : List V} {ds es : List D} (E : ERep A H σ env) (h1 : env[i]? = some (.own ds)) (h2 : σ[i]? = some (some (.ref a))) (r : RepL A.R (MM A σ env) H vs es) :
    ERep A (upd H a (.lst vs)) σ (env.set i (.own es)) ∧ Keep (MM A σ env) (MM A σ (env.set i (.own es))) H (upd H a (.lst vs)) := by
  obtain ⟨b, ws, e1, e2, e3, e4, e5⟩ := E.own i ds h1
  rw [h2] at e1
  cases e1
  have hi : i < env.length := (List.getElem?_eq_some_iff.mp h1).1
  have ma : MM A σ env a := .inr ⟨i, ds, h1, h2⟩
  have mm : ∀ b, MM A σ (env.set i (.own es)) b → MM A σ env b := fun b h => by
    rcases h with h | ⟨j, fs, q1, q2⟩
    · exact .inl h
    · rw [get_set] at q1
      by_cases c : i = j ∧ j < env.length
      · rw [← c.1] at q2
        exact .inr ⟨i, ds, h1, q2⟩
      · rw [if_neg c] at q1
        exact .inr ⟨j, fs, q1, q2⟩
  have kk : Keep (MM A σ env) (MM A σ (env.set i (.own es))) H (upd H a (.lst vs)) := ⟨fun b o e n => by rw [upd_ne (fun z => n (by rw [z]; exact ma))]; exact e, fun b z => .inl (mm b z)⟩
  refine ⟨⟨E.ok, by rw [List.length_set]; exact E.len, fun j e h => ?_, fun j fs h => ?_, fun j k fs gs b q1 q2 q3 q4 => ?_, ⟨fun b o e n => ?_, fun hi b hb => ?_⟩⟩, kk⟩
  · rw [get_set] at h
    by_cases c : i = j ∧ j < env.length
    · rw [if_pos c] at h; cases h
    · rw [if_neg c] at h
      obtain ⟨w, q1, q2⟩ := E.val j e h
      exact ⟨w, q1, q2.keep kk⟩
  · rw [get_set] at h
    by_cases c : i = j ∧ j < env.length
    · rw [if_pos c] at h
      cases h
      exact ⟨a, vs, by rw [← c.1]; exact h2, upd_same, r.keep kk, e4, e5⟩
    · rw [if_neg c] at h
      obtain ⟨b, ys, q1, q2, q3, q4, q5⟩ := E.own j fs h
      refine ⟨b, ys, q1, ?_, q3.keep kk, q4, q5⟩
      rw [upd_ne]
      · exact q2
      · intro z
        rw [z] at q1
        exact c ⟨E.one i j ds fs a h1 h h2 q1, (List.getElem?_eq_some_iff.mp h).1⟩
  · have g : ∀ {j : Nat} {fs : List D}, (env.set i (.own es))[j]? = some (.own fs) → ∃ fs', env[j]? = some (.own fs') := fun {j fs} q => by
      rw [get_set] at q
      by_cases c : i = j ∧ j < env.length
      · exact ⟨ds, by rw [← c.1]; exact h1⟩
      · rw [if_neg c] at q
        exact ⟨fs, q⟩
    obtain ⟨f1, q1⟩ := g q1
    obtain ⟨f2, q2⟩ := g q2
    exact E.one j k f1 f2 b q1 q2 q3 q4
  · rw [upd_ne (fun z => by rw [z, e5] at e; cases e)]
    exact E.base.k b o e n
  · obtain ⟨ns, z1, z2⟩ := E.base.s hi b hb
    refine ⟨ns, ?_, z2⟩
    rw [upd_ne (fun z => e4 (by rw [← z]; exact E.ok.st b hb))]
    exact z1
/-- a list of the def's own is let go: it changes no more -/
theorem ERep.freeze {i : Nat} {ds : List D} (E : ERep A H σ env) (h1 : env[i]? = some (.own ds)) :
    ERep A H σ (env.set i (.val (.lst ds))) ∧ Keep (MM A σ env) (MM A σ (env.set i (.val (.lst ds)))) H H := by
  obtain ⟨a, ws, e1, e2, e3, e4, e5⟩ := E.own i ds h1
  have hi : i < env.length := (List.getElem?_eq_some_iff.mp h1).1
  have mm : ∀ b, MM A σ (env.set i (.val (.lst ds))) b → MM A σ env b ∧ b ≠ a := fun b h => by
    rcases h with h | ⟨j, fs, q1, q2⟩
    · exact ⟨.inl h, fun z => e4 (by rw [← z]; exact h)⟩
    · rw [get_set] at q1
      by_cases c : i = j ∧ j < env.length
      · rw [if_pos c] at q1; cases q1
      · rw [if_neg c] at q1
        exact ⟨.inr ⟨j, fs, q1, q2⟩, fun z => c ⟨E.one i j ds fs a h1 q1 e1 (by rw [← z]; exact q2), (List.getElem?_eq_some_iff.mp q1).1⟩⟩
  have kk : Keep (MM A σ env) (MM A σ (env.set i (.val (.lst ds)))) H H := keep_sub fun b h => (mm b h).1
  refine ⟨⟨E.ok, by rw [List.length_set]; exact E.len, fun j e h => ?_, fun j fs h => ?_, fun j k fs gs b q1 q2 q3 q4 => ?_, E.base⟩, kk⟩
  · rw [get_set] at h
    by_cases c : i = j ∧ j < env.length
    · rw [if_pos c] at h
      cases h
      exact ⟨.ref a, by rw [← c.1]; exact e1, .lst e2 (fun z => (mm a z).2 rfl) (e3.keep kk)⟩
    · rw [if_neg c] at h
      obtain ⟨w, q1, q2⟩ := E.val j e h
      exact ⟨w, q1, q2.keep kk⟩
  · rw [get_set] at h
    by_cases c : i = j ∧ j < env.length
    · rw [if_pos c] at h; cases h
    · rw [if_neg c] at h
      obtain ⟨b, ys, q1, q2, q3, q4, q5⟩ := E.own j fs h
      exact ⟨b, ys, q1, q2, q3.keep kk, q4, q5⟩
  · have g : ∀ {j : Nat} {fs : List D}, (env.set i (.val (.lst ds)))[j]? = some (.own fs) → env[j]? = some (.own fs) := fun {j fs} q => by
      rw [get_set] at q
      by_cases c : i = j ∧ j < env.length
      · rw [if_pos c] at q; cases q
      · rw [if_neg c] at q
        exact q
    exact E.one j k fs gs b (g q1) (g q2) q3 q4
/-- a slot is forgotten -/
theorem ERep.forget {i : Nat} (E : ERep A H σ env) : ERep A H (σ.set i none) (env.set i .un) ∧ Keep (MM A σ env) (MM A (σ.set i none) (env.set i .un)) H H := by
  have mm : ∀ b, MM A (σ.set i none) (env.set i .un) b → MM A σ env b := fun b h => by
    rcases h with h | ⟨j, fs, q1, q2⟩
    · exact .inl h
    · rw [get_set] at q1 q2
      by_cases c : i = j ∧ j < env.length
      · rw [if_pos c] at q1; cases q1
      · rw [if_neg c] at q1
        rw [if_neg (by rw [← E.len]; exact c)] at q2
        exact .inr ⟨j, fs, q1, q2⟩
  have kk : Keep (MM A σ env) (MM A (σ.set i none) (env.set i .un)) H H := keep_sub mm
  refine ⟨⟨E.ok, by rw [List.length_set, List.length_set]; exact E.len, fun j e h => ?_, fun j fs h => ?_, fun j k fs gs b q1 q2 q3 q4 => ?_, E.base⟩, kk⟩
  · rw [get_set] at h
    by_cases c : i = j ∧ j < env.length
    · rw [if_pos c] at h; cases h
    · rw [if_neg c] at h
      obtain ⟨w, q1, q2⟩ := E.val j e h
      exact ⟨w, by rw [get_set, if_neg (by rw [← E.len]; exact c)]; exact q1, q2.keep kk⟩
  · rw [get_set] at h
    by_cases c : i = j ∧ j < env.length
    · rw [if_pos c] at h; cases h
    · rw [if_neg c] at h
      obtain ⟨b, ys, q1, q2, q3, q4, q5⟩ := E.own j fs h
      exact ⟨b, ys, by rw [get_set, if_neg (by rw [← E.len]; exact c)]; exact q1, q2, q3.keep kk, q4, q5⟩
  · rw [get_set] at q1 q2 q3 q4
    by_cases c : i = j ∧ j < env.length
    · rw [if_pos c] at q1; cases q1
    · by_cases c2 : i = k ∧ k < env.length
      · rw [if_pos c2] at q2; cases q2
      · rw [if_neg c] at q1
        rw [if_neg c2] at q2
        rw [if_neg (by rw [← E.len]; exact c)] at q3
        rw [if_neg (by rw [← E.len]; exact c2)] at q4
        exact E.one j k fs gs b q1 q2 q3 q4
/-- data for the caller -/
theorem ERep.toRep0 (E : ERep A H σ env) {v : V} {d : D} (r : Rep A.R (MM A σ env) H v d) : Rep A.R A.M0 H v d := r.keep (keep_sub fun _ z => .inl z)
theorem ERep.retRep (E : ERep A H σ env) (hf : A.fr = false) {v : V} {d : D} (r : Rep A.R (MM A σ env) H v d) : RetRep A H v d := by
  unfold RetRep
  rw [hf, if_neg Bool.false_ne_true]
  exact E.toRep0 r
end
section
variable {X : Cx} {A : Act} {W : WX}
/-! ### blocks -/
def dnext : DS := fun K env => K.nx env
def dseq (s t : DS) : DS := fun K env => s { K with nx := fun env' => t K env' } env
theorem gss_nil : GSs X A W [] dnext := ⟨pss_imp pss_nil fun De σ H ⟨env, K, E, h, q, _⟩ => q σ H env (Keep.refl _ _) E h⟩
theorem gss_one {st : Stmt} {s : DS} (h : GS X A W st s) : GSs X A W [st] s := ⟨pss_one h.p⟩
theorem gss_cons {st : Stmt} {rest : List Stmt} {s t : DS} (h1 : GS X A W st s) (h2 : GSs X A W rest t) : GSs X A W (st :: rest) (dseq s t) := by
  refine ⟨pss_imp (pss_cons h1.p h2.p) fun De σ H ⟨env, K, E, h, q1, q2, q3, q4, q5⟩ => ?_⟩
  refine ⟨env, _, E, h, fun σ' H' env' kk E' h' => ?_, q2, q3, q4, q5⟩
  exact ⟨env', K, E', h', fun σ2 H2 env2 k2 => q1 σ2 H2 env2 (kk.trans k2), fun σ2 H2 env2 k2 => q2 σ2 H2 env2 (kk.trans k2), fun σ2 H2 env2 k2 => q3 σ2 H2 env2 (kk.trans k2), q4, fun x c dd σ2 H2 env2 k2 => q5 x c dd σ2 H2 env2 (kk.trans k2)⟩
/-- the way from a statement's end to the end of an expression in it -/
theorem xout_of {K : KEnd} {σ : St} {H : Hp} {env : DEnv} (E : ERep A H σ env)
    (q : ∀ x cls dd σ' H' env', Keep (MM A σ env) (MM A σ' env') H H' → ERep A H' σ' env' → XRep A.R (MM A σ' env') H' cls dd x → K.ex x env' → W cls dd σ' H') : XOut A W σ env H fun x => K.ex x env :=
  fun x cls dd H' s r e => q x cls dd σ H' env (E.keep s) (E.stp s) r e
/-! ### x = e -/
def dasg (i : Nat) (g : DE) : DS := fun K env => g env (fun d => K.nx (env.set i (.val d))) fun x => K.ex x env
theorem gs_asg {i : Nat} {x : Str} {e : Expr} {g : DE} {pos pos' : Pos} (he : GE X A W e g) (hN : X.N.Nodup) (hi : X.N[i]? = some x) (hx : Loc X.env.scope x) (hs : swapsWith e (some (.Name x pos')) pos.line X.env = pure false := by rfl)
    (hf : X.fn x = true ∨ X.env.scope.names.lookup x = some .local := by first | exact .inl rfl | exact .inr rfl | assumption) : GS X A W (.Assign [.Name x pos'] e pos) (dasg i g) := by
  refine ⟨ps_imp (ps_set hN hi hx he.p hs hf) fun De σ H ⟨env, K, E, h, q1, q2, q3, q4, q5⟩ => ?_⟩
  refine toE_step E h (xout_of E q5) fun v d H1 s E1 _ r h1 => ?_
  exact q1 _ H1 _ ((E.keep s).trans E1.setKeep) (E1.set r) h1
/-! ### new lists -/
abbrev DF := DEnv → (List D → Prop) → (Ex → Prop) → Prop
def toF (A : Act) (W : WX) (g : DF) : TE := fun σ H Q => ∃ (env : DEnv) (Qd : List D → Prop) (Ed : Ex → Prop), ERep A H σ env ∧ g env Qd Ed ∧
  (∀ p vs ds H', H p = none → Stp A.R H H' → H' p = some (.lst vs) → RepL A.R (fun a => MM A σ env a ∨ a = p) H' vs ds → Qd ds → Q (.ref p) H') ∧ XOut A W σ env H Ed
structure GF (X : Cx) (A : Act) (W : WX) (e : Expr) (g : DF) : Prop where
  p : PE X e (toF A W g)
def dfv (g : DF) : DE := fun env Q Ed => g env (fun ds => Q (.lst ds)) Ed
theorem GF.e {e : Expr} {g : DF} (h : GF X A W e g) : GE X A W e (dfv g) := by
  refine ⟨pe_imp h.p fun σ H Q ⟨env, Qd, Ed, E, h, q, x⟩ => ⟨env, _, Ed, E, h, fun p vs ds H' hp s e r hq => ?_, x⟩⟩
  have E' := E.stp s
  exact q _ _ H' s (.lst e (E.fresh hp) (r.keep (keep_sub fun a z => .inl z))) hq
def dflst (gs : DL) : DF := fun env Q Ed => gs env (fun ds => ds.length ≤ LINE ∧ Q ds) Ed
theorem gf_lst {es : List Expr} {pos} {gs : DL} (h : GL X A W es gs) : GF X A W (.List es pos) (dflst gs) := by
  refine ⟨pe_imp (pe_lst h.p) fun σ H Q ⟨env, Qd, Ed, E, h, q, x⟩ => ?_⟩
  refine ⟨env, _, Ed, E, h, fun vs ds H' s r hq => ⟨by rw [r.length, line_is]; exact hq.1, fun p hp => ?_⟩, x⟩
  have E' := E.stp s
  have s2 : Stp A.R H' (upd H' p (.lst vs)) := Stp.new hp
  refine q p vs ds _ (Stp.none E.inv s hp) (s.trans s2) upd_same (r.keep ⟨(E'.keep s2).k, fun a z => ?_⟩) hq.2
  rcases z with z | z
  · exact .inl z
  · exact .inr (by rw [z]; exact hp)
def dasgO (i : Nat) (g : DF) : DS := fun K env => g env (fun ds => K.nx (env.set i (.own ds))) fun x => K.ex x env
theorem gs_asgO {i : Nat} {x : Str} {e : Expr} {g : DF} {pos pos' : Pos} (he : GF X A W e g) (hN : X.N.Nodup) (hi : X.N[i]? = some x) (hx : Loc X.env.scope x) (hs : swapsWith e (some (.Name x pos')) pos.line X.env = pure false := by rfl)
    (hf : X.fn x = true ∨ X.env.scope.names.lookup x = some .local := by first | exact .inl rfl | exact .inr rfl | assumption) : GS X A W (.Assign [.Name x pos'] e pos) (dasgO i g) := by
  refine ⟨ps_imp (ps_set hN hi hx he.p hs hf) fun De σ H ⟨env, K, E, h, q1, q2, q3, q4, q5⟩ => ?_⟩
  refine ⟨env, _, _, E, h, fun p vs ds H' hp s e r hq => ?_, xout_of E q5⟩
  obtain ⟨E2, k2⟩ := E.setOwn (i := i) hp s e r
  exact q1 _ H' _ k2 E2 hq
/-! ### if, return, raise -/
def dif (c : DB) (s t : DS) : DS := fun K env => c env (fun b => if b = true then s K env else t K env) fun x => K.ex x env
theorem gs_if {c : Expr} {a b : List Stmt} {pos : Pos} {gc : DB} {s t : DS} (hc : GT X A W c gc) (ha : GSs X A W a s) (hb : GSs X A W b t) : GS X A W (.If c a b pos) (dif gc s t) := by
  refine ⟨ps_imp (ps_if hc.p ha.p hb.p) fun De σ H ⟨env, K, E, h, q1, q2, q3, q4, q5⟩ => ?_⟩
  refine ⟨env, _, _, E, h, fun d H' s2 hd => ?_, xout_of E q5⟩
  have E' := E.stp s2
  have kk := E.keep s2
  have go : ∀ {u : DS}, u K env → toS A W u De σ H' := fun hu => ⟨env, K, E', hu, fun σ2 H2 env2 k2 => q1 σ2 H2 env2 (kk.trans k2), fun σ2 H2 env2 k2 => q2 σ2 H2 env2 (kk.trans k2), fun σ2 H2 env2 k2 => q3 σ2 H2 env2 (kk.trans k2), q4, fun x c dd σ2 H2 env2 k2 => q5 x c dd σ2 H2 env2 (kk.trans k2)⟩
  cases d with
  | true => exact go hd
  | false => exact go hd
def dret (g : DE) : DS := fun K env => g env (fun d => K.rt d env) fun x => K.ex x env
theorem gs_ret {e : Expr} {g : DE} {pos : Pos} (he : GE X A W e g) (hf : A.fr = false := by rfl) : GS X A W (.Return (some e) pos) (dret g) := by
  refine ⟨ps_imp (ps_ret he.p) fun De σ H ⟨env, K, E, h, q1, q2, q3, q4, q5⟩ => ?_⟩
  refine toE_step E h (xout_of E q5) fun v d H1 s E1 _ r h1 => ?_
  exact q4 v d σ H1 env E1 (E1.retRep hf r) h1
def dretN : DS := fun K env => K.rt .non env
/-- a new list is handed back -/
def dretF (g : DF) : DS := fun K env => g env (fun ds => K.rt (.lst ds) env) fun x => K.ex x env
theorem gs_retF {e : Expr} {g : DF} {pos : Pos} (he : GF X A W e g) (hf : A.fr = true := by rfl) : GS X A W (.Return (some e) pos) (dretF g) := by
  refine ⟨ps_imp (ps_ret he.p) fun De σ H ⟨env, K, E, h, q1, q2, q3, q4, q5⟩ => ?_⟩
  refine ⟨env, _, _, E, h, fun p vs ds H' hp s e r hq => ?_, xout_of E q5⟩
  refine q4 _ _ σ H' env (E.stp s) ?_ hq
  unfold RetRep
  rw [hf, if_pos rfl]
  exact ⟨p, vs, ds, rfl, rfl, Stp.none E.ok.inv E.base hp, e, r.keep (keep_sub fun a z => z.elim (fun z => .inl (.inl z)) .inr)⟩
/-- a list of the def's own is handed back -/
def dretO (i : Nat) : DS := fun K env => match env[i]? with
  | some (.own ds) => K.rt (.lst ds) env
  | _ => False
theorem gs_retO {i : Nat} {e : Expr} {pos : Pos} (he : PE X e (tVar i)) : GS X A W (.Return (some e) pos) (dretO i) := by
  refine ⟨ps_imp (ps_ret he) fun De σ H ⟨env, K, E, h, q1, q2, q3, q4, q5⟩ => ?_⟩
  unfold dretO at h
  cases e1 : env[i]? with
  | none => rw [e1] at h; exact h.elim
  | some s =>
    rw [e1] at h
    cases s with
    | un => exact h.elim
    | val d => exact h.elim
    | own ds =>
      obtain ⟨a, vs, h1, h2, h3, h4, h5⟩ := E.own i ds e1
      refine ⟨.ref a, h1, q4 _ _ σ H env E ?_ h⟩
      unfold RetRep
      by_cases c : A.fr = true
      · rw [if_pos c]
        exact ⟨a, vs, ds, rfl, rfl, h5, h2, h3.keep (keep_sub fun b z => z.elim .inl fun z => by rw [z]; exact .inr ⟨i, ds, e1, h1⟩)⟩
      · rw [if_neg c]
        exact .lst h2 h4 (h3.keep (keep_sub fun b z => .inl z))
/-- from here on slot i's list changes no more -/
def dfreeze (i : Nat) (s : DS) : DS := fun K env => match env[i]? with
  | some (.own ds) => s K (env.set i (.val (.lst ds)))
  | _ => False
theorem gss_freeze {i : Nat} {st : List Stmt} {s : DS} (h : GSs X A W st s) : GSs X A W st (dfreeze i s) := by
  refine ⟨pss_imp h.p fun De σ H ⟨env, K, E, h, q1, q2, q3, q4, q5⟩ => ?_⟩
  unfold dfreeze at h
  cases e1 : env[i]? with
  | none => rw [e1] at h; exact h.elim
  | some z =>
    rw [e1] at h
    cases z with
    | un => exact h.elim
    | val d => exact h.elim
    | own ds =>
      obtain ⟨E2, kk⟩ := E.freeze e1
      exact ⟨_, K, E2, h, fun σ2 H2 env2 k2 => q1 σ2 H2 env2 (kk.trans k2), fun σ2 H2 env2 k2 => q2 σ2 H2 env2 (kk.trans k2), fun σ2 H2 env2 k2 => q3 σ2 H2 env2 (kk.trans k2), q4, fun x c dd σ2 H2 env2 k2 => q5 x c dd σ2 H2 env2 (kk.trans k2)⟩
def dexpr (g : DE) : DS := fun K env => g env (fun _ => K.nx env) fun x => K.ex x env
theorem gs_expr {e : Expr} {g : DE} {pos : Pos} (he : GE X A W e g) (hs : swapsWith e none pos.line X.env = pure false := by rfl) : GS X A W (.Expr e pos) (dexpr g) := by
  refine ⟨ps_imp (ps_expr he.p hs) fun De σ H ⟨env, K, E, h, q1, q2, q3, q4, q5⟩ => ?_⟩
  exact toE_step E h (xout_of E q5) fun v d H1 s E1 _ r h1 => q1 σ H1 env (E.keep s) E1 h1
/-! ### lists of one's own that change -/
def dapp (i : Nat) (g : DE) : DS := fun K env => match env[i]? with
  | some (.own ds) => g env (fun d => ds.length < LINE ∧ K.nx (env.set i (.own (ds ++ [d])))) fun x => K.ex x env
  | _ => False
theorem own_of {env : DEnv} {i : Nat} {f : List D → Prop} (h : match env[i]? with
  | some (.own ds) => f ds
  | _ => False) : ∃ ds, env[i]? = some (.own ds) ∧ f ds := by
  cases e1 : env[i]? with
  | none => rw [e1] at h; exact h.elim
  | some z =>
    rw [e1] at h
    cases z with
    | un => exact h.elim
    | val d => exact h.elim
    | own ds => exact ⟨ds, rfl, h⟩
theorem gs_app {i : Nat} {o e : Expr} {g : DE} {pos cpos apos : Pos} (ho : PE X o (tVar i)) (he : GE X A W e g)
    (hS : ∀ te, PE X o (tVar i) → PE X e te → PS X (.Expr (.Call (.Attribute o "append" apos) [e] [] cpos) pos) (tDrop (tBM X.K "list" rAppend (tVar i) (tCons te tNil))) := by
      exact fun te ho h => ps_expr (pe_bm PySem.F.plainAttrs_list PySem.F.slot_list_append PySem.F.type_list_append mt_append ho (pa_cons h pa_nil))) :
    GS X A W (.Expr (.Call (.Attribute o "append" apos) [e] [] cpos) pos) (dapp i g) := by
  refine ⟨ps_imp (hS _ ho he.p) fun De σ H ⟨env, K, E, h, q1, q2, q3, q4, q5⟩ => ?_⟩
  obtain ⟨ds, e1, h⟩ := own_of h
  obtain ⟨a, vs, h1, h2, h3, h4, h5⟩ := E.own i ds e1
  refine ⟨.ref a, h1, .inl ⟨rfl, _, SqL.of h2⟩, toE_step E h (xout_of E q5) fun v d H1 s E1 _ r hq => ?_⟩
  obtain ⟨hz, hq⟩ := hq
  have g2 : H1 a = some (.lst vs) := s.k a _ h2 fun z => h4 (E.ok.st a z)
  refine ⟨a, vs, v, rfl, rfl, g2, by rw [h3.length, line_is]; exact hz, ?_⟩
  obtain ⟨E2, k2⟩ := E1.mut (us := vs) e1 h1 ((h3.keep (E.keep s)).append (.cons r .nil))
  exact q1 _ _ _ ((E.keep s).trans k2) E2 hq
/-- xs[k] = e -/
def dseti (i : Nat) (gk g : DE) : DS := fun K env => match env[i]? with
  | some (.own ds) => g env (fun d => gk env (fun k => ∃ n : Int, k = .int n ∧ ∃ j, ixN ds.length n = some j ∧ K.nx (env.set i (.own (ds.set j d)))) fun x => K.ex x env) fun x => K.ex x env
  | _ => False
theorem gs_seti {i : Nat} {o k e : Expr} {gk g : DE} {pos spos : Pos} (ho : PE X o (tVar i)) (hk : GE X A W k gk) (he : GE X A W e g) (hg : ∀ ti, PE X o (tVar i) → PE X k ti → PG X (.Subscript o k spos) (gSub (tVar i) ti rSetL) := by exact fun ti ho h => pg_sub ho h set_list)
    (hs : swapsWithSole [.Subscript o k spos] e pos.line X.env = pure false := by rfl) (hw : swappedStores [.Subscript o k spos] e X.env = pure none := by rfl)
    (h1 : (assignEach [.Subscript o k spos] X.env).map (·.2) = [assign (.Subscript o k spos) X.env] := by rfl) : GS X A W (.Assign [.Subscript o k spos] e pos) (dseti i gk g) := by
  refine ⟨ps_imp (ps_asg he.p (hg _ ho hk.p) hs hw h1) fun De σ H ⟨env, K, E, h, q1, q2, q3, q4, q5⟩ => ?_⟩
  obtain ⟨ds, e1, h⟩ := own_of h
  obtain ⟨a, vs, h1, h2, h3, h4, h5⟩ := E.own i ds e1
  refine toE_step E h (xout_of E q5) fun v d H1 s E1 x1 r hq => ?_
  refine ⟨.ref a, h1, toE_step E1 hq x1 fun kv kd H2 s2 E2 _ rk hq2 => ?_⟩
  obtain ⟨n, rfl, j, hj, hq3⟩ := hq2
  cases rk
  have g2 : H2 a = some (.lst vs) := (s.trans s2).k a _ h2 fun z => h4 (E.ok.st a z)
  refine ⟨a, vs, n, j, rfl, rfl, g2, by rw [h3.length]; exact hj, ?_⟩
  obtain ⟨E3, k3⟩ := E2.mut (us := vs) e1 h1 (RepL.set (r.keep (E1.keep s2)) j (h3.keep (E.keep (s.trans s2))))
  exact q1 _ _ _ ((E.keep (s.trans s2)).trans k3) E3 hq3
/-- xs.reverse() and its like: a method that changes the list alone, by its items -/
def dmut (i : Nat) (f : List D → List D) : DS := fun K env => match env[i]? with
  | some (.own ds) => (f ds).length ≤ LINE ∧ K.nx (env.set i (.own (f ds)))
  | _ => False
/-! ### targets -/
abbrev DG := D → DEnv → (DEnv → Prop) → Prop
abbrev DGs := List D → DEnv → (DEnv → Prop) → Prop
/-- but for the slots js all is as it was -/
def Only (js : List Nat) (σ σ' : St) : Prop := σ'.length = σ.length ∧ ∀ k, k ∉ js → σ'[k]? = σ[k]?
def toG (A : Act) (js : List Nat) (tg : DG) : TG := fun v σ H Q => ∃ (env : DEnv) (d : D) (Qe : DEnv → Prop), ERep A H σ env ∧ Rep A.R (MM A σ env) H v d ∧ tg d env Qe ∧
  ∀ σ' env', ERep A H σ' env' → Keep (MM A σ env) (MM A σ' env') H H → Only js σ σ' → Qe env' → Q σ' H
structure GG (X : Cx) (A : Act) (js : List Nat) (t : Expr) (tg : DG) : Prop where
  p : PG X t (toG A js tg)
def dname (i : Nat) : DG := fun d env Q => Q (env.set i (.val d))
theorem gg_name {i : Nat} {x : Str} {pos : Pos} (hN : X.N.Nodup) (hi : X.N[i]? = some x) (hx : Loc X.env.scope x) (hf : X.fn x = true ∨ X.env.scope.names.lookup x = some .local := by first | exact .inl rfl | exact .inr rfl | assumption) :
    GG X A [i] (.Name x pos) (dname i) :=
  ⟨⟨fun pins s σ H v u Q I r ⟨env, d, Qe, E, rd, h, q⟩ => (pg_name hN hi hx hf).run pins s σ H v u Q I r (q _ _ (E.set rd) E.setKeep ⟨List.length_set, fun k hk => by
    rw [List.getElem?_set_ne]
    intro z
    exact hk (by rw [z]; exact List.mem_singleton_self _)⟩ h)⟩⟩
def dgnil : DGs := fun ds env Q => ds = [] ∧ Q env
def dgcons (t : DG) (u : DGs) : DGs := fun ds env Q => match ds with
  | [] => False
  | d :: r => t d env fun env' => u r env' Q
/-- a, b = a tuple of as many -/
def dgtup (n : Nat) (u : DGs) : DG := fun d env Q => match d with
  | .tup ds => ds.length = n ∧ u ds env Q
  | _ => False
/-- target = e, any target -/
def dasgG (t : DG) (g : DE) : DS := fun K env => g env (fun d => t d env K.nx) fun x => K.ex x env
/-! ### what is walked -/
/-- J yields the data ds one after the other, whatever happens meanwhile outside of M -/
structure Walk (R : RC) (M : Addr → Prop) (H : Hp) (J : It) (ds : List D) : Prop where
  yld : ∀ (M' : Addr → Prop) (H' : Hp), Keep M M' H H' → (∀ a, H' a = none → ¬ M' a) → HInv R H' → ∀ i d, ds[i]? = some d → J.go i H' ∧ ∀ x H2, J.yld i H' x H2 → Stp R H' H2 ∧ Rep R M' H2 x d
  stop : ∀ (M' : Addr → Prop) (H' : Hp), Keep M M' H H' → J.stop ds.length H'
abbrev DI := DL
def toI (A : Act) (W : WX) (g : DI) : TI := fun σ H Q => ∃ (env : DEnv) (Qd : List D → Prop) (Ed : Ex → Prop), ERep A H σ env ∧ g env Qd Ed ∧
  (∀ J ds H', Stp A.R H H' → Walk A.R (MM A σ env) H' J ds → Qd ds → Q J H') ∧ XOut A W σ env H Ed
structure GI (X : Cx) (A : Act) (W : WX) (tg it : Expr) (g : DI) : Prop where
  p : PI X tg it (toI A W g)
theorem pi_imp {tg e : Expr} {t t' : TI} (h : PI X tg e t) (i : ∀ σ H Q, t' σ H Q → t σ H Q) : PI X tg e t' := ⟨fun pins s σ H Q I w => h.run pins s σ H Q I (i σ H Q w)⟩
def diL (g : DE) : DI := fun env Q Ed => g env (fun d => match d with
  | .lst ds => Q ds
  | _ => False) Ed
theorem walk_list {R : RC} {M : Addr → Prop} {H : Hp} {a : Addr} {xs : List V} {ds : List D} (K : PySem.W.Frag) (h : H a = some (.lst xs)) (n : ¬ M a) (r : RepL R M H xs ds) : Walk R M H (Itl K a) ds := by
  have key : ∀ {M' : Addr → Prop} {H' : Hp}, Keep M M' H H' → H' a = some (.lst xs) := fun k => k.k a _ h n
  have uniq : ∀ {H' : Hp} {ys : List V}, H' a = some (.lst xs) → Rd H' a (.lst ys) → xs = ys := fun {H' ys} e h => by
    rcases h with h | ⟨o, h⟩
    · rw [e] at h; cases h; rfl
    · rw [e] at h; cases h
  refine ⟨fun M' H' k hf hi i d e => ?_, fun M' H' k => ⟨xs, SqL.of (key k), by rw [r.length]; exact Nat.le_refl _⟩⟩
  obtain ⟨v, h1, h2⟩ := r.get e
  refine ⟨⟨xs, v, SqL.of (key k), h1⟩, fun x H2 y => ?_⟩
  obtain ⟨e2, y⟩ := y
  subst e2
  have e3 := y xs (SqL.of (key k))
  rw [h1] at e3
  cases e3
  exact ⟨Stp.refl _ _, h2.keep k⟩
theorem gi_list {tg e : Expr} {g : DE} (h : GE X A W e g) : GI X A W tg e (diL g) := by
  refine ⟨pi_imp (pi_list h.p) fun σ H Q ⟨env, Qd, Ed, E, h, q, x⟩ => ?_⟩
  refine toE_step E h x fun v d H1 s E1 _ r hd => ?_
  cases r <;> first | exact hd.elim | skip
  rename_i a xs ds e1 n rl
  exact ⟨a, rfl, ⟨xs, SqL.of e1⟩, q _ ds H1 s (walk_list _ e1 n rl) hd⟩
def diT (g : DE) : DI := fun env Q Ed => g env (fun d => match d with
  | .tup ds => Q ds
  | _ => False) Ed
theorem gi_tup {tg e : Expr} {g : DE} (hK : A.R.K = X.K) (h : GE X A W e g) : GI X A W tg e (diT g) := by
  refine ⟨pi_imp (pi_tup h.p) fun σ H Q ⟨env, Qd, Ed, E, h, q, x⟩ => ?_⟩
  refine toE_step E h x fun v d H1 s E1 _ r hd => ?_
  cases r <;> first | exact hd.elim | skip
  rename_i a xs ds ta rl
  refine ⟨a, rfl, ⟨xs, by rw [← hK]; exact ta.sq⟩, q _ ds H1 s ⟨fun M' H' k hf hi i d e => ?_, fun M' H' k => ⟨xs, by rw [← hK]; exact (ta.keep k).sq, by rw [rl.length]; exact Nat.le_refl _⟩⟩ hd⟩
  obtain ⟨v, h1, h2⟩ := rl.get e
  refine ⟨⟨xs, v, by rw [← hK]; exact (ta.keep k).sq, h1⟩, fun x H2 y => ?_⟩
  obtain ⟨e2, y⟩ := y
  subst e2
  have e3 := y xs (by rw [← hK]; exact (ta.keep k).sq)
  rw [h1] at e3
  cases e3
  exact ⟨Stp.refl _ _, h2.keep k⟩
def rngD (lo : Int) (n : Nat) : List D := (List.range n).map fun (i : Nat) => D.int (lo + (i : Int))
theorem rngD_get {lo : Int} {n i : Nat} : (rngD lo n)[i]? = if i < n then some (.int (lo + (i : Int))) else none := by
  unfold rngD
  rw [List.getElem?_map]
  by_cases h : i < n
  · rw [List.getElem?_range h, if_pos h]
    rfl
  · rw [List.getElem?_eq_none (by rw [List.length_range]; omega), if_neg h]
    rfl
theorem rngD_len {lo : Int} {n : Nat} : (rngD lo n).length = n := by
  unfold rngD
  rw [List.length_map, List.length_range]
theorem walk_rng {R : RC} {M : Addr → Prop} {H : Hp} (lo : Int) (n : Nat) : Walk R M H (Itr lo n) (rngD lo n) := by
  refine ⟨fun M' H' k hf hi i d e => ?_, fun M' H' k => by rw [rngD_len]; exact Nat.le_refl _⟩
  rw [rngD_get] at e
  by_cases c : i < n
  · rw [if_pos c] at e
    cases e
    refine ⟨c, fun x H2 y => ?_⟩
    obtain ⟨rfl, rfl⟩ := y
    exact ⟨Stp.refl _ _, .int _⟩
  · rw [if_neg c] at e; cases e
def diR1 (gs : DL) : DI := fun env Q Ed => gs env (fun ds => match ds with
  | [.int j] => -(2 ^ 62) ≤ j ∧ j < 2 ^ 62 ∧ Q (rngD 0 j.toNat)
  | _ => False) Ed
def diR2 (gs : DL) : DI := fun env Q Ed => gs env (fun ds => match ds with
  | [.int i, .int j] => (-(2 ^ 62) ≤ i ∧ i < 2 ^ 62 ∧ -(2 ^ 62) ≤ j ∧ j < 2 ^ 62) ∧ Q (rngD i (j - i).toNat)
  | _ => False) Ed
theorem gi_rng1 {tg a : Expr} {gs : DL} {p pos : Pos} (hg : Gl X "range") (hm : X.mg "range" = none) (ha : GL X A W [a] gs) (hs : starEach [a] X.env = [(false, eval a X.env)] := by rfl) : GI X A W tg (.Call (.Name "range" p) [a] [] pos) (diR1 gs) := by
  refine ⟨pi_imp (pi_range1 hg hm ha.p hs) fun σ H Q ⟨env, Qd, Ed, E, h, q, x⟩ => ⟨env, _, Ed, E, h, fun vs ds H' s r hd => ?_, x⟩⟩
  match ds, r, hd with
  | [.int j], .cons (.int _) .nil, hd => exact ⟨j, rfl, hd.1, hd.2.1, q _ _ H' s (walk_rng 0 j.toNat) hd.2.2⟩
/-- the signs of a text -/
def sgnD (x : Str) : List D := x.cps.toList.map fun c => .str ⟨#[c]⟩
def diS (g : DE) : DI := fun env Q Ed => g env (fun d => match d with
  | .str x => Q (sgnD x)
  | _ => False) Ed
theorem gi_str {tg e : Expr} {g : DE} (h : GE X A W e g) : GI X A W tg e (diS g) := by
  refine ⟨pi_imp (pi_str h.p) fun σ H Q ⟨env, Qd, Ed, E, h, q, x⟩ => ?_⟩
  refine toE_step E h x fun v d H1 s E1 _ r hd => ?_
  cases r <;> first | exact hd.elim | skip
  rename_i z
  refine ⟨z, rfl, q _ (sgnD z) H1 s ⟨fun M' H' k hf hi i d e => ?_, fun M' H' k => ?_⟩ hd⟩
  · unfold sgnD at e
    rw [List.getElem?_map, Array.getElem?_toList] at e
    cases c : z.cps[i]? with
    | none => rw [c] at e; cases e
    | some u =>
      rw [c] at e
      cases e
      refine ⟨(Array.getElem?_eq_some_iff.mp c).1, fun x H2 y => ?_⟩
      obtain ⟨rfl, w, e2, rfl⟩ := y
      rw [c] at e2
      cases e2
      exact ⟨Stp.refl _ _, .str _⟩
  · show z.cps.size ≤ (sgnD z).length
    unfold sgnD
    rw [List.length_map, Array.length_toList]
    exact Nat.le_refl _
/-! ### for -/
@[irreducible] def dfor (gi : DI) (t : DG) (s : DS) : DS := fun K env => gi env (fun ds => ∃ I : Nat → DEnv → Prop, I 0 env ∧
  (∀ i d env', ds[i]? = some d → I i env' → t d env' fun env2 => s { K with nx := I (i + 1), ct := I (i + 1), bk := K.nx } env2) ∧ ∀ env', I ds.length env' → K.nx env') fun x => K.ex x env
theorem gs_for {tg iter : Expr} {body : List Stmt} {gi : DI} {t : DG} {s : DS} {pos : Pos} {js : List Nat} (hp : PassesOwn (model X.prog X.w) X.A X.env X.xe) (hc : X.calm = true) (hi : GI X A W tg iter gi) (ht : GG X A js tg t) (hb : GSs X A W body s)
    (hs : ∀ x, foldedSetIterable iter X.env x = pure x := by intro _; rfl) : GS X A W (.For tg iter body [] pos) (dfor gi t s) := by
  refine ⟨ps_imp (ps_for hp hc hi.p ht.p hb.p hs) fun De σ H ⟨env, K, E, h, q1, q2, q3, q4, q5⟩ => ?_⟩
  unfold dfor at h
  refine ⟨env, _, _, E, h, fun J ds H1 s1 wk hd => ?_, xout_of E q5⟩
  obtain ⟨I, i0, it, ie⟩ := hd
  have E1 := E.stp s1
  have k1 := E.keep s1
  refine ⟨fun i m σ' H' => m = ds.length - i ∧ i ≤ ds.length ∧ ∃ env', ERep A H' σ' env' ∧ Keep (MM A σ env) (MM A σ' env') H1 H' ∧ I i env', ⟨ds.length, rfl, Nat.zero_le _, env, E1, Keep.refl _ _, i0⟩, ?_⟩
  rintro i m σ' H' ⟨rfl, hi, env', E', k', hI⟩
  by_cases hlt : i < ds.length
  · have e : ds[i]? = some ds[i] := List.getElem?_eq_getElem hlt
    obtain ⟨g1, g2⟩ := wk.yld _ H' k' (fun a z => E'.fresh z) E'.inv i _ e
    refine .inr ⟨g1, fun σ2 H2 => ∃ env2, ERep A H2 σ2 env2 ∧ Keep (MM A σ env) (MM A σ2 env2) H1 H2 ∧ I (i + 1) env2, fun σ2 H2 ⟨env2, E2, k2, h2⟩ => ⟨_, by omega, rfl, hlt, env2, E2, k2, h2⟩, fun x H2 y => ?_⟩
    obtain ⟨s2, rx⟩ := g2 x H2 y
    have E2 := E'.stp s2
    have k2 := k'.trans (E'.keep s2)
    refine ⟨env', _, _, E2, rx, it i _ env' e hI, fun σ3 env3 E3 k3 _ h3 => ?_⟩
    have k4 := k2.trans k3
    exact ⟨env3, _, E3, h3, fun σ4 H4 env4 kk EE hh => ⟨env4, EE, k4.trans kk, hh⟩, fun σ4 H4 env4 kk EE hh => q1 σ4 H4 env4 (k1.trans (k4.trans kk)) EE hh, fun σ4 H4 env4 kk EE hh => ⟨env4, EE, k4.trans kk, hh⟩, q4,
      fun x c dd σ4 H4 env4 kk => q5 x c dd σ4 H4 env4 (k1.trans (k4.trans kk))⟩
  · have e : i = ds.length := by omega
    subst e
    exact .inl ⟨wk.stop _ H' k', q1 σ' H' env' (k1.trans k') E' (ie env' hI)⟩
/-! ### while -/
end
end Nb
set_option maxRecDepth 100000
set_option maxHeartbeats 2000000
/-! Nb: operators, calls of built-ins, comprehensions. -/
namespace Nb
open PySem PySem.Spec PyProof.Rows L2
section
variable {X : Cx} {A : Act} {W : WX}
/-! ### + -/
def dAdd (x y : D) (Q : D → Prop) : Prop := match x, y with
  | .int i, .int j => Q (.int (i + j))
  | .str i, .str j => i.length + j.length ≤ LINE ∧ Q (.str (i ++ j))
  | .lst i, .lst j => i.length + j.length ≤ LINE ∧ Q (.lst (i ++ j))
  | .tup i, .tup j => i ≠ [] ∧ i.length + j.length ≤ LINE ∧ Q (.tup (i ++ j))
  | _, _ => False
def rAddAll (K : PySem.W.Frag) : R2 := fun x y H Q => rI0 (fun i j => .int (i + j)) x y H Q ∨ ((∃ i j, x = .str i ∧ y = .str j ∧ i.length + j.length ≤ sizeLine ∧ Q (.str (i ++ j)) H) ∨ (rCat x y H Q ∨ rCatT K x y H Q))
theorem op_addAll : OpR X (binaryOp .Add) (rAddAll X.K) := op_add.or (op_add_str.or (op_cat.or op_catT))
theorem od_add : OpD A (rAddAll A.R.K) dAdd := by
  intro M H x y d e Q Qd hst hf rx ry h k
  match d, e, rx, ry, h with
  | .int i, .int j, .int _, .int _, h => exact .inl ⟨i, j, rfl, rfl, k _ _ H (Stp.refl _ _) (.int _) h⟩
  | .str i, .str j, .str _, .str _, h => exact .inr (.inl ⟨i, j, rfl, rfl, by rw [line_is]; exact h.1, k _ _ H (Stp.refl _ _) (.str _) h.2⟩)
  | .lst i, .lst j, .lst (a := a) (xs := xs) e1 n1 r1, .lst (a := b) (xs := ys) e2 n2 r2, h =>
    refine .inr (.inr (.inl ⟨a, b, xs, ys, rfl, rfl, e1, e2, by rw [r1.length, r2.length, line_is]; exact h.1, fun p hp => ?_⟩))
    have s : Stp A.R H (upd H p (.lst (xs ++ ys))) := Stp.new hp
    exact k _ _ _ s (.lst upd_same (hf p hp) ((r1.append r2).keep (s.keep hst))) h.2
  | .tup i, .tup j, .tup (a := a) (xs := xs) t1 r1, .tup (a := b) (xs := ys) t2 r2, h =>
    have hx : xs ≠ [] := fun z => h.1 (by cases r1 with
      | nil => rfl
      | cons _ _ => cases z)
    refine .inr (.inr (.inr ⟨a, b, xs, ys, rfl, rfl, t1.sq, t2.sq, hx, by rw [r1.length, r2.length, line_is]; exact h.2.1, fun z => ?_, fun z p hp => ?_⟩))
    · subst z
      cases r2
      refine k _ _ H (Stp.refl _ _) (.tup t1 r1) ?_
      have := h.2.2
      rw [List.append_nil] at this
      exact this
    · have s : Stp A.R H (upd H p (.tup (xs ++ ys))) := Stp.new hp
      exact k _ _ _ s (.tup (TAt.new (hf p hp)) ((r1.append r2).keep (s.keep hst))) h.2.2
theorem ge_add {a b : Expr} {pos} {ga gb : DE} (ha : GE X A W a ga) (hb : GE X A W b gb) (hK : A.R.K = X.K := by rfl) : GE X A W (.BinOp a .Add b pos) (dop dAdd ga gb) := ge_bin op_addAll (hK ▸ od_add) ha hb
/-! ### ints -/
theorem od_I {C : Int → Int → Prop} {g : Int → Int → V} {gd : Int → Int → D} (hg : ∀ (M : Addr → Prop) (H : Hp) i j, Rep A.R M H (g i j) (gd i j)) : OpD A (rI C g) (fun x y Q => match x, y with
  | .int i, .int j => C i j ∧ Q (gd i j)
  | _, _ => False) := by
  intro M H x y d e Q Qd hst hf rx ry h k
  match d, e, rx, ry, h with
  | .int i, .int j, .int _, .int _, h => exact ⟨i, j, rfl, rfl, h.1, k _ _ H (Stp.refl _ _) (hg _ _ _ _) h.2⟩
theorem od_I0 {g : Int → Int → V} {gd : Int → Int → D} (hg : ∀ (M : Addr → Prop) (H : Hp) i j, Rep A.R M H (g i j) (gd i j)) : OpD A (rI0 g) (fun x y Q => match x, y with
  | .int i, .int j => Q (gd i j)
  | _, _ => False) := by
  intro M H x y d e Q Qd hst hf rx ry h k
  match d, e, rx, ry, h with
  | .int i, .int j, .int _, .int _, h => exact ⟨i, j, rfl, rfl, k _ _ H (Stp.refl _ _) (hg _ _ _ _) h⟩
def dII (C : Int → Int → Prop) (g : Int → Int → Int) (x y : D) (Q : D → Prop) : Prop := match x, y with
  | .int i, .int j => C i j ∧ Q (.int (g i j))
  | _, _ => False
def dI0 (g : Int → Int → Int) (x y : D) (Q : D → Prop) : Prop := match x, y with
  | .int i, .int j => Q (.int (g i j))
  | _, _ => False
def dB0 (g : Int → Int → Bool) (x y : D) (Q : D → Prop) : Prop := match x, y with
  | .int i, .int j => Q (.bl (g i j))
  | _, _ => False
abbrev CMulA (i j : Int) : Prop := CMul i j ∨ CMulW i j
abbrev CDivA (i j : Int) : Prop := CDiv i j ∨ CDivW i j
abbrev CPos (_ j : Int) : Prop := 0 < j
abbrev dSub := dI0 fun i j => i - j
abbrev dFdiv := dII CDivA fun i j => i / j
abbrev dMod := dII CPos fun i j => i % j
abbrev dPow := dII CPow fun i j => i ^ j.toNat
theorem op_mulA : OpR X (binaryOp .Mult) (rI CMulA fun i j => .int (i * j)) := opI fun _ _ _ _ _ _ _ hc q => mul_int q (hc.elim CMul.ok CMulW.ok)
theorem op_fdivA : OpR X (binaryOp .FloorDiv) (rI CDivA fun i j => .int (i / j)) := by
  intro pins s σ H x y v u Q I rx ry h
  obtain ⟨i, j, rfl, rfl, hc, q⟩ := h
  rcases hc with hc | hc
  · exact op_fdiv pins s σ H _ _ v u Q I rx ry ⟨i, j, rfl, rfl, hc, q⟩
  · exact op_fdivW pins s σ H _ _ v u Q I rx ry ⟨i, j, rfl, rfl, hc, q⟩
/-- products: of ints; a list n times -/
def dMul (x y : D) (Q : D → Prop) : Prop := match x, y with
  | .int i, .int j => CMulA i j ∧ Q (.int (i * j))
  | .lst xs, .int j => (-(2 ^ 63) ≤ j ∧ j < 2 ^ 63 ∧ xs.length * j.toNat ≤ LINE) ∧ Q (.lst (List.replicate j.toNat xs).flatten)
  | _, _ => False
def rMulAll : R2 := fun x y H Q => rI CMulA (fun i j => .int (i * j)) x y H Q ∨ rRep x y H Q
theorem op_mulAll : OpR X (binaryOp .Mult) rMulAll := op_mulA.or op_rep
theorem RepL.rep {R : RC} {M : Addr → Prop} {H : Hp} {vs : List V} {ds : List D} (r : RepL R M H vs ds) : ∀ n : Nat, RepL R M H (List.replicate n vs).flatten (List.replicate n ds).flatten
  | 0 => .nil
  | n + 1 => by
    rw [List.replicate_succ, List.replicate_succ, List.flatten_cons, List.flatten_cons]
    exact r.append (RepL.rep r n)
theorem od_mul : OpD A rMulAll dMul := by
  intro M H x y d e Q Qd hst hf rx ry h k
  match d, e, rx, ry, h with
  | .int i, .int j, .int _, .int _, h => exact .inl ⟨i, j, rfl, rfl, h.1, k _ _ H (Stp.refl _ _) (.int _) h.2⟩
  | .lst xs, .int j, .lst (a := a) (xs := vs) e1 n1 r1, .int _, h =>
    refine .inr ⟨a, j, vs, rfl, rfl, e1, h.1.1, h.1.2.1, by rw [r1.length, line_is]; exact h.1.2.2, fun p hp => ?_⟩
    have s : Stp A.R H (upd H p (.lst (List.replicate j.toNat vs).flatten)) := Stp.new hp
    exact k _ _ _ s (.lst upd_same (hf p hp) ((r1.rep _).keep (s.keep hst))) h.2
theorem ge_mul {a b : Expr} {pos} {ga gb : DE} (ha : GE X A W a ga) (hb : GE X A W b gb) : GE X A W (.BinOp a .Mult b pos) (dop dMul ga gb) := ge_bin op_mulAll od_mul ha hb
theorem ge_subI {a b : Expr} {pos} {ga gb : DE} (ha : GE X A W a ga) (hb : GE X A W b gb) : GE X A W (.BinOp a .Sub b pos) (dop dSub ga gb) := ge_bin op_sub (od_I0 fun _ _ _ _ => .int _) ha hb
theorem ge_fdiv {a b : Expr} {pos} {ga gb : DE} (ha : GE X A W a ga) (hb : GE X A W b gb) : GE X A W (.BinOp a .FloorDiv b pos) (dop dFdiv ga gb) := ge_bin op_fdivA (od_I fun _ _ _ _ => .int _) ha hb
theorem ge_mod {a b : Expr} {pos} {ga gb : DE} (ha : GE X A W a ga) (hb : GE X A W b gb) : GE X A W (.BinOp a .Mod b pos) (dop dMod ga gb) := ge_bin op_mod (od_I fun _ _ _ _ => .int _) ha hb
theorem ge_pow {a b : Expr} {pos} {ga gb : DE} (ha : GE X A W a ga) (hb : GE X A W b gb) : GE X A W (.BinOp a .Pow b pos) (dop dPow ga gb) := ge_bin op_pow (od_I fun _ _ _ _ => .int _) ha hb
def dNeg (g : DE) : DE := fun env Q Ed => g env (fun d => match d with
  | .int i => Q (.int (-i))
  | _ => False) Ed
abbrev dLt := dB0 fun i j => decide (i < j)
abbrev dLe := dB0 fun i j => decide (i ≤ j)
abbrev dGt := dB0 fun i j => decide (j < i)
abbrev dGe := dB0 fun i j => decide (j ≤ i)
/-! ### data as the library's data, ==, != -/
mutual
def D.py : D → Option PyData
  | .non => some .none
  | .bl b => some (.bool b)
  | .int i => some (.int i)
  | .str x => some (.str x)
  | .tup ds => (D.pys ds).map .tuple
  | .lst ds => (D.pys ds).map .list
  | .ty _ => none
  | .sto => none
  | .exc _ _ => none
  | .ins _ _ => none
  | .dct => none
def D.pys : List D → Option (List PyData)
  | [] => some []
  | d :: ds => (D.py d).bind fun x => (D.pys ds).map fun xs => x :: xs
end
mutual
theorem Rep.dp {R : RC} {M : Addr → Prop} {H : Hp} : ∀ {v : V} {d : D} {p : PyData}, Rep R M H v d → D.py d = some p → Dp R.K H v p
  | _, _, _, .non, e => by rw [D.py] at e; cases e; exact .non
  | _, _, _, .bl b, e => by rw [D.py] at e; cases e; exact .bl b
  | _, _, _, .int i, e => by rw [D.py] at e; cases e; exact .int i
  | _, _, _, .str x, e => by rw [D.py] at e; cases e; exact .str x
  | _, _, _, .ty n, e => by rw [D.py] at e; cases e
  | _, .tup ds, p, .tup t r, e => by
    rw [D.py] at e
    cases c : D.pys ds with
    | none => rw [c] at e; cases e
    | some ps =>
      rw [c] at e
      cases e
      exact .tup t.sq (RepL.dp r c)
  | _, .lst ds, p, .lst e1 n r, e => by
    rw [D.py] at e
    cases c : D.pys ds with
    | none => rw [c] at e; cases e
    | some ps =>
      rw [c] at e
      cases e
      exact .lst (SqL.of e1) (RepL.dp r c)
  | _, _, _, .sto _, e => by rw [D.py] at e; cases e
  | _, _, _, .exc0 _ _, e => by rw [D.py] at e; cases e
  | _, _, _, .excF _ _ _ _ _, e => by rw [D.py] at e; cases e
  | _, _, _, .ins _ _ _ _, e => by rw [D.py] at e; cases e
  | _, _, _, .dct _ _, e => by rw [D.py] at e; cases e
theorem RepL.dp {R : RC} {M : Addr → Prop} {H : Hp} : ∀ {v : List V} {d : List D} {p : List PyData}, RepL R M H v d → D.pys d = some p → DpAll R.K H v p
  | _, _, _, .nil, e => by rw [D.pys] at e; cases e; exact .nil
  | _, d :: ds, _, .cons a b, e => by
    rw [D.pys] at e
    cases c1 : D.py d with
    | none => rw [c1] at e; cases e
    | some x =>
      rw [c1, Option.bind_some] at e
      cases c2 : D.pys ds with
      | none => rw [c2] at e; cases e
      | some xs =>
        rw [c2] at e
        cases e
        exact .cons (Rep.dp a c1) (RepL.dp b c2)
end
/-- a shape that the comparison may walk -/
def Shp (d : D) : Prop := ∃ p, D.py d = some p ∧ SeqAt.shaped p = true
def D.eqv (d e : D) : Bool := match D.py d, D.py e with
  | some a, some b => PyData.eqv a b
  | _, _ => false
/-- kinds whose comparison asks no shape -/
def scD : D → D → Bool
  | .int _, .int _ | .str _, .str _ | .bl _, .bl _ | .non, .non | .non, .int _ | .int _, .non | .non, .str _ | .str _, .non | .non, .bl _ | .bl _, .non | .int _, .str _ | .str _, .int _ => true
  | _, _ => false
def dEq (x y : D) (Q : D → Prop) : Prop := (scD x y = true ∨ (Shp x ∧ Shp y)) ∧ Q (.bl (D.eqv x y))
def dNe (x y : D) (Q : D → Prop) : Prop := (scD x y = true ∨ (Shp x ∧ Shp y)) ∧ Q (.bl (!D.eqv x y))
theorem eqv_int (i j : Int) : D.eqv (.int i) (.int j) = (i == j) := rfl
theorem eqv_str (i j : Str) : D.eqv (.str i) (.str j) = (i == j) := rfl
theorem eqv_bl (i j : Bool) : D.eqv (.bl i) (.bl j) = (i == j) := rfl
theorem op_eqA (hu : X.A.units + 64 < cLine) : OpR X (compareOp .Eq) (fun x y H Q => rEq x y H Q ∨ rEqD X.K x y H Q) := op_eq.or (op_eqD hu)
theorem op_neA (hu : X.A.units + 64 < cLine) : OpR X (compareOp .NotEq) (fun x y H Q => rNe x y H Q ∨ rNeD X.K x y H Q) := op_ne.or (op_neD hu)
theorem scd_eq {R : RC} {M : Addr → Prop} {H : Hp} {x y : V} {d e : D} (rx : Rep R M H x d) (ry : Rep R M H y e) (h : scD d e = true) : scal x y = true ∧ D.eqv d e = decide (x = y) := by
  cases rx <;> cases ry <;> first | (exact absurd h (by decide)) | (cases h) | skip
  all_goals first
    | exact ⟨rfl, rfl⟩
    | (refine ⟨rfl, ?_⟩; first | (rw [dec_int]; rfl) | (rw [dec_str]; rfl) | (rw [dec_bl]; rfl))
theorem od_eq : OpD A (fun x y H Q => rEq x y H Q ∨ rEqD A.R.K x y H Q) dEq := by
  intro M H x y d e Q Qd hst hf rx ry h k
  obtain ⟨h1, h2⟩ := h
  rcases h1 with h1 | ⟨⟨p, hp, sp⟩, q, hq, sq⟩
  · obtain ⟨z1, z2⟩ := scd_eq rx ry h1
    refine .inl ⟨z1, k _ _ H (Stp.refl _ _) (.bl _) ?_⟩
    rw [← z2]
    exact h2
  · refine .inr ⟨p, q, rx.dp hp, ry.dp hq, sp, sq, k _ _ H (Stp.refl _ _) (.bl _) ?_⟩
    unfold D.eqv at h2
    rw [hp, hq] at h2
    exact h2
theorem od_ne : OpD A (fun x y H Q => rNe x y H Q ∨ rNeD A.R.K x y H Q) dNe := by
  intro M H x y d e Q Qd hst hf rx ry h k
  obtain ⟨h1, h2⟩ := h
  rcases h1 with h1 | ⟨⟨p, hp, sp⟩, q, hq, sq⟩
  · obtain ⟨z1, z2⟩ := scd_eq rx ry h1
    refine .inl ⟨z1, k _ _ H (Stp.refl _ _) (.bl _) ?_⟩
    rw [← z2]
    exact h2
  · refine .inr ⟨p, q, rx.dp hp, ry.dp hq, sp, sq, k _ _ H (Stp.refl _ _) (.bl _) ?_⟩
    unfold D.eqv at h2
    rw [hp, hq] at h2
    exact h2
/-- is None -/
def dIsN (x y : D) (Q : D → Prop) : Prop := match x, y with
  | .non, .non => Q (.bl true)
  | _, .non => Q (.bl false)
  | _, _ => False
def dNotN (x y : D) (Q : D → Prop) : Prop := match x, y with
  | .non, .non => Q (.bl false)
  | _, .non => Q (.bl true)
  | _, _ => False
theorem od_isN : OpD A (fun x y H Q => y = .non ∧ Q (.bl (decide (x = .non))) H) dIsN := by
  intro M H x y d e Q Qd hst hf rx ry h k
  cases ry <;> first | (cases rx <;> exact h.elim) | skip
  cases rx <;> exact ⟨rfl, k _ _ H (Stp.refl _ _) (.bl _) h⟩
/-! ### in -/
def D.flat : D → Bool
  | .non | .bl _ | .int _ | .str _ => true
  | _ => false
def D.inl (x : D) (ds : List D) : Bool := ds.any fun y => D.eqv y x
def hasS (i j : Str) : Bool := !(Builtin.Str.occurrences j i 0 j.length 1).isEmpty
def dIn (x y : D) (Q : D → Prop) : Prop := match x, y with
  | .str i, .str j => Q (.bl (hasS i j))
  | x, .lst ds => (x.flat = true ∧ ds.all D.flat = true) ∧ Q (.bl (x.inl ds))
  | x, .tup ds => (x.flat = true ∧ ds.all D.flat = true) ∧ Q (.bl (x.inl ds))
  | _, _ => False
def dNotIn (x y : D) (Q : D → Prop) : Prop := dIn x y fun d => match d with
  | .bl b => Q (.bl (!b))
  | _ => False
theorem flatV_of {R : RC} {M : Addr → Prop} {H : Hp} {v : V} {d : D} (r : Rep R M H v d) (h : d.flat = true) : flatV v = true := by
  cases r <;> first | rfl | cases h
theorem flatL_of {R : RC} {M : Addr → Prop} {H : Hp} : ∀ {vs : List V} {ds : List D}, RepL R M H vs ds → ds.all D.flat = true → vs.all flatV = true
  | _, _, .nil, _ => rfl
  | _, _, .cons a b, h => by
    rw [List.all_cons, Bool.and_eq_true] at h ⊢
    exact ⟨flatV_of a h.1, flatL_of b h.2⟩
theorem eqV_of {R : RC} {M : Addr → Prop} {H : Hp} {v w : V} {d e : D} (r : Rep R M H v d) (q : Rep R M H w e) (h1 : d.flat = true) (h2 : e.flat = true) : eqV v w = D.eqv d e := by
  cases r <;> first | exact (Bool.false_ne_true h1).elim | skip
  all_goals (cases q <;> first | exact (Bool.false_ne_true h2).elim | rfl)
theorem inV_of {R : RC} {M : Addr → Prop} {H : Hp} {w : V} {e : D} (q : Rep R M H w e) (h2 : e.flat = true) : ∀ {vs : List V} {ds : List D}, RepL R M H vs ds → ds.all D.flat = true → inV w vs = e.inl ds
  | _, _, .nil, _ => rfl
  | _, _, .cons a b, h => by
    rw [List.all_cons, Bool.and_eq_true] at h
    unfold inV D.inl
    rw [List.any_cons, List.any_cons, eqV_of a q h.1 h2]
    exact congrArg _ (inV_of q h2 b h.2)
def rInAll (K : PySem.W.Frag) : R2 := fun x y H Q => (∃ i j, x = .str i ∧ y = .str j ∧ Q (.bl (!(Builtin.Str.occurrences j i 0 j.length 1).isEmpty)) H) ∨ rIn K false x y H Q
def rNotInAll (K : PySem.W.Frag) : R2 := fun x y H Q => (∃ i j, x = .str i ∧ y = .str j ∧ Q (.bl (!(!(Builtin.Str.occurrences j i 0 j.length 1).isEmpty))) H) ∨ rIn K true x y H Q
theorem op_inAll : OpR X (compareOp .In) (rInAll X.K) := op_in_str.or op_in_seq
theorem op_notInAll : OpR X (compareOp .NotIn) (rNotInAll X.K) := op_notin_str.or op_notIn_seq
theorem od_in : OpD A (rInAll A.R.K) dIn := by
  intro M H x y d e Q Qd hst hf rx ry h k
  cases ry with
  | str j =>
    cases rx <;> first | exact h.elim | skip
    exact .inl ⟨_, j, rfl, rfl, k _ _ H (Stp.refl _ _) (.bl _) h⟩
  | @lst a xs ds e1 n1 r1 =>
    have h' : (d.flat = true ∧ ds.all D.flat = true) ∧ Qd (.bl (d.inl ds)) := by cases rx <;> exact h
    refine .inr ⟨a, xs, rfl, .inl (SqL.of e1), flatV_of rx h'.1.1, flatL_of r1 h'.1.2, k _ _ H (Stp.refl _ _) (.bl _) ?_⟩
    rw [if_neg Bool.false_ne_true, inV_of rx h'.1.1 r1 h'.1.2]
    exact h'.2
  | @tup a xs ds t1 r1 =>
    have h' : (d.flat = true ∧ ds.all D.flat = true) ∧ Qd (.bl (d.inl ds)) := by cases rx <;> exact h
    refine .inr ⟨a, xs, rfl, .inr t1.sq, flatV_of rx h'.1.1, flatL_of r1 h'.1.2, k _ _ H (Stp.refl _ _) (.bl _) ?_⟩
    rw [if_neg Bool.false_ne_true, inV_of rx h'.1.1 r1 h'.1.2]
    exact h'.2
  | _ => cases rx <;> exact h.elim
theorem od_notIn : OpD A (rNotInAll A.R.K) dNotIn := by
  intro M H x y d e Q Qd hst hf rx ry h k
  cases ry with
  | str j =>
    cases rx <;> first | exact h.elim | skip
    exact .inl ⟨_, j, rfl, rfl, k _ _ H (Stp.refl _ _) (.bl _) h⟩
  | @lst a xs ds e1 n1 r1 =>
    have h' : (d.flat = true ∧ ds.all D.flat = true) ∧ Qd (.bl (!(d.inl ds))) := by cases rx <;> exact h
    refine .inr ⟨a, xs, rfl, .inl (SqL.of e1), flatV_of rx h'.1.1, flatL_of r1 h'.1.2, k _ _ H (Stp.refl _ _) (.bl _) ?_⟩
    rw [if_pos rfl, inV_of rx h'.1.1 r1 h'.1.2]
    exact h'.2
  | @tup a xs ds t1 r1 =>
    have h' : (d.flat = true ∧ ds.all D.flat = true) ∧ Qd (.bl (!(d.inl ds))) := by cases rx <;> exact h
    refine .inr ⟨a, xs, rfl, .inr t1.sq, flatV_of rx h'.1.1, flatL_of r1 h'.1.2, k _ _ H (Stp.refl _ _) (.bl _) ?_⟩
    rw [if_pos rfl, inV_of rx h'.1.1 r1 h'.1.2]
    exact h'.2
  | _ => cases rx <;> exact h.elim
/-! ### comparisons: as values and as tests -/
structure CMP (X : Cx) (A : Act) (op : CmpOp) (f : D → D → (D → Prop) → Prop) : Prop where
  ex : ∃ r, OpR X (compareOp op) r ∧ OpD A r f
theorem cm_eq (hu : X.A.units + 64 < cLine) (hK : A.R.K = X.K := by rfl) : CMP X A .Eq dEq := ⟨_, op_eqA hu, hK ▸ od_eq⟩
theorem cm_ne (hu : X.A.units + 64 < cLine) (hK : A.R.K = X.K := by rfl) : CMP X A .NotEq dNe := ⟨_, op_neA hu, hK ▸ od_ne⟩
theorem cm_lt : CMP X A .Lt dLt := ⟨_, op_lt, od_I0 fun _ _ _ _ => .bl _⟩
theorem cm_le : CMP X A .LtE dLe := ⟨_, op_le, od_I0 fun _ _ _ _ => .bl _⟩
theorem cm_gt : CMP X A .Gt dGt := ⟨_, op_gt, od_I0 fun _ _ _ _ => .bl _⟩
theorem cm_ge : CMP X A .GtE dGe := ⟨_, op_ge, od_I0 fun _ _ _ _ => .bl _⟩
theorem cm_isN : CMP X A .Is dIsN := ⟨_, op_isN, od_isN⟩
theorem cm_in (hK : A.R.K = X.K := by rfl) : CMP X A .In dIn := ⟨_, op_inAll, hK ▸ od_in⟩
theorem cm_notIn (hK : A.R.K = X.K := by rfl) : CMP X A .NotIn dNotIn := ⟨_, op_notInAll, hK ▸ od_notIn⟩
theorem ge_c {op : CmpOp} {f : D → D → (D → Prop) → Prop} {a b : Expr} {pos} {ga gb : DE} (c : CMP X A op f) (ha : GE X A W a ga) (hb : GE X A W b gb) (hm : behindInMarks op b = false := by first | exact nomark _ | rfl) : GE X A W (.Compare a [op] [b] pos) (dop f ga gb) := by
  obtain ⟨r, o, od⟩ := c.ex
  exact ge_cmp o od ha hb hm
theorem gt_c {op : CmpOp} {f : D → D → (D → Prop) → Prop} {a b : Expr} {pos} {ga gb : DE} (c : CMP X A op f) (ha : GE X A W a ga) (hb : GE X A W b gb) (hm : behindInMarks op b = false := by first | exact nomark _ | rfl) : GT X A W (.Compare a [op] [b] pos) (dtest (dop f ga gb)) := by
  obtain ⟨r, o, od⟩ := c.ex
  exact gt_cmp o od ha hb hm
/-- a op b op' c -/
def dchain (f f' : D → D → (D → Prop) → Prop) (ga gb gc : DE) : DE := fun env Q Ed => ga env (fun x => gb env (fun y => f x y fun z => match z with
  | .bl b => if b = true then gc env (fun w => f' y w Q) Ed else Q (.bl false)
  | _ => False) Ed) Ed
/-! ### tests -/
def dtruth (g : DE) : DB := fun env Q Ed => g env (fun d => match d with
  | .bl b => Q b
  | _ => False) Ed
theorem gt_val {e : Expr} {g : DE} (h : GE X A W e g) (he : ∀ whole, isTrue e X.env whole = (do let v ← whole; standAt e.pos; holding [v] (truthy v)) := by intro _; rfl) : GT X A W e (dtruth g) := by
  refine ⟨pt_imp (pt_val h.p he) fun σ H Q ⟨env, Qd, Ed, E, h, q, x⟩ => toE_step E h x fun v d H1 s E1 _ r hd => ?_⟩
  match d, r, hd with
  | .bl b, .bl _, hd => exact ⟨b, rfl, q b H1 s hd⟩
theorem toB_step {g : DB} {σ : St} {H : Hp} {env : DEnv} {Q : Bool → Hp → Prop} {Qd : Bool → Prop} {Ed : Ex → Prop} (E : ERep A H σ env) (h : g env Qd Ed) (x : XOut A W σ env H Ed)
    (k : ∀ b H', Stp A.R H H' → ERep A H' σ env → XOut A W σ env H' Ed → Qd b → Q b H') : toB A W g σ H Q :=
  ⟨env, Qd, Ed, E, h, fun b H' s q => k b H' s (E.stp s) (x.stp s) q, x⟩
structure GW (X : Cx) (A : Act) (W : WX) (e : Expr) (g : DB) : Prop where
  p : PW X e (toB A W g)
theorem pw_imp {e : Expr} {t t' : TT} (h : PW X e t) (i : ∀ σ H Q, t' σ H Q → t σ H Q) : PW X e t' := ⟨fun wh pins s σ H Q I w => h.run wh pins s σ H Q I (i σ H Q w)⟩
def dand (g u : DB) : DB := fun env Q Ed => g env (fun b => if b = true then u env Q Ed else Q false) Ed
def dor (g u : DB) : DB := fun env Q Ed => g env (fun b => if b = true then Q true else u env Q Ed) Ed
def dnot (g : DB) : DB := fun env Q Ed => g env (fun b => Q (!b)) Ed
theorem gw_and1 {a : Expr} {pos} {g : DB} (h : GT X A W a g) : GW X A W (.BoolOp .And [a] pos) g := ⟨pw_and1 h.p⟩
theorem gw_or1 {a : Expr} {pos} {g : DB} (h : GT X A W a g) : GW X A W (.BoolOp .Or [a] pos) g := ⟨pw_or1 h.p⟩
theorem gw_and {a b : Expr} {rest : List Expr} {pos} {g u : DB} (h : GT X A W a g) (k : GW X A W (.BoolOp .And (b :: rest) pos) u) : GW X A W (.BoolOp .And (a :: b :: rest) pos) (dand g u) := by
  refine ⟨pw_imp (pw_and h.p k.p) fun σ H Q ⟨env, Qd, Ed, E, h, q, x⟩ => toB_step E h x fun c H1 s E1 x1 hd => ?_⟩
  cases c with
  | true => exact ⟨env, Qd, Ed, E1, hd, fun b H2 s2 qd => q b H2 (s.trans s2) qd, x1⟩
  | false => exact q false H1 s hd
theorem gw_or {a b : Expr} {rest : List Expr} {pos} {g u : DB} (h : GT X A W a g) (k : GW X A W (.BoolOp .Or (b :: rest) pos) u) : GW X A W (.BoolOp .Or (a :: b :: rest) pos) (dor g u) := by
  refine ⟨pw_imp (pw_or h.p k.p) fun σ H Q ⟨env, Qd, Ed, E, h, q, x⟩ => toB_step E h x fun c H1 s E1 x1 hd => ?_⟩
  cases c with
  | false => exact ⟨env, Qd, Ed, E1, hd, fun b H2 s2 qd => q b H2 (s.trans s2) qd, x1⟩
  | true => exact q true H1 s hd
theorem GW.t {e : Expr} {g : DB} (h : GW X A W e g) : GT X A W e g := ⟨h.p.pt⟩
theorem gt_not {a : Expr} {pos} {g : DB} (h : GT X A W a g) : GT X A W (.UnaryOp .Not a pos) (dnot g) :=
  ⟨pt_imp (pt_not h.p) fun σ H Q ⟨env, Qd, Ed, E, h, q, x⟩ => toB_step E h x fun b H1 s _ _ hd => q _ H1 s hd⟩
/-- and, or, not as values (of truths) -/
def dandV (g u : DE) : DE := fun env Q Ed => g env (fun d => match d with
  | .bl b => if b = true then u env Q Ed else Q (.bl false)
  | _ => False) Ed
def dorV (g u : DE) : DE := fun env Q Ed => g env (fun d => match d with
  | .bl b => if b = true then Q (.bl true) else u env Q Ed
  | _ => False) Ed
def dnotV (g : DE) : DE := fun env Q Ed => g env (fun d => match d with
  | .bl b => Q (.bl (!b))
  | _ => False) Ed
theorem ge_not {a : Expr} {pos} {g : DE} (h : GE X A W a g) (hP : ∀ t, PE X a t → PE X (.UnaryOp .Not a pos) (tNotV t) := by exact fun t h => pe_not h) : GE X A W (.UnaryOp .Not a pos) (dnotV g) := by
  refine ⟨pe_imp (hP _ h.p) fun σ H Q ⟨env, Qd, Ed, E, h, q, x⟩ => toE_step E h x fun v d H1 s E1 _ r hd => ?_⟩
  match d, r, hd with
  | .bl b, .bl _, hd => exact ⟨b, rfl, q _ _ H1 s (.bl _) hd⟩
theorem ge_and {a b : Expr} {rest : List Expr} {pos} {g u : DE} (h : GE X A W a g) (k : GE X A W (.BoolOp .And (b :: rest) pos) u) (hP : ∀ t u, PE X a t → PE X (.BoolOp .And (b :: rest) pos) u → PE X (.BoolOp .And (a :: b :: rest) pos) (tAndV t u) := by exact fun t u h k => pe_and h k) :
    GE X A W (.BoolOp .And (a :: b :: rest) pos) (dandV g u) := by
  refine ⟨pe_imp (hP _ _ h.p k.p) fun σ H Q ⟨env, Qd, Ed, E, h, q, x⟩ => toE_step E h x fun v d H1 s E1 x1 r hd => ?_⟩
  match d, r, hd with
  | .bl true, .bl _, hd => exact ⟨true, rfl, iteT ⟨env, Qd, Ed, E1, hd, fun v d H2 s2 r q2 => q v d H2 (s.trans s2) r q2, x1⟩⟩
  | .bl false, .bl _, hd => exact ⟨false, rfl, iteF (q _ _ H1 s (.bl _) hd)⟩
theorem ge_one {a : Expr} {op} {pos} {g : DE} (h : GE X A W a g) (hP : ∀ t, PE X a t → PE X (.BoolOp op [a] pos) t := by exact fun t h => pe_one h) : GE X A W (.BoolOp op [a] pos) g := ⟨hP _ h.p⟩
def difE (c : DB) (g u : DE) : DE := fun env Q Ed => c env (fun b => if b = true then g env Q Ed else u env Q Ed) Ed
end
end Nb
set_option maxRecDepth 100000
set_option maxHeartbeats 2000000
/-! Nb: items, slices, calls, comprehensions, defs. -/
namespace Nb
open PySem PySem.Spec PyProof.Rows L2
section
variable {X : Cx} {A : Act} {W : WX}
/-! ### xs[i] -/
def dIx (x y : D) (Q : D → Prop) : Prop := match x, y with
  | .lst ds, .int i => ∃ d, atI ds i = some d ∧ Q d
  | .tup ds, .int i => ∃ d, atI ds i = some d ∧ Q d
  | .str z, .int i => z.length ≤ LINE ∧ ∃ c, atI z.cps.toList i = some c ∧ Q (.str ⟨#[c]⟩)
  | _, _ => False
theorem RepL.atI {R : RC} {M : Addr → Prop} {H : Hp} {vs : List V} {ds : List D} (r : RepL R M H vs ds) {i : Int} {d : D} (h : L2.atI ds i = some d) : ∃ v, L2.atI vs i = some v ∧ Rep R M H v d := by
  unfold L2.atI at h ⊢
  rw [r.length]
  cases e : ixN ds.length i with
  | none => rw [e] at h; cases h
  | some j =>
    rw [e, Option.bind_some] at h
    obtain ⟨v, h1, h2⟩ := r.get h
    exact ⟨v, by rw [Option.bind_some]; exact h1, h2⟩
theorem od_ix : OpD A (rIx A.R.K) dIx := by
  intro M H x y d e Q Qd hst hf rx ry h k
  match d, e, rx, ry, h with
  | .lst ds, .int i, .lst (a := a) (xs := xs) e1 n r, .int _, ⟨d, h1, h2⟩ =>
    obtain ⟨v, h3, h4⟩ := r.atI h1
    exact .inl ⟨a, xs, i, v, rfl, rfl, SqL.of e1, h3, k _ _ H (Stp.refl _ _) h4 h2⟩
  | .tup ds, .int i, .tup (a := a) (xs := xs) t r, .int _, ⟨d, h1, h2⟩ =>
    obtain ⟨v, h3, h4⟩ := r.atI h1
    exact .inr (.inl ⟨a, xs, i, v, rfl, rfl, t.sq, h3, k _ _ H (Stp.refl _ _) h4 h2⟩)
  | .str z, .int i, .str _, .int _, ⟨hz, c, h1, h2⟩ => exact .inr (.inr ⟨z, i, c, rfl, rfl, by rw [line_is]; exact hz, h1, k _ _ H (Stp.refl _ _) (.str _) h2⟩)
theorem ge_ix {a b : Expr} {pos} {ga gb : DE} (ha : GE X A W a ga) (hb : GE X A W b gb) (hs : PlainIx b := by exact fun _ _ => rfl) (hK : A.R.K = X.K := by rfl) : GE X A W (.Subscript a b pos) (dop dIx ga gb) := ge_sub ix_seq (hK ▸ od_ix) ha hb hs
/-- an item of a list of the def's own -/
def dixO (i : Nat) (g : DE) : DE := fun env Q Ed => match env[i]? with
  | some (.own ds) => g env (fun d => match d with
    | .int n => ∃ y, atI ds n = some y ∧ Q y
    | _ => False) Ed
  | _ => False
theorem ge_ixO {i : Nat} {a b : Expr} {pos} {g : DE} (ha : PE X a (tVar i)) (hb : GE X A W b g) (hs : PlainIx b := by exact fun _ _ => rfl) : GE X A W (.Subscript a b pos) (dixO i g) := by
  refine ⟨pe_imp (pe_ix ix_list ha hb.p hs) fun σ H Q ⟨env, Qd, Ed, E, h, q, x⟩ => ?_⟩
  obtain ⟨ds, e1, h⟩ := own_of h
  obtain ⟨a, vs, h1, h2, h3, h4, h5⟩ := E.own i ds e1
  refine ⟨.ref a, h1, toE_step E h x fun v d H1 s E1 _ r hd => ?_⟩
  match d, r, hd with
  | .int n, .int _, ⟨y, h6, h7⟩ =>
    obtain ⟨v, h8, h9⟩ := (h3.keep (E.keep s)).atI h6
    exact ⟨a, vs, n, v, rfl, rfl, SqL.of (s.k a _ h2 fun z => h4 (E.ok.st a z)), h8, q _ _ H1 s h9 h7⟩
/-! ### slices -/
abbrev DO := DEnv → (Option Int → Prop) → (Ex → Prop) → Prop
def toO (A : Act) (W : WX) (g : DO) : TO := fun σ H Q => ∃ (env : DEnv) (Qd : Option Int → Prop) (Ed : Ex → Prop), ERep A H σ env ∧ g env Qd Ed ∧ (∀ o H', Stp A.R H H' → Qd o → Q o H') ∧ XOut A W σ env H Ed
structure GO (X : Cx) (A : Act) (W : WX) (e : Option Expr) (g : DO) : Prop where
  p : PO X e (toO A W g)
theorem po_imp {e : Option Expr} {t t' : TO} (h : PO X e t) (i : ∀ σ H Q, t' σ H Q → t σ H Q) : PO X e t' := ⟨fun pins s σ H Q I w => h.run pins s σ H Q I (i σ H Q w)⟩
def donone : DO := fun _ Q _ => Q none
def dosome (g : DE) : DO := fun env Q Ed => g env (fun d => match d with
  | .int i => Q (some i)
  | _ => False) Ed
theorem go_none : GO X A W none donone := ⟨po_imp po_none fun σ H Q ⟨env, Qd, Ed, E, h, q, x⟩ => q none H (Stp.refl _ _) h⟩
theorem go_some {e : Expr} {g : DE} (h : GE X A W e g) : GO X A W (some e) (dosome g) := by
  refine ⟨po_imp (po_some h.p) fun σ H Q ⟨env, Qd, Ed, E, h, q, x⟩ => toE_step E h x fun v d H1 s E1 _ r hd => ?_⟩
  match d, r, hd with
  | .int i, .int _, hd => exact ⟨i, rfl, q (some i) H1 s hd⟩
def cutD (xs : List D) (lo hi : Option Int) : List D := (xs.drop (HT.sIx xs.length 0 lo)).take (HT.sIx xs.length xs.length hi - HT.sIx xs.length 0 lo)
theorem RepL.cut {R : RC} {M : Addr → Prop} {H : Hp} {vs : List V} {ds : List D} (r : RepL R M H vs ds) (lo hi : Option Int) : RepL R M H (cutV vs lo hi) (cutD ds lo hi) := by
  unfold cutV cutD
  rw [r.length]
  exact (r.drop _).take _
def dSl (g : DE) (l u : DO) : DE := fun env Q Ed => g env (fun d => l env (fun lo => u env (fun hi => match d with
  | .lst ds => Q (.lst (cutD ds lo hi))
  | .str z => z.length ≤ LINE ∧ Q (.str (cutS z lo hi))
  | _ => False) Ed) Ed) Ed
def rSlAll (K : PySem.W.Frag) : V → Option Int → Option Int → Hp → VK → Prop := fun x lo hi H Q => rSlL K x lo hi H Q ∨ rSlS x lo hi H Q
theorem sl_all : SlR X (rSlAll X.K) := sl_list.or sl_str
theorem toO_step {g : DO} {σ : St} {H : Hp} {env : DEnv} {Q : Option Int → Hp → Prop} {Qd : Option Int → Prop} {Ed : Ex → Prop} (E : ERep A H σ env) (h : g env Qd Ed) (x : XOut A W σ env H Ed)
    (k : ∀ b H', Stp A.R H H' → ERep A H' σ env → XOut A W σ env H' Ed → Qd b → Q b H') : toO A W g σ H Q :=
  ⟨env, Qd, Ed, E, h, fun b H' s q => k b H' s (E.stp s) (x.stp s) q, x⟩
theorem ge_sl {e : Expr} {lo hi : Option Expr} {p2 pos : Pos} {g : DE} {l u : DO} (he : GE X A W e g) (hl : GO X A W lo l) (hu : GO X A W hi u) : GE X A W (.Subscript e (.Slice lo hi none p2) pos) (dSl g l u) := by
  refine ⟨pe_imp (pe_slice sl_all he.p hl.p hu.p) fun σ H Q ⟨env, Qd, Ed, E, h, q, x⟩ => toE_step E h x fun v d H1 s1 E1 x1 r h1 => toO_step E1 h1 x1 fun a H2 s2 E2 x2 h2 => toO_step E2 h2 x2 fun b H3 s3 E3 x3 h3 => ?_⟩
  have r3 := (r.keep (E1.keep (s2.trans s3)))
  match d, r3, h3 with
  | .lst ds, .lst (a := p) (xs := vs) e1 n rl, h3 =>
    refine .inl ⟨p, vs, rfl, SqL.of e1, fun c hc => ?_⟩
    have s : Stp A.R H3 (upd H3 c (.lst (cutV vs a b))) := Stp.new hc
    exact q _ _ _ ((s1.trans (s2.trans s3)).trans s) (.lst upd_same (E3.fresh hc) ((rl.cut a b).keep (E3.keep s))) h3
  | .str z, .str _, h3 => exact .inr ⟨z, rfl, by rw [line_is]; exact h3.1, q _ _ H3 (s1.trans (s2.trans s3)) (.str _) h3.2⟩
/-! ### calls by values -/
def CallD (A : Act) (r : List V → Hp → VK → Prop) (f : List D → (D → Prop) → Prop) : Prop := ∀ (M : Addr → Prop) (H : Hp) (xs : List V) (ds : List D) (Q : VK) (Qd : D → Prop), (∀ a, A.R.st = some a → M a) → (∀ a, H a = none → ¬ M a) → RepL A.R M H xs ds → f ds Qd →
  (∀ v d' H', Stp A.R H H' → Rep A.R M H' v d' → Qd d' → Q v H') → r xs H Q
def dcb (f : List D → (D → Prop) → Prop) (gs : DL) : DE := fun env Q Ed => gs env (fun ds => f ds Q) Ed
theorem toL_step {g : DL} {σ : St} {H : Hp} {env : DEnv} {Q : List V → Hp → Prop} {Qd : List D → Prop} {Ed : Ex → Prop} (E : ERep A H σ env) (h : g env Qd Ed) (x : XOut A W σ env H Ed)
    (k : ∀ v d H', Stp A.R H H' → ERep A H' σ env → XOut A W σ env H' Ed → RepL A.R (MM A σ env) H' v d → Qd d → Q v H') : toL A W g σ H Q :=
  ⟨env, Qd, Ed, E, h, fun v d H' s r q => k v d H' s (E.stp s) (x.stp s) r q, x⟩
theorem ge_cb {r : List V → Hp → VK → Prop} {f : List D → (D → Prop) → Prop} {e : Expr} {gs : DL} {es : List Expr} (hP : ∀ t, PA X es t → PE X e (tCB r t)) (c : CallD A r f) (ha : GL X A W es gs) : GE X A W e (dcb f gs) := by
  refine ⟨pe_imp (hP _ ha.p) fun σ H Q ⟨env, Qd, Ed, E, h, q, x⟩ => toL_step E h x fun vs ds H1 s E1 _ rl hd => ?_⟩
  exact c _ H1 vs ds Q Qd E1.mst (fun a z => E1.fresh z) rl hd fun v d H2 s2 r2 q2 => q v d H2 (s.trans s2) r2 q2
structure BLT (X : Cx) (A : Act) (f : Value) (g : List D → (D → Prop) → Prop) : Prop where
  ex : ∃ r, CallR X f r ∧ CallD A r g
theorem ge_blt {id : String} {f : List D → (D → Prop) → Prop} {x : Str} {p pos : Pos} {e : Expr} {es : List Expr} {gs : DL} (c : BLT X A (.builtin id) f) (hg : Gl X x) (hm : X.mg x = none) (hv : bootBuiltins x = some (.builtin id)) (ha : GL X A W (e :: es) gs)
    (hP : ∀ r t, Gl X x → X.mg x = none → bootBuiltins x = some (.builtin id) → CallR X (.builtin id) r → PA X (e :: es) t → PE X (.Call (.Name x p) (e :: es) [] pos) (tCB r t) := by exact fun r t hg hm hv c h => pe_callB c hg hm hv h) : GE X A W (.Call (.Name x p) (e :: es) [] pos) (dcb f gs) := by
  obtain ⟨r, cr, cd⟩ := c.ex
  exact ge_cb (fun t h => hP r t hg hm hv cr h) cd ha
theorem ge_bltT {T : String} {f : List D → (D → Prop) → Prop} {x : Str} {p pos : Pos} {e : Expr} {es : List Expr} {gs : DL} (c : BLT X A (.type T) f) (hg : Gl X x) (hm : X.mg x = none) (hv : bootBuiltins x = some (.type T)) (ha : GL X A W (e :: es) gs)
    (hP : ∀ r t, Gl X x → X.mg x = none → bootBuiltins x = some (.type T) → CallR X (.type T) r → PA X (e :: es) t → PE X (.Call (.Name x p) (e :: es) [] pos) (tCB r t) := by exact fun r t hg hm hv c h => pe_callTy c hg hm hv h) : GE X A W (.Call (.Name x p) (e :: es) [] pos) (dcb f gs) := by
  obtain ⟨r, cr, cd⟩ := c.ex
  exact ge_cb (fun t h => hP r t hg hm hv cr h) cd ha
def fLen (ds : List D) (Q : D → Prop) : Prop := match ds with
  | [.str x] => x.length ≤ LINE ∧ Q (.int x.length)
  | [.lst xs] => Q (.int xs.length)
  | [.tup xs] => Q (.int xs.length)
  | _ => False
theorem b_len (hK : A.R.K = X.K := by rfl) : BLT X A (.builtin "len") fLen := by
  refine ⟨_, call_len, ?_⟩
  intro M H xs ds Q Qd hst hf r h k
  match ds, r, h with
  | [.str x], .cons (.str _) .nil, h => exact ⟨.str x, x.length, rfl, ⟨by rw [line_is]; exact h.1, rfl⟩, k _ _ H (Stp.refl _ _) (.int _) h.2⟩
  | [.lst ds], .cons (.lst (a := a) (xs := vs) e n rl) .nil, h => exact ⟨.ref a, vs.length, rfl, .inl ⟨vs, SqL.of e, rfl⟩, by rw [rl.length]; exact k _ _ H (Stp.refl _ _) (.int _) h⟩
  | [.tup ds], .cons (.tup (a := a) (xs := vs) t rl) .nil, h => exact ⟨.ref a, vs.length, rfl, .inr ⟨vs, by rw [← hK]; exact t.sq, rfl⟩, by rw [rl.length]; exact k _ _ H (Stp.refl _ _) (.int _) h⟩
/-- len of a list of the def's own -/
def dlenO (i : Nat) : DE := fun env Q _ => match env[i]? with
  | some (.own ds) => Q (.int ds.length)
  | _ => False
theorem ge_lenO {i : Nat} {e : Expr} {p pos : Pos} (ho : PE X e (tVar i)) (hg : Gl X "len") (hm : X.mg "len" = none)
    (hP : ∀ r t, Gl X "len" → X.mg "len" = none → CallR X (.builtin "len") r → PA X [e] t → PE X (.Call (.Name "len" p) [e] [] pos) (tCB r t) := by exact fun r t hg hm c h => pe_callB c hg hm PySem.boot_len h)
    (hA : PE X e (tVar i) → PA X [e] (tCons (tVar i) tNil) := by exact fun h => pa_cons h pa_nil) : GE X A W (.Call (.Name "len" p) [e] [] pos) (dlenO i) := by
  refine ⟨pe_imp (hP _ _ hg hm call_len (hA ho)) fun σ H Q ⟨env, Qd, Ed, E, h, q, x⟩ => ?_⟩
  obtain ⟨ds, e1, h⟩ := own_of h
  obtain ⟨a, vs, h1, h2, h3, h4, h5⟩ := E.own i ds e1
  exact ⟨.ref a, h1, .ref a, vs.length, rfl, .inl ⟨vs, SqL.of h2, rfl⟩, by rw [h3.length]; exact q _ _ H (Stp.refl _ _) (.int _) h⟩
def fInt (ds : List D) (Q : D → Prop) : Prop := match ds with
  | [.int i] => Q (.int i)
  | [.bl b] => Q (.int (if b then 1 else 0))
  | [.str x] => ∃ n, PySem.intText? x = some n ∧ x.length ≤ 640 ∧ Q (.int n)
  | _ => False
theorem b_int : BLT X A (.type "int") fInt := by
  refine ⟨_, call_int1.or call_int_str, ?_⟩
  intro M H xs ds Q Qd hst hf r h k
  match ds, r, h with
  | [.int i], .cons (.int _) .nil, h => exact .inl (.inl ⟨i, rfl, k _ _ H (Stp.refl _ _) (.int _) h⟩)
  | [.bl b], .cons (.bl _) .nil, h => exact .inl (.inr ⟨b, rfl, k _ _ H (Stp.refl _ _) (.int _) h⟩)
  | [.str x], .cons (.str _) .nil, ⟨n, h1, h2, h3⟩ => exact .inr ⟨x, n, rfl, h1, h2, k _ _ H (Stp.refl _ _) (.int _) h3⟩
def fStr (ds : List D) (Q : D → Prop) : Prop := match ds with
  | [.int i] => i.natAbs.log2 < 1920 ∧ Q (.str (toString i))
  | [.str x] => Q (.str x)
  | _ => False
def fAbs (ds : List D) (Q : D → Prop) : Prop := match ds with
  | [.int i] => Q (.int (if i < 0 then -i else i))
  | _ => False
theorem b_abs : BLT X A (.builtin "abs") fAbs := by
  refine ⟨_, call_abs, ?_⟩
  intro M H xs ds Q Qd hst hf r h k
  match ds, r, h with
  | [.int i], .cons (.int _) .nil, h => exact ⟨i, rfl, k _ _ H (Stp.refl _ _) (.int _) h⟩
def fMax (ds : List D) (Q : D → Prop) : Prop := match ds with
  | [.int i, .int j] => Q (.int (if j > i then j else i))
  | _ => False
def fMin (ds : List D) (Q : D → Prop) : Prop := match ds with
  | [.int i, .int j] => Q (.int (if j < i then j else i))
  | _ => False
/-- all, any of a list of truths -/
def fAll (ds : List D) (Q : D → Prop) : Prop := match ds with
  | [.lst xs] => ∃ bs : List Bool, xs = bs.map D.bl ∧ Q (.bl (bs.all id))
  | _ => False
theorem b_all (hc : X.calm = true) : BLT X A (.builtin "all") fAll := by
  refine ⟨_, cr_all hc, ?_⟩
  intro M H xs ds Q Qd hst hf r h k
  match ds, r, h with
  | [.lst ds], .cons (.lst (a := a) (xs := vs) e n rl) .nil, ⟨bs, h1, h2⟩ =>
    subst h1
    rw [rl.blsV] at e
    exact ⟨a, bs, rfl, SqL.of e, k _ _ H (Stp.refl _ _) (.bl _) h2⟩
/-- list(x), tuple(x) of a list, a tuple -/
def fList (ds : List D) (Q : D → Prop) : Prop := match ds with
  | [.lst xs] => Q (.lst xs)
  | [.tup xs] => Q (.lst xs)
  | [.str z] => z.length ≤ LINE ∧ Q (.lst (sgnD z))
  | _ => False
def rListS : List V → Hp → VK → Prop := fun xs H Q => ∃ z : Str, xs = [.str z] ∧ z.length ≤ sizeLine ∧ ∀ l, H l = none → Q (.ref l) (upd H l (.lst (z.cps.toList.map fun c => V.str ⟨#[c]⟩)))
theorem signs_vals {z : Str} {acc : Array Value} (h : ItemsOf (SignAt z) acc z.cps.size) : Vals (z.cps.toList.map fun c => V.str ⟨#[c]⟩) acc.toList := by
  obtain ⟨h1, h2⟩ := h
  have key : ∀ (l : List Nat) (us : List Value), l.length = us.length → (∀ (j : Nat) (u : Value), us[j]? = some u → ∃ c t, l[j]? = some c ∧ u = Value.str ⟨#[c]⟩ t) → Vals (l.map fun c => V.str ⟨#[c]⟩) us := by
    intro l
    induction l with
    | nil =>
      intro us hl _
      cases us with
      | nil => exact .nil
      | cons _ _ => cases hl
    | cons c l ih =>
      intro us hl hq
      cases us with
      | nil => cases hl
      | cons u us =>
        obtain ⟨c', t, e1, e2⟩ := hq 0 u rfl
        cases e1
        exact .cons ⟨t, e2⟩ (ih us (by simpa using hl) fun j w hw => hq (j + 1) w (by simpa using hw))
  refine key _ _ (by rw [Array.length_toList, Array.length_toList, h1]) fun j u hu => ?_
  obtain ⟨c, t, e1, e2⟩ := h2 j u (by rw [← Array.getElem?_toList]; exact hu)
  exact ⟨c, t, by rw [Array.getElem?_toList]; exact e1, e2⟩
theorem call_listS (hc : X.calm = true) : CallR X (.type "list") rListS := by
  intro pins s σ H xs us Q I r h
  obtain ⟨z, rfl, hz, q⟩ := h
  obtain ⟨u, rfl, t, rfl⟩ := vals1 r
  refine call_list_str (I.ok.hd hc) z t (fun h' tk acc c k e hi => ?_) hz
  have rv := signs_vals hi
  refine ⟨.ref _, _, I.laid (t' := tk) (o := .lst (z.cps.toList.map fun c => V.str ⟨#[c]⟩)) k (Nat.le_refl _) ⟨?_, acc.toList, c, rv, e⟩, rfl, q _ (I.hok.fresh (Nat.le_refl _))⟩
  rw [List.length_map, Array.length_toList]
  exact hz
theorem rep_signs {R : RC} {M : Addr → Prop} {H : Hp} (l : List Nat) : RepL R M H (l.map fun c => V.str ⟨#[c]⟩) (l.map fun c => D.str ⟨#[c]⟩) := by
  induction l with
  | nil => exact .nil
  | cons c l ih => exact .cons (.str _) ih
theorem b_list (hc : X.calm = true) (hK : A.R.K = X.K := by rfl) : BLT X A (.type "list") fList := by
  refine ⟨_, call_list_of.or (call_listS hc), ?_⟩
  intro M H xs ds Q Qd hst hf r h k
  match ds, r, h with
  | [.lst ds], .cons (.lst (a := a) (xs := vs) e n rl) .nil, h =>
    refine .inl ⟨a, vs, rfl, .inl (SqL.of e), fun p hp => ?_⟩
    have s : Stp A.R H (upd H p (.lst vs)) := Stp.new hp
    exact k _ _ _ s (.lst upd_same (hf p hp) (rl.keep (s.keep hst))) h
  | [.tup ds], .cons (.tup (a := a) (xs := vs) t rl) .nil, h =>
    refine .inl ⟨a, vs, rfl, .inr (by rw [← hK]; exact t.sq), fun p hp => ?_⟩
    have s : Stp A.R H (upd H p (.lst vs)) := Stp.new hp
    exact k _ _ _ s (.lst upd_same (hf p hp) (rl.keep (s.keep hst))) h
  | [.str z], .cons (.str _) .nil, h =>
    refine .inr ⟨z, rfl, by rw [line_is]; exact h.1, fun p hp => ?_⟩
    have s : Stp A.R H (upd H p (.lst (z.cps.toList.map fun c => V.str ⟨#[c]⟩))) := Stp.new hp
    exact k _ _ _ s (.lst upd_same (hf p hp) (rep_signs _)) h.2
def fTuple (ds : List D) (Q : D → Prop) : Prop := match ds with
  | [.lst xs] => Q (.tup xs)
  | [.tup xs] => Q (.tup xs)
  | _ => False
theorem b_tuple (hK : A.R.K = X.K := by rfl) : BLT X A (.type "tuple") fTuple := by
  refine ⟨_, call_tuple_of, ?_⟩
  intro M H xs ds Q Qd hst hf r h k
  match ds, r, h with
  | [.lst ds], .cons (.lst (a := a) (xs := vs) e n rl) .nil, h =>
    refine ⟨a, vs, rfl, .inl ⟨SqL.of e, fun p hp => ?_⟩⟩
    have s : Stp A.R H (upd H p (.tup vs)) := Stp.new hp
    exact k _ _ _ s (.tup (TAt.new (hf p hp)) (rl.keep (s.keep hst))) h
  | [.tup ds], .cons (.tup (a := a) (xs := vs) t rl) .nil, h =>
    exact ⟨a, vs, rfl, .inr ⟨by rw [← hK]; exact t.sq, k _ _ H (Stp.refl _ _) (.tup t rl) h⟩⟩
/-! ### isinstance with a built-in type -/
def D.tyn : D → Option String
  | .non => some "NoneType" | .bl _ => some "bool" | .int _ => some "int" | .str _ => some "str" | .tup _ => some "tuple" | .lst _ => some "list" | .dct => some "dict"
  | _ => none
theorem tyx_of {R : RC} {M : Addr → Prop} {H : Hp} {v : V} {d : D} {t : String} (r : Rep R M H v d) (h : d.tyn = some t) : TyX R.K H v (.type t) := by
  cases r <;> first | (cases h; done) | skip
  · cases h; exact .base .non
  · cases h; exact .base (.bl _)
  · cases h; exact .base (.int _)
  · cases h; exact .base (.str _)
  · cases h
    rename_i a xs ds ta rl
    rcases ta with ⟨h, _⟩ | h | ⟨o, its, n, h1, h2, h3⟩
    · rcases h with h | ⟨o, h⟩
      · exact .base (.tup h)
      · exact .fTuple h
    · rcases h with h | ⟨_, h⟩ <;> cases h
    · exact .kTuple h1 h2
  · cases h
    exact .base (.lst (by assumption))
  · cases h
    exact .base (.dK (by assumption))
def fIsi (ds : List D) (Q : D → Prop) : Prop := match ds with
  | [x, .ty T] => ∃ t b, x.tyn = some t ∧ kitB t T = some b ∧ Q (.bl b)
  | _ => False
theorem b_isi (hK : A.R.K = X.K := by rfl) : BLT X A (.builtin "isinstance") fIsi := by
  refine ⟨_, call_isi, ?_⟩
  intro M H xs ds Q Qd hst hf r h k
  match ds, r, h with
  | [x, .ty T], .cons rx (.cons (.ty _) .nil), ⟨t, b, h1, h2, h3⟩ =>
    exact ⟨_, .ty T, _, _, b, rfl, .ty T, by rw [← hK]; exact tyx_of rx h1, kit_ty h2, k _ _ H (Stp.refl _ _) (.bl _) h3⟩
def fGcd (ds : List D) (Q : D → Prop) : Prop := match ds with
  | [.int i, .int j] => Q (.int ((Nat.gcd i.natAbs j.natAbs : Nat) : Int))
  | _ => False
/-! ### methods of texts with one argument -/
def MtD (A : Act) (r : V → List V → Hp → VK → Prop) (f : D → D → (D → Prop) → Prop) : Prop := ∀ (M : Addr → Prop) (H : Hp) (x y : V) (d e : D) (Q : VK) (Qd : D → Prop), (∀ a, A.R.st = some a → M a) → (∀ a, H a = none → ¬ M a) → Rep A.R M H x d → Rep A.R M H y e → f d e Qd →
  (∀ v d' H', Stp A.R H H' → Rep A.R M H' v d' → Qd d' → Q v H') → r x [y] H Q
def dm1 (f : D → D → (D → Prop) → Prop) (g u : DE) : DE := fun env Q Ed => g env (fun x => match x with
  | .str z => u env (fun y => f (.str z) y Q) Ed
  | _ => False) Ed
theorem ge_m1 {r : V → List V → Hp → VK → Prop} {f : D → D → (D → Prop) → Prop} {o e w : Expr} {g u : DE} (hP : ∀ to te, PE X o to → PE X e te → PE X w (tM1 r to te)) (c : MtD A r f) (ho : GE X A W o g) (he : GE X A W e u) : GE X A W w (dm1 f g u) := by
  refine ⟨pe_imp (hP _ _ ho.p he.p) fun σ H Q ⟨env, Qd, Ed, E, h, q, x⟩ => toE_step E h x fun v d H1 s E1 x1 r1 hd => ?_⟩
  match d, r1, hd with
  | .str z, .str _, hd =>
    refine ⟨⟨z, rfl⟩, toE_step E1 hd x1 fun w e H2 s2 E2 _ r2 hd2 => ?_⟩
    exact c _ H2 _ w _ e Q Qd E2.mst (fun a n => E2.fresh n) (.str z) r2 hd2 fun u d' H3 s3 r3 q3 => q u d' H3 ((s.trans s2).trans s3) r3 q3
def fJoin (x y : D) (Q : D → Prop) : Prop := match x, y with
  | .str a, .lst ds => ∃ ys : List Str, ds = ys.map D.str ∧ (ys.map (·.length)).sum + ys.length * a.length ≤ LINE ∧ Q (.str (Txt.join a ys))
  | .str a, .tup ds => ∃ ys : List Str, ds = ys.map D.str ∧ (ys.map (·.length)).sum + ys.length * a.length ≤ LINE ∧ Q (.str (Txt.join a ys))
  | _, _ => False
theorem ge_join {o e : Expr} {apos pos : Pos} {g u : DE} (ho : GE X A W o g) (he : GE X A W e u) (hK : A.R.K = X.K := by rfl)
    (hP : ∀ to te, PE X o to → PE X e te → PE X (.Call (.Attribute o "join" apos) [e] [] pos) (tM1 (fun x xs H Q => ∃ a p, ∃ ys : List Str, x = .str a ∧ xs = [.ref p] ∧ (SqL X.K H p (ys.map V.str) ∨ SqT X.K H p (ys.map V.str)) ∧
      (ys.map (·.length)).sum + ys.length * a.length ≤ 16777216 ∧ Q (.str (Txt.join a ys)) H) to te) := by exact fun _ _ a b => pe_join a b) : GE X A W (.Call (.Attribute o "join" apos) [e] [] pos) (dm1 fJoin g u) := by
  refine ge_m1 hP ?_ ho he
  intro M H x y d e Q Qd hst hf rx ry h k
  match d, e, rx, ry, h with
  | .str a, .lst ds, .str _, .lst (a := p) (xs := vs) e1 n rl, ⟨ys, h1, h2, h3⟩ =>
    subst h1
    rw [rl.strsV] at e1
    exact ⟨a, p, ys, rfl, rfl, .inl (SqL.of e1), h2, k _ _ H (Stp.refl _ _) (.str _) h3⟩
  | .str a, .tup ds, .str _, .tup (a := p) (xs := vs) t rl, ⟨ys, h1, h2, h3⟩ =>
    subst h1
    refine ⟨a, p, ys, rfl, rfl, .inr ?_, h2, k _ _ H (Stp.refl _ _) (.str _) h3⟩
    rw [← rl.strsV, ← hK]
    exact t.sq
def fSplit (x y : D) (Q : D → Prop) : Prop := match x, y with
  | .str a, .str b => (b.length == 0) = false ∧ a.length + 2 ≤ LINE ∧ Q (.lst ((Txt.split a b).map D.str))
  | _, _ => False
theorem ge_split {o e : Expr} {apos pos : Pos} {g u : DE} (ho : GE X A W o g) (he : GE X A W e u)
    (hP : ∀ to te, PE X o to → PE X e te → PE X (.Call (.Attribute o "split" apos) [e] [] pos) (tM1 (fun x xs H Q => ∃ a b, x = .str a ∧ xs = [.str b] ∧ (b.length == 0) = false ∧ a.length + 2 ≤ sizeLine ∧ rNewStrs (Txt.split a b) H Q) to te) := by exact fun _ _ a b => pe_split a b) : GE X A W (.Call (.Attribute o "split" apos) [e] [] pos) (dm1 fSplit g u) := by
  refine ge_m1 hP ?_ ho he
  intro M H x y d e Q Qd hst hf rx ry h k
  match d, e, rx, ry, h with
  | .str a, .str b, .str _, .str _, h =>
    refine ⟨a, b, rfl, rfl, h.1, by rw [line_is]; exact h.2.1, fun p hp => ?_⟩
    have s : Stp A.R H (upd H p (.lst ((Txt.split a b).map V.str))) := Stp.new hp
    exact k _ _ _ s (.lst upd_same (hf p hp) (RepL.strs _)) h.2.2
/-! ### [e for t in it if c] -/
/-- the slots of a block's own names forgotten -/
def wipeD (env : DEnv) : List Nat → DEnv
  | [] => env
  | v :: vs => (wipeD env vs).set v .un
theorem ERep.wipe {H : Hp} {σ : St} {env : DEnv} (E : ERep A H σ env) : ∀ vs : List Nat, ERep A H (L2.wipe σ vs) (wipeD env vs) ∧ Keep (MM A σ env) (MM A (L2.wipe σ vs) (wipeD env vs)) H H
  | [] => ⟨E, Keep.refl _ _⟩
  | v :: vs => by
    obtain ⟨E1, k1⟩ := ERep.wipe E vs
    obtain ⟨E2, k2⟩ := E1.forget (i := v)
    exact ⟨E2, k1.trans k2⟩
structure GTs (X : Cx) (A : Act) (W : WX) (ifs : List Expr) (g : DB) : Prop where
  p : PTs X ifs (toB A W g)
theorem pts_imp {e : List Expr} {t t' : TT} (h : PTs X e t) (i : ∀ σ H Q, t' σ H Q → t σ H Q) : PTs X e t' := ⟨fun pins s σ H Q I w => h.run pins s σ H Q I (i σ H Q w)⟩
def dyes : DB := fun _ Q _ => Q true
theorem gts_nil : GTs X A W [] dyes := ⟨pts_imp pts_nil fun σ H Q ⟨env, Qd, Ed, E, h, q, x⟩ => q true H (Stp.refl _ _) h⟩
end
end Nb
set_option maxRecDepth 100000
set_option maxHeartbeats 2000000
/-! Nb: blocks that make lists. -/
namespace Nb
open PySem PySem.Spec PyProof.Rows L2
def unown : SD → SD
  | .own _ => .un
  | x => x
/-- the slots in a block: its own names are forgotten, lists that may change too -/
def blkD (env : DEnv) (vs : List Nat) : DEnv := (wipeD env vs).map unown
theorem unown_own {x : SD} {ds : List D} (h : unown x = .own ds) : False := by
  cases x <;> cases h
theorem unown_val {x : SD} {d : D} (h : unown x = .val d) : x = .val d := by
  cases x <;> first | exact h | cases h
theorem blk_no {env : DEnv} {vs : List Nat} {i : Nat} {ds : List D} (h : (blkD env vs)[i]? = some (.own ds)) : False := by
  unfold blkD at h
  rw [List.getElem?_map] at h
  cases e : (wipeD env vs)[i]? with
  | none => rw [e] at h; cases h
  | some x =>
    rw [e] at h
    exact unown_own (Option.some.inj h)
theorem blk_val {env : DEnv} {vs : List Nat} {i : Nat} {d : D} (h : (blkD env vs)[i]? = some (.val d)) : (wipeD env vs)[i]? = some (.val d) := by
  unfold blkD at h
  rw [List.getElem?_map] at h
  cases e : (wipeD env vs)[i]? with
  | none => rw [e] at h; cases h
  | some x =>
    rw [e] at h
    rw [unown_val (Option.some.inj h)]
theorem wipeD_val {env : DEnv} {i : Nat} {d : D} : ∀ {vs : List Nat}, (wipeD env vs)[i]? = some (.val d) → env[i]? = some (.val d) ∧ i ∉ vs
  | [], h => ⟨h, by simp⟩
  | v :: vs, h => by
    unfold wipeD at h
    rw [get_set] at h
    by_cases c : v = i ∧ i < (wipeD env vs).length
    · rw [if_pos c] at h; cases h
    · rw [if_neg c] at h
      obtain ⟨h1, h2⟩ := wipeD_val h
      refine ⟨h1, fun z => ?_⟩
      rcases List.mem_cons.mp z with z | z
      · exact c ⟨z.symm, (List.getElem?_eq_some_iff.mp h).1⟩
      · exact h2 z
theorem wipeD_len {env : DEnv} : ∀ {vs : List Nat}, (wipeD env vs).length = env.length
  | [] => rfl
  | v :: vs => by
    unfold wipeD
    rw [List.length_set, wipeD_len]
theorem wipe_out {σ : St} {i : Nat} : ∀ {vs : List Nat}, i ∉ vs → (L2.wipe σ vs)[i]? = σ[i]?
  | [], _ => rfl
  | v :: vs, h => by
    unfold L2.wipe
    rw [List.getElem?_set_ne fun z => h (by rw [z]; exact List.mem_cons_self)]
    exact wipe_out fun z => h (List.mem_cons_of_mem _ z)
theorem wipe_in {σ : St} {i : Nat} : ∀ {vs : List Nat}, i ∈ vs → i < σ.length → (L2.wipe σ vs)[i]? = some none
  | v :: vs, h, hl => by
    unfold L2.wipe
    rw [get_set]
    by_cases c : v = i
    · rw [if_pos ⟨c, by rw [wipe_length]; exact hl⟩]
    · rw [if_neg fun z => c z.1]
      rcases List.mem_cons.mp h with z | z
      · exact absurd z.symm c
      · exact wipe_in z hl
theorem only_wipe {js vs : List Nat} {σ σ' : St} (o : Only js (L2.wipe σ vs) σ') (h : ∀ j ∈ js, j ∈ vs) : L2.wipe σ' vs = L2.wipe σ vs := by
  have hl : σ'.length = σ.length := o.1.trans (wipe_length σ vs)
  refine List.ext_getElem? fun i => ?_
  by_cases c : i ∈ vs
  · by_cases q : i < σ.length
    · rw [wipe_in c q, wipe_in c (by rw [hl]; exact q)]
    · rw [List.getElem?_eq_none (by rw [wipe_length, hl]; omega), List.getElem?_eq_none (by rw [wipe_length]; omega)]
  · rw [wipe_out c, o.2 i fun z => c (h i z)]
/-- the activation of a block: all that may change is out of its reach -/
abbrev Act.blk (A : Act) (H : Hp) (M : Addr → Prop) : Act := ⟨A.R, H, M, false⟩
section
variable {A : Act} {H H' H3 : Hp} {σ : St} {env : DEnv} {D0 : Addr}
abbrev MB (A : Act) (σ : St) (env : DEnv) (D0 : Addr) (a : Addr) : Prop := MM A σ env a ∨ a = D0
theorem ERep.block (E : ERep A H σ env) (hD : H D0 = none) (s : Stp A.R H H') (h0 : H' D0 ≠ none) (vs : List Nat) :
    ERep (A.blk H' (MB A σ env D0)) H' (L2.wipe σ vs) (blkD env vs) := by
  refine ⟨⟨s.s E.inv, fun a h => .inl (E.mst a h), fun a h => ?_⟩, by unfold blkD; rw [List.length_map, wipeD_len, wipe_length]; exact E.len, fun i d h => ?_, fun i ds h => (blk_no h).elim, fun i j ds es a h => (blk_no h).elim, Stp.refl _ _⟩
  · rcases h with h | h
    · exact (E.stp s).mtrk h
    · rw [h]; exact h0
  obtain ⟨h1, h2⟩ := wipeD_val (blk_val h)
  obtain ⟨v, h3, h4⟩ := E.val i d h1
  refine ⟨v, by rw [wipe_out h2]; exact h3, h4.keep ⟨fun a o e n => s.k a o e fun z => n (E.mst a z), fun a z => ?_⟩⟩
  rcases z with z | ⟨j, ds, z, _⟩
  · rcases z with z | z
    · exact .inl z
    · exact .inr (by rw [z]; exact hD)
  · exact (blk_no z).elim
end
section
variable {X : Cx} {A : Act} {W : WX}
abbrev W0 : WX := fun _ _ _ _ => False
theorem xout0 {A : Act} {σ : St} {env : DEnv} {H : Hp} : XOut A W0 σ env H fun _ => False := fun _ _ _ _ _ _ h => h
@[irreducible] def dlc (gi : DI) (t : DG) (c : DB) (ge : DE) (vs : List Nat) : DF := fun env Q Ed => gi env (fun ds => ∃ I : Nat → List D → Prop, I 0 [] ∧
  (∀ i d acc, ds[i]? = some d → I i acc → t d (blkD env vs) fun env2 => c env2 (fun b => if b = true then ge env2 (fun y => acc.length < LINE ∧ I (i + 1) (acc ++ [y])) (fun _ => False) else I (i + 1) acc) fun _ => False) ∧
  ∀ acc, I ds.length acc → Q acc) Ed
theorem lc_of {gi : DI} {t : DG} {c : DB} {ge : DE} {vs js : List Nat} {wi : TI} {g : TG} {tt : TT} {te : TE} (hj : ∀ j ∈ js, j ∈ vs) {σ : St} {H : Hp} {Q : VK}
    (hi : ∀ σ H Q, toI A W gi σ H Q → wi σ H Q)
    (hg : ∀ (B : Act), B.R = A.R → ∀ v σ H Q, toG B js t v σ H Q → g v σ H Q) (ht : ∀ (B : Act), B.R = A.R → ∀ σ H Q, toB B W0 c σ H Q → tt σ H Q) (he : ∀ (B : Act), B.R = A.R → ∀ σ H Q, toE B W0 ge σ H Q → te σ H Q)
    (h : toF A W (dlc gi t c ge vs) σ H Q) : tLc wi g tt te vs σ H Q := by
  obtain ⟨env, Qd, Ed, E, h, q, x⟩ := h
  unfold dlc at h
  refine hi σ H _ ⟨env, _, Ed, E, h, fun J ds H1 s1 wk hd D0 hD => ?_, x⟩
  obtain ⟨I, i0, it, ie⟩ := hd
  have E1 := E.stp s1
  have nst : A.R.st ≠ some D0 := fun z => by
    obtain ⟨ns, e, _⟩ := E1.inv D0 z
    rw [hD] at e; cases e
  have ups : ∀ {H2 : Hp} {ys : List V}, Stp A.R H1 H2 → Stp A.R H1 (upd H2 D0 (.lst ys)) := fun {H2 ys} s => ⟨fun a o e n => by rw [upd_ne (ne_of_none e hD)]; exact s.k a o e n, fun z a e => by
    obtain ⟨ns, e1, e2⟩ := s.s z a e
    exact ⟨ns, by rw [upd_ne fun z => nst (by rw [e, z])]; exact e1, e2⟩⟩
  refine ⟨fun i m H => m = ds.length - i ∧ i ≤ ds.length ∧ ∃ av ad, H D0 = some (.lst av) ∧ RepL A.R (MB A σ env D0) H av ad ∧ I i ad ∧ Stp A.R H1 H, ⟨ds.length, rfl, Nat.zero_le _, [], [], upd_same, .nil, i0, ups (Stp.refl _ _)⟩, ?_⟩
  rintro i m H2 ⟨rfl, hi2, av, ad, h2, ra, hI, s2⟩
  have kk : Keep (MM A σ env) (MB A σ env D0) H1 H2 := ⟨(E1.keep s2).k, fun a z => z.elim .inl fun z => .inr (by rw [z]; exact hD)⟩
  by_cases hlt : i < ds.length
  · have e : ds[i]? = some ds[i] := List.getElem?_eq_getElem hlt
    have E2 := E1.stp s2
    obtain ⟨g1, g2⟩ := wk.yld _ H2 kk (fun a z w => w.elim (fun w => E2.fresh z w) fun w => by rw [w, h2] at z; cases z) E2.inv i _ e
    refine .inr ⟨g1, fun H' => ∃ av ad, H' D0 = some (.lst av) ∧ RepL A.R (MB A σ env D0) H' av ad ∧ I (i + 1) ad ∧ Stp A.R H1 H', fun H' h => ⟨ds.length - (i + 1), by omega, rfl, hlt, h⟩, fun x H' y => ?_⟩
    obtain ⟨s3, rx⟩ := g2 x H' y
    have EB := (E1.block hD s2 (by rw [h2]; exact fun z => by cases z) vs).stp s3
    refine hg (A.blk H2 (MB A σ env D0)) rfl x _ H' _ ⟨blkD env vs, _, _, EB, rx.keep (keep_sub fun a z => z.elim id fun z => (let ⟨j, ds, z, _⟩ := z; blk_no z).elim), it i _ ad e hI, fun σ2 env2 E3 k3 o3 h3 => ⟨only_wipe o3 hj, ?_⟩⟩
    refine ht (A.blk H2 (MB A σ env D0)) rfl σ2 H' _ ⟨env2, _, _, E3, h3, fun b H4 s4 hb => ?_, xout0⟩
    have E4 := E3.stp s4
    cases b with
    | false =>
      simp only [Bool.false_eq_true, if_false] at hb ⊢
      have s5 : Stp A.R H2 H4 := s3.trans s4
      exact ⟨av, ad, s5.k D0 _ h2 nst, ra.keep (s5.keep fun a z => .inl (E1.mst a z)), hb, s2.trans s5⟩
    | true =>
      simp only [if_true] at hb ⊢
      refine he (A.blk H2 (MB A σ env D0)) rfl σ2 H4 _ ⟨env2, _, _, E4, hb, fun y d H5 s5 r hq => ?_, xout0⟩
      have s6 : Stp A.R H2 H5 := (s3.trans s4).trans s5
      have h6 := s6.k D0 _ h2 nst
      have r6 := ra.keep (s6.keep fun a z => .inl (E1.mst a z))
      refine ⟨av, h6, by rw [ra.length, line_is]; exact hq.1, av ++ [y], ad ++ [d], upd_same, ?_, hq.2, ups (s2.trans s6)⟩
      have r7 : Rep A.R (MB A σ env D0) H5 y d := r.keep (keep_sub fun a z => .inl z)
      exact (r6.append (.cons r7 .nil)).keep ⟨fun a o e n => by rw [upd_ne fun z => n (.inr z)]; exact e, fun a z => .inl z⟩
  · have e : i = ds.length := by omega
    subst e
    exact .inl ⟨wk.stop _ H2 kk, q D0 av ad H2 (Stp.none E.inv s1 hD) (s1.trans s2) h2 ra (ie ad hI)⟩
/-- [e for t in it if c] -/
theorem gf_lc {elt tg iter : Expr} {ifs : List Expr} {scope : Scope} {own : List (Str × Nat)} {pos : Pos} {gi : DI} {t : DG} {c : DB} {ge : DE} {js : List Nat} (hc : X.calm = true) (hN : X.N.Nodup) (hi : GI X A W tg iter gi) (ok : blkC X.N X.env.scope scope own = true)
    (hj : ∀ j ∈ js, j ∈ own.map (·.2))
    (hg : ∀ (B : Act), B.R = A.R → ∀ (s : Shared) (H : Hp) (C : Addr) (cl : List (Str × Addr)) (fp : List Addr), GG (X.blk s H scope (compEnvC scope cl C X.env) fp) B js tg t)
    (ht : ∀ (B : Act), B.R = A.R → ∀ (s : Shared) (H : Hp) (C : Addr) (cl : List (Str × Addr)) (fp : List Addr), GTs (X.blk s H scope (compEnvC scope cl C X.env) fp) B W0 ifs c)
    (he : ∀ (B : Act), B.R = A.R → ∀ (s : Shared) (H : Hp) (C : Addr) (cl : List (Str × Addr)) (fp : List Addr), GE (X.blk s H scope (compEnvC scope cl C X.env) fp) B W0 elt ge)
    (hs : ∀ x, foldedSetIterable iter X.env x = pure x := by intro _; rfl) : GF X A W (.ListComp elt [⟨tg, iter, ifs, 0⟩] scope pos) (dlc gi t c ge (own.map (·.2))) := by
  refine ⟨pe_imp (pe_lc (wi := toI A W gi) (g := fun v σ H Q => ∃ B : Act, B.R = A.R ∧ toG B js t v σ H Q) (tt := fun σ H Q => ∃ B : Act, B.R = A.R ∧ toB B W0 c σ H Q) (te := fun σ H Q => ∃ B : Act, B.R = A.R ∧ toE B W0 ge σ H Q) hc hN hi.p (blkOk_by ok) ?_ ?_ ?_ hs) fun σ H Q h => ?_⟩
  · exact fun s H C cl fp => ⟨fun pins s' σ H' v u Q I r ⟨B, e, w⟩ => (hg B e s H C cl fp).p.run pins s' σ H' v u Q I r w⟩
  · exact fun s H C cl fp => ⟨fun pins s' σ H' Q I ⟨B, e, w⟩ => (ht B e s H C cl fp).p.run pins s' σ H' Q I w⟩
  · exact fun s H C cl fp => ⟨fun pins s' σ H' Q I ⟨B, e, w⟩ => (he B e s H C cl fp).p.run pins s' σ H' Q I w⟩
  · exact lc_of hj (fun _ _ _ h => h) (fun B e v σ H Q h => ⟨B, e, h⟩) (fun B e σ H Q h => ⟨B, e, h⟩) (fun B e σ H Q h => ⟨B, e, h⟩) h
end
end Nb
set_option maxRecDepth 100000
set_option maxHeartbeats 2000000
/-! Nb: promises, calls. -/
namespace Nb
open PySem PySem.Spec PyProof.Rows L2
/-- exceptions whose context is none -/
abbrev Takes (X : Cx) (W : WX) : Prop := L2N.Takes X W
abbrev Zc (cls : Value) (d : Option Addr) : Obj → Prop := L2N.Zn cls d
/-- around a body nothing is let out -/
theorem takesN {X : Cx} : Takes X (fun _ _ _ _ => False) := fun _ _ x => by
  obtain ⟨_, _, _, _, _, _, _, _, _, _, _, _, _, _, _, _, z⟩ := x
  exact z.elim
theorem _root_.L2.Fun.okN {P : Program} {w : World} {K : PySem.W.Frag} {mg : Str → Option Value} {base : Heap} {x qual : Str} {st : Stmt} {f : Addr} {fd : FuncData} {N ps : List Str} {k : Nat} {sp : Sp} (F : Fun K x qual st f fd) (S : FnScope N ps (defScope st)) (len : ∀ vs H Q E, sp vs H Q E → vs.length = ps.length)
    (hbody : ∀ (cdv : Value) (A : Around) (outer : List Env) (s : Shared) (H : Hp) (vs : List V) (Q : VK) (E : XK), Room k (A.deeper (envOfC qual (defScope st) s.heap.objs.size f cdv)) → sp vs H Q E → ∃ t, PSs (cxOf (L2N.CX P w) P w K mg base N qual (defScope st) f cdv A outer s H E) (defBody st) t ∧ t { nx := fun _ H' => Q .non H', rt := Q } (L2.start N vs) H) :
    FnOk P w K mg base (L2N.CX P w) (k + 1) f fd ps sp := by
  obtain ⟨oc, od, kV, doc, pm, an, cdv, ct, osl, rfl, lk, hcd⟩ := F.ex
  exact fn_of lk hcd S len fun A outer s H vs Q E hr h => hbody cdv A outer s H vs Q E hr h
/-- what a def says of data: its arguments, what it may hand back, what it may raise -/
abbrev DSp := List D → (D → Prop) → (Ex → Prop) → Prop
def OutRep (R : RC) (M : Addr → Prop) (H H' : Hp) (fr : Bool) (v : V) (d : D) : Prop :=
  if fr = true then ∃ p vs ds, v = .ref p ∧ d = .lst ds ∧ H p = none ∧ H' p = some (.lst vs) ∧ RepL R (fun a => M a ∨ a = p) H' vs ds else Rep R M H' v d
def spD (K : PySem.W.Frag) (mg : Str → Option Value) (fr : Bool) (S : DSp) : Sp := fun vs H Q E => ∃ (R : RC) (M : Addr → Prop) (ds : List D) (Qd : D → Prop) (Ed : Ex → Prop),
  (R.K = K ∧ R.mg = mg ∧ R.hx = none) ∧ HInv R H ∧ (∀ a, R.st = some a → M a) ∧ (∀ a, M a → H a ≠ none) ∧ RepL R M H vs ds ∧ S ds Qd Ed ∧
  (∀ v d H', Stp R H H' → OutRep R M H H' fr v d → Qd d → Q v H') ∧ ∀ x cls dd H', Stp R H H' → XRep R M H' cls dd x → Ed x → E cls dd H'
def startD (N : List Str) (ds : List D) : DEnv := ds.map SD.val ++ List.replicate (N.length - ds.length) .un
theorem erep_start {A : Act} (ok : A.Ok) {N : List Str} {vs : List V} {ds : List D} (r : RepL A.R A.M0 A.H0 vs ds) : ERep A A.H0 (L2.start N vs) (startD N ds) := by
  have hl := r.length
  have no : ∀ {i : Nat} {es : List D}, (startD N ds)[i]? = some (.own es) → False := fun {i es} h => by
    unfold startD at h
    rw [List.getElem?_append] at h
    split at h
    · rw [List.getElem?_map] at h
      cases e : ds[i]? with
      | none => rw [e] at h; cases h
      | some d => rw [e] at h; cases h
    · rw [List.getElem?_replicate] at h
      split at h <;> cases h
  refine ⟨ok, by unfold L2.start startD; simp [hl], fun i d h => ?_, fun i es h => (no h).elim, fun i j es fs a h => (no h).elim, Stp.refl _ _⟩
  unfold startD at h
  rw [List.getElem?_append] at h
  split at h
  · rename_i hi
    rw [List.length_map] at hi
    rw [List.getElem?_map] at h
    cases e : ds[i]? with
    | none => rw [e] at h; cases h
    | some d' =>
      rw [e] at h
      cases h
      obtain ⟨v, h1, h2⟩ := r.get e
      refine ⟨v, ?_, h2.keep (keep_sub fun a z => ?_)⟩
      · unfold L2.start
        rw [List.getElem?_append_left (by rw [List.length_map, hl]; exact hi), List.getElem?_map, h1]
        rfl
      · rcases z with z | ⟨j, es, z, _⟩
        · exact z
        · exact (no z).elim
  · rw [List.getElem?_replicate] at h
    split at h <;> cases h
section
variable {X : Cx} {A : Act} {W : WX}
def dcall (S : DSp) (gs : DL) : DE := fun env Q Ed => gs env (fun ds => S ds Q Ed) Ed
def dcallF (S : DSp) (gs : DL) : DF := fun env Q Ed => gs env (fun ds => S ds (fun d => match d with
  | .lst es => Q es
  | _ => False) Ed) Ed
/-- what a call wants of its place -/
structure CallOk (X : Cx) (W : WX) (x : Str) (fr : Bool) (S : DSp) : Prop where
  ex : ∃ k f fd ps, FnOk X.prog X.w X.K X.mg X.base (L2N.CX X.prog X.w) k f fd ps (spD X.K X.mg fr S) ∧ Room k X.A ∧ Gl X x ∧ X.mg x = some (.ref f) ∧ PySem.W.keepIn X.K (.ref f) = true ∧ Binds X.K fd ps [] ∧ (∀ σ, PassesAt (L2N.CX X.prog X.w) X σ (WE W σ)) ∧ (x == ("__debug__" : Str)) = false
theorem spD_of {fr : Bool} {S : DSp} {σ : St} {H1 : Hp} {env : DEnv} {vs : List V} {ds : List D} {Q : VK} {Qd : D → Prop} {Ed : Ex → Prop} {K : PySem.W.Frag} {mg : Str → Option Value} (hK : A.R.K = K) (hm : A.R.mg = mg) (h0 : A.R.hx = none) (E1 : ERep A H1 σ env) (r : RepL A.R (MM A σ env) H1 vs ds) (hS : S ds Qd Ed)
    (q : ∀ v d H', Stp A.R H1 H' → OutRep A.R (MM A σ env) H1 H' fr v d → Qd d → Q v H') (x : XOut A W σ env H1 Ed) : spD K mg fr S vs H1 Q (WE W σ) :=
  ⟨A.R, MM A σ env, ds, Qd, Ed, ⟨hK, hm, h0⟩, E1.inv, E1.mst, fun a z => E1.mtrk z, r, hS, q, fun e cls dd H' s2 r2 hq => x e cls dd H' s2 r2 hq⟩
theorem ge_call {x : Str} {S : DSp} {e : Expr} {es : List Expr} {gs : DL} {p pos : Pos} (c : CallOk X W x false S) (ha : GL X A W (e :: es) gs) (h0 : A.R.hx = none) (hK : A.R.K = X.K := by rfl) (hm : A.R.mg = X.mg := by rfl)
    (he : starEach (e :: es) X.env = (false, eval e X.env) :: starEach es X.env := by rfl) (hpl : (backTo pos (starEach es X.env)).any (·.1) = false := by rfl) : GE X A W (.Call (.Name x p) (e :: es) [] pos) (dcall S gs) := by
  obtain ⟨k, f, fd, ps, F, hr, hg, hmx, hk, hb, hx, hd⟩ := c.ex
  refine ⟨pe_imp (pe_callS F hr hg hmx hk hb hx ha.p hd he hpl) fun σ H Q ⟨env, Qd, Ed, E, h, q, x⟩ => ?_⟩
  refine ⟨env, _, Ed, E, h, fun vs ds H1 s r hS => spD_of hK hm h0 (E.stp s) r hS (fun v d H' s2 r2 hq => ?_) (x.stp s), x⟩
  unfold OutRep at r2
  rw [if_neg Bool.false_ne_true] at r2
  exact q v d H' (s.trans s2) r2 hq
theorem gf_call {x : Str} {S : DSp} {e : Expr} {es : List Expr} {gs : DL} {p pos : Pos} (c : CallOk X W x true S) (ha : GL X A W (e :: es) gs) (h0 : A.R.hx = none) (hK : A.R.K = X.K := by rfl) (hm : A.R.mg = X.mg := by rfl)
    (he : starEach (e :: es) X.env = (false, eval e X.env) :: starEach es X.env := by rfl) (hpl : (backTo pos (starEach es X.env)).any (·.1) = false := by rfl) : GF X A W (.Call (.Name x p) (e :: es) [] pos) (dcallF S gs) := by
  obtain ⟨k, f, fd, ps, F, hr, hg, hmx, hk, hb, hx, hd⟩ := c.ex
  refine ⟨pe_imp (pe_callS F hr hg hmx hk hb hx ha.p hd he hpl) fun σ H Q ⟨env, Qd, Ed, E, h, q, x⟩ => ?_⟩
  refine ⟨env, _, Ed, E, h, fun vs ds H1 s r hS => spD_of hK hm h0 (E.stp s) r hS (fun v d H' s2 r2 hq => ?_) (x.stp s), x⟩
  unfold OutRep at r2
  rw [if_pos rfl] at r2
  obtain ⟨p, us, es', rfl, rfl, hp, h1, r3⟩ := r2
  exact q p us es' H' (Stp.none E.inv s hp) (s.trans s2) h1 r3 hq
end
/-- what is wanted at the ends of a def -/
def endD (fr : Bool) (Qd : D → Prop) (Ed : Ex → Prop) : KEnd := { nx := fun _ => fr = false ∧ Qd .non, rt := fun d _ => Qd d, ex := fun x _ => Ed x }
section
variable {P : Program} {w : World} {K : PySem.W.Frag} {mg : Str → Option Value} {base : Heap}
/-- a def holds its promise: its body as a term of rules, and the reading of that term over data -/
theorem fn_ok {x qual : Str} {st : Stmt} {f : Addr} {fd : FuncData} {N ps : List Str} {k : Nat} {fr : Bool} {S : DSp} (F : Fun K x qual st f fd) (sc : FnScope N ps (defScope st)) (len : ∀ ds Qd Ed, S ds Qd Ed → ds.length = ps.length)
    (hb : ∀ (cdv : Value) (Ar : Around) (outer : List Env) (s : Shared) (H : Hp) (E : XK) (R : RC) (M : Addr → Prop) (ds : List D) (Qd : D → Prop) (Ed : Ex → Prop), Room k (Ar.deeper (envOfC qual (defScope st) s.heap.objs.size f cdv)) → R.K = K → R.mg = mg → R.hx = none → S ds Qd Ed →
      ∃ g, GSs (cxOf (L2N.CX P w) P w K mg base N qual (defScope st) f cdv Ar outer s H E) ⟨R, H, M, fr⟩ (fun cls d _ H => E cls d H) (defBody st) g ∧ g (endD fr Qd Ed) (startD N ds)) :
    FnOk P w K mg base (L2N.CX P w) (k + 1) f fd ps (spD K mg fr S) := by
  refine F.okN sc (fun vs H Q E ⟨R, M, ds, Qd, Ed, _, _, _, _, r, h, _⟩ => r.length.trans (len _ _ _ h)) fun cdv Ar outer s H vs Q E hr ⟨R, M, ds, Qd, Ed, ⟨hK, hm, hx⟩, hi, hM1, hM2, r, h, q, x⟩ => ?_
  obtain ⟨g, G, hg⟩ := hb cdv Ar outer s H E R M ds Qd Ed hr hK hm hx h
  refine ⟨_, G.p, ?_⟩
  have ok : Act.Ok ⟨R, H, M, fr⟩ := ⟨hi, hM1, hM2⟩
  have E0 : ERep ⟨R, H, M, fr⟩ H (L2.start N vs) (startD N ds) := erep_start (A := ⟨R, H, M, fr⟩) ok r
  have sub : ∀ {σ' : St} {env' : DEnv}, ∀ a, M a → MM ⟨R, H, M, fr⟩ σ' env' a := fun a z => .inl z
  refine ⟨startD N ds, endD fr Qd Ed, E0, hg, fun σ' H' env' _ E' hq => ?_, fun _ _ _ _ _ hq => hq.elim, fun _ _ _ _ _ hq => hq.elim, fun v d σ' H' env' E' rr hq => ?_, fun e cls dd σ' H' env' _ E' rx hq => ?_⟩
  · refine q .non .non H' E'.base ?_ hq.2
    unfold OutRep
    rw [hq.1, if_neg Bool.false_ne_true]
    exact .non
  · exact q v d H' E'.base rr hq
  · refine x e cls dd H' E'.base ?_ hq
    obtain ⟨C, h1, h2, h3⟩ := rx
    refine ⟨C, h1, h2, h3.imp id fun ⟨d, fv, a1, a2, a3, a4⟩ => ⟨d, fv, a1, a2, fun z => a3 (.inl z), a4.keep (keep_sub fun a z => .inl z)⟩⟩
end
end Nb
set_option maxRecDepth 100000
set_option maxHeartbeats 2000000
/-! Nb: defs by name. -/
namespace Nb
open PySem PySem.Spec PyProof.Rows L2
/-- the def that stands under the name x, and what it promises, with room for k calls -/
structure Has (P : Program) (w : World) (K : PySem.W.Frag) (mg : Str → Option Value) (base : Heap) (x : Str) (k : Nat) (fr : Bool) (S : DSp) : Prop where
  ex : ∃ f fd ps, FnOk P w K mg base (L2N.CX P w) k f fd ps (spD K mg fr S) ∧ mg x = some (.ref f) ∧ PySem.W.keepIn K (.ref f) = true ∧ Binds K fd ps []
theorem Has.mono {P : Program} {w : World} {K : PySem.W.Frag} {mg : Str → Option Value} {base : Heap} {x : Str} {j k : Nat} {fr : Bool} {S : DSp} (h : Has P w K mg base x j fr S) (hk : j ≤ k) : Has P w K mg base x k fr S := by
  obtain ⟨f, fd, ps, F, a, b, c⟩ := h.ex
  exact ⟨f, fd, ps, F.mono hk, a, b, c⟩
/-- a weaker promise -/
theorem Has.imp {P : Program} {w : World} {K : PySem.W.Frag} {mg : Str → Option Value} {base : Heap} {x : Str} {k : Nat} {fr : Bool} {S S' : DSp} (h : Has P w K mg base x k fr S) (i : ∀ ds Q E, S' ds Q E → S ds Q E) : Has P w K mg base x k fr S' := by
  obtain ⟨f, fd, ps, F, a, b, c⟩ := h.ex
  exact ⟨f, fd, ps, F.imp fun vs H Q E ⟨R, M, ds, Qd, Ed, h1, h2, h3, h4, h5, h6, h7⟩ => ⟨R, M, ds, Qd, Ed, h1, h2, h3, h4, h5, i _ _ _ h6, h7⟩, a, b, c⟩
theorem Has.call {X : Cx} {W : WX} {x : Str} {k : Nat} {fr : Bool} {S : DSp} (h : Has X.prog X.w X.K X.mg X.base x k fr S) (hr : Room k X.A) (tk : Takes X W) (hg : Gl X x := by rfl) (hd : (x == ("__debug__" : Str)) = false := by decide) : CallOk X W x fr S := by
  obtain ⟨f, fd, ps, F, a, b, c⟩ := h.ex
  exact ⟨k, f, fd, ps, F, hr, hg, a, b, c, fun σ => L2N.passAt tk σ, hd⟩
/-- a def of the text becomes one that has its promise -/
theorem Fun.has {P : Program} {w : World} {K : PySem.W.Frag} {mg : Str → Option Value} {base : Heap} {x qual : Str} {st : Stmt} {f : Addr} {fd : FuncData} {ps : List Str} {k : Nat} {fr : Bool} {S : DSp} (F : Fun K x qual st f fd) (hm : mg x = some (.ref f)) (hb : Binds K fd ps [])
    (o : FnOk P w K mg base (L2N.CX P w) k f fd ps (spD K mg fr S)) : Has P w K mg base x k fr S := ⟨f, fd, ps, o, hm, F.kp, hb⟩
/-- a module's constant -/
theorem ge_glob {X : Cx} {A : Act} {W : WX} {x : Str} {v : V} {d : D} {u : Value} {pos : Pos} (hg : Gl X x) (hm : X.mg x = some u) (r : RelV v u) (rd : ∀ M H, Rep A.R M H v d) (hd : (x == ("__debug__" : Str)) = false := by decide) : GE X A W (.Name x pos) (dk d) := ge_const (pe_glob hg hm r hd) rd
end Nb
set_option maxRecDepth 100000
set_option maxHeartbeats 2000000
/-! Nb: more of values. -/
namespace Nb
open PySem PySem.Spec PyProof.Rows L2
theorem room_units {k : Nat} {A : Around} (r : Room k A) : A.units + 64 < cLine := by
  have := r.un
  omega
section
variable {X : Cx} {A : Act} {W : WX}
/-- a built-in class as a value -/
theorem ge_tyc {x : Str} {n : String} {pos : Pos} (hg : Gl X x) (hm : X.mg x = none) (hv : bootBuiltins x = some (.type n) := by decide +kernel) (hP : Gl X x → X.mg x = none → bootBuiltins x = some (.type n) → PE X (.Name x pos) (tC (.ty n)) := by exact fun hg hm hv => pe_bltn hg hm hv rfl) : GE X A W (.Name x pos) (dk (.ty n)) :=
  ge_const (hP hg hm hv) fun _ _ => .ty n
/-- text.index(text) -/
def fIndex (x y : D) (Q : D → Prop) : Prop := match x, y with
  | .str a, .str b => ∃ i rest, Builtin.Str.occurrences a b 0 a.length 1 = i :: rest ∧ Q (.int (i : Nat))
  | _, _ => False
end
end Nb
set_option maxRecDepth 100000
set_option maxHeartbeats 2000000
/-! Nb: sorted(text), text.index(text), text[::-1]. -/
namespace Nb
open PySem PySem.Spec PyProof.Rows L2
section
variable {X : Cx} {A : Act} {W : WX}
def signsS (z : Str) : List Str := z.cps.toList.map fun c => (⟨#[c]⟩ : Str)
theorem sgnD_eq (z : Str) : sgnD z = (signsS z).map D.str := by
  unfold sgnD signsS
  rw [List.map_map]
  rfl
def fSortT (ds : List D) (Q : List D → Prop) : Prop := match ds with
  | [.str z] => z.length ≤ LINE ∧ ∀ ss : List Str, ss.Perm (signsS z) → sortedS ss = true → Q (ss.map D.str)
  | _ => False
def dcbF (f : List D → (List D → Prop) → Prop) (gs : DL) : DF := fun env Q Ed => gs env (fun ds => f ds Q) Ed
/-- list(x), a new list -/
def fListF (ds : List D) (Q : List D → Prop) : Prop := match ds with
  | [.lst xs] => Q xs
  | [.tup xs] => Q xs
  | [.str z] => z.length ≤ LINE ∧ Q (sgnD z)
  | _ => False
end
end Nb
set_option maxRecDepth 100000
set_option maxHeartbeats 2000000
/-! Nb: text[::-1], list(..), xs.append(ys.pop(k)). -/
namespace Nb
open PySem PySem.Spec PyProof.Rows L2
section
variable {X : Cx} {A : Act} {W : WX}
/-- the text behind [::-1] -/
def revS (z : Str) : Str := ⟨((Builtin.Str.strSliceIndices none none (-1) z.length).filterMap (z.cps[·]?)).toArray⟩
def dRev (g : DE) : DE := fun env Q Ed => g env (fun d => match d with
  | .str z => (revS z).length ≤ LINE ∧ Q (.str (revS z))
  | _ => False) Ed
/-- xs.append(ys.pop(k)) -/
def dappPop (i j : Nat) (g : DE) : DS := fun K env => match env[i]? with
  | some (.own ds) => (match env[j]? with
    | some (.own es) => g env (fun d => match d with
      | .int n => -(2 ^ 63) ≤ n ∧ n < 2 ^ 63 ∧ ∃ k y, seqIndex? n es.length = some k ∧ es[k]? = some y ∧ ds.length < LINE ∧ K.nx ((env.set j (.own (es.eraseIdx k))).set i (.own (ds ++ [y])))
      | _ => False) fun x => K.ex x env
    | _ => False)
  | _ => False
/-- list(x), a new list -/
theorem gf_list {p pos : Pos} {e : Expr} {g : DE} (hc : X.calm = true) (hm : X.mg "list" = none) (he : GE X A W e g) (hK : A.R.K = X.K := by rfl)
    (hP : ∀ r t, X.mg "list" = none → CallR X (.type "list") r → PA X [e] t → PE X (.Call (.Name "list" p) [e] [] pos) (tCB r t) := by exact fun r t hm c h => pe_callTy c (by rfl) hm PyProof.Rows.boot_list h)
    (hA : GE X A W e g → GL X A W [e] (dcons g dnil) := by exact fun h => gl_cons h gl_nil) : GF X A W (.Call (.Name "list" p) [e] [] pos) (dcbF fListF (dcons g dnil)) := by
  refine ⟨pe_imp (hP _ _ hm (call_list_of.or (call_listS hc)) (hA he).p) fun σ H Q ⟨env, Qd, Ed, E, h, q, x⟩ => toL_step E h x fun vs ds H1 s1 E1 x1 r h1 => ?_⟩
  have fin : ∀ {us : List V} {es : List D}, RepL A.R (MM A σ env) H1 us es → Qd es → ∀ p, H1 p = none → Q (.ref p) (upd H1 p (.lst us)) := fun {us es} r hq p hp => by
    have s : Stp A.R H1 (upd H1 p (.lst us)) := Stp.new hp
    exact q p _ _ _ (Stp.none E.inv s1 hp) (s1.trans s) upd_same (r.keep ⟨(E1.keep s).k, fun a z => z.elim .inl fun z => .inr (by rw [z]; exact hp)⟩) hq
  match ds, r, h1 with
  | [.lst ds], .cons (.lst (a := a) (xs := vs) e n rl) .nil, h => exact .inl ⟨a, vs, rfl, .inl (SqL.of e), fin rl h⟩
  | [.tup ds], .cons (.tup (a := a) (xs := vs) t rl) .nil, h => exact .inl ⟨a, vs, rfl, .inr (by rw [← hK]; exact t.sq), fin rl h⟩
  | [.str z], .cons (.str _) .nil, h => exact .inr ⟨z, rfl, by rw [line_is]; exact h.1, fin (rep_signs _) h.2⟩
end
end Nb
set_option maxRecDepth 100000
set_option maxHeartbeats 2000000
/-! Nb: own exceptions whose __init__ calls super().__init__ with a text, then stores its fields. -/
namespace Nb
open PySem PySem.Spec PyProof.Rows L2 PySem.W PySem.Calls
/-- what the written part says of such a class, at C; of its __init__, at fI; of the cell that holds the class -/
structure SupTxt (P : Program) (K : PySem.W.Frag) (mg : Str → Option Value) (x : Str) (C fI : Addr) (fs : List Str) (st : Stmt) : Prop where
  gC : mg x = some (.ref C)
  cls : ∃ nm q N bs bm sn sub ab col dd k0 k1 k2 k3 k5, K.lookup C = some (excClassObj nm q C N bs bm true sn sub ab col dd k0 k1 k2 k3 k5 "ValueError.__new__") ∧ PySem.HandSPX.refsVE bm = true
  sa : findIn K (.ref C) "__setattr__" = some (some (.builtin "object.__setattr__"))
  ga : findIn K (.ref C) "__getattribute__" = some (some (.builtin "BaseException.__getattribute__"))
  gg : findIn K (.ref C) "__getattr__" = some none
  noN : ∀ f ∈ fs, findIn K (.ref C) f = some none
  iC : findIn K (.ref C) "__init__" = some (some (.ref fI))
  tC : typeIn K (.ref fI) = some (.type "function")
  kC : keepIn K (.ref C) = true
  exC : subIn K (.ref C) (.type "BaseException") = some true
  veC : subIn K (.ref C) (.type "ValueError") = some true
  tyC : typeIn K (.ref C) = some (.type "type")
  hdC : hasDictIn K C = true
  te : exmOne K (.ref C) (.ref C) = some true
  sup : ks_superIn K C C "__init__" = some (some (.builtin "ValueError.__init__"))
  sCC : mroIn K C (.ref C) = some true
  opq : nsIn K cStatics "thirdparty.any" = some none
  sN : mg "super" = none
  top : (P.main.scope.names.lookup ("super" : Str)).isSome = false
  fn : ∃ (cc cda : Addr) (oc : Value) (od : Option Addr) (doc pm : Value) (an : Option Addr) (ct : Value) (osl : Array (Option Value)) (qual : Str) (ccl cl : Value) (cdd cld : Option Addr) (ccs csl : Array (Option Value)) (vs : Array Value) (file : Str) (tf : Tok),
    K.lookup fI = some ⟨oc, od, .func (ksFn "__init__" qual (defArgs st) (defBody st) (defScope st) .none .none doc pm an (.ref cda) ct cc), osl⟩ ∧ codeIn K (.ref cda) qual = true ∧
    K.lookup cc = some ⟨cl, cld, .cell (some (.ref C)), csl⟩ ∧ K.lookup cda = some ⟨ccl, cdd, .fields vs, ccs⟩ ∧ vs[2]? = some (.str file tf) ∧ ((P.main.file : Str) == file) = true
/-- the module's names and the built-ins, in the heap -/
structure NsAt (mg : Str → Option Value) (h : Heap) : Prop where
  g : h.Ns mainGlobals mg
  b : ∃ mb, h.Ns builtinsNs mb ∧ ∀ x : Str, x ≠ "__name__" → mb x = bootBuiltins x
section
variable {prog : Program} {w : World} {A : Around} {E : Value → Shared → Prop} {s : Shared} {K : PySem.W.Frag} {mg : Str → Option Value} {C fI : Addr}
/-- super().__init__('..') in a class of own exceptions -/
theorem sup_init {x : Addr} {t0 cda cc L : Addr} {body : List Stmt} {q : Str} {scope : Scope} {fd : FuncData} {ar : Arg} {m : Str → Option Value} {vs : Array Value} {file : Str} {tf : Tok} {oc ccl cl : Value} {od cdd cld : Option Addr} {osl ccs csl : Array (Option Value)}
    {msg : Str} {j : Nat} {p0 p1 p2 p3 p4 p5 : Pos} {cn : Str} {fs : List Str} {st : Stmt} {Q : Flow → Shared → Prop} (T : SupTxt prog K mg cn C fI fs st) (X : K.In s.heap) (N : NsAt mg s.heap) (hx : s.heap.get? x = some (PySem.HandSPX.excO C t0)) (hL : s.heap.Ns L m)
    (hf : K.lookup fI = some ⟨oc, od, .func fd, osl⟩) (hp : (fd.params.posonlyargs ++ fd.params.args).head? = some ar) (hv : m ar.arg = some (.ref x))
    (hcode : K.lookup cda = some ⟨ccl, cdd, .fields vs, ccs⟩) (hvs : vs[2]? = some (.str file tf)) (hfile : ((prog.main.file : Str) == file) = true) (hcell : K.lookup cc = some ⟨cl, cld, .cell (some (.ref C)), csl⟩)
    (hks : scope.names.lookup ("super" : Str) = some .globalImplicit) (hkc : scope.names.lookup ("__class__" : Str) = some .free) (hka : scope.names.lookup ar.arg = some .local) (hk : scope.kind = .function) {pl : Sem Bool}
    (he : eval (.Call (.Attribute (.Call (.Name "super" p0) [] [] p1) "__init__" p2) [.Constant (.str msg) j p3] [] p4) (ksEnv q scope L fI (.ref cda) cc) = (do
      let ov ← attributeBase (.Call (.Name "super" p0) [] [] p1) "__init__" (ksEnv q scope L fI (.ref cda) cc) (eval (.Call (.Name "super" p0) [] [] p1) (ksEnv q scope L fI (.ref cda) cc))
      standAt p2.atName
      let (f, first) ← holding [ov] (getMethod ov "__init__" pl)
      callWith p4 f first (backTo p4 (starEach [.Constant (.str msg) j p3] (ksEnv q scope L fI (.ref cda) cc))) []))
    (h : ∀ h' tk t', (∀ b o, b ≠ x → s.heap.get? b = some o → h'.get? b = some o) → h'.get? x = some (PySem.HandSPX.excO C t') → s.heap.objs.size ≤ h'.objs.size → Q .next { s with heap := h', toks := tk }) :
    _root_.PySem.wpAt (model prog w) A (.func body (ksEnv q scope L fI (.ref cda) cc)) (exec (.Expr (.Call (.Attribute (.Call (.Name "super" p0) [] [] p1) "__init__" p2) [.Constant (.str msg) j p3] [] p4) p5) (ksEnv q scope L fI (.ref cda) cc)) Q E s := by
  refine ks_wpAt_Expr_any ?_ (by show (scope.kind == .module && _) = false; rw [hk]; rfl) (by rfl)
  refine ks_wpAt_MethodCall (pl := pl) ?_ he
  obtain ⟨nm, qn, N', bs, bm, sn, sub, ab, col, dd, k0, k1, k2, k3, k5, hC, hbm⟩ := T.cls
  have hCh := X _ _ hC
  obtain ⟨hh, g, d, t, os⟩ := s
  have I : InstAt hh x (PySem.HandSPX.excO C t0) C none := ⟨hx, rfl, rfl, trivial⟩
  refine ks_wpAt_super_base (env := ksEnv q scope L fI (.ref cda) cc) hks hkc (by decide) rfl (X _ _ hf) rfl hp rfl (X _ _ hcode) rfl hvs hfile T.top ?_
  obtain ⟨mb, hb1, hb2⟩ := N.b
  refine ks_loadName_global hk hks (loadGlobal_builtin (env := ksEnv q scope L fI (.ref cda) cc) N.g T.sN hb1 ((hb2 "super" (by decide)).trans (show bootBuiltins "super" = some (.type "super") by decide +kernel)) ⟨rfl, ?_⟩)
  refine wpAny_loadName_free hk hkc rfl ⟨_, X _ _ hcell, rfl⟩ ?_
  refine wpAny_loadName_local hk hka hL hv ?_
  refine ks_wpAny_isType_cls hCh rfl ⟨rfl, ?_⟩
  refine ks_wpAny_call_super hCh rfl I.at_ I.cls (fun c e => by cases e) (looks_mroIn X T.sCC) (fun h1 e1 k1' => ?_)
  -- the object of super's: its __init__
  have X1 : K.In h1 := X.keeps k1'
  have I1 : InstAt h1 x (PySem.HandSPX.excO C t0) C none := ⟨k1' _ _ hx, rfl, rfl, trivial⟩
  have hcl : clsIn K C = some { name := nm, bases := bs, mro := .ref C :: bm, ns := N', qualname := qn, hasDict := true, slotNames := sn, subclasses := sub, abstract := ab, collection := col, hasDel := false } := by unfold clsIn; rw [hC] <;> rfl
  have hsup := T.sup
  unfold ks_superIn at hsup
  rw [hcl] at hsup
  have hI : Looks (model prog w) h1 (isInstance (.ref x) (.type "ValueError")) true := I1.type.andThen (looks_subIn X1 T.veC)
  refine kxs_getMethod kxs_ValueError e1 (looks_opaque X1 T.opq) (l₀ := .ref C :: bm) ?_ rfl X1 hsup hI (ks_ne X1 I1 hcl) (by decide) ?_
  · exact fun A Q E s k q => wpAny_bind ((looks_clsIn X1 hcl) A _ E s k (wpAny_pure q))
  have hmw : (h1.push (kxs_mw "ValueError.__init__" x)).get? h1.objs.size = some (kxs_mw "ValueError.__init__" x) := Heap.get?_push_size _ rfl
  refine kxs_callWith (i := "ValueError.__init__") (x := x) (by rfl) ?_
  refine evalArgs_plain (rest := []) (spliced_cons ?_)
  simp only [Bool.false_eq_true, if_false]
  refine wpAny_Constant_str (spliced_nil ⟨hmw, ?_⟩)
  have hC2 : (h1.push (kxs_mw "ValueError.__init__" x)).get? C = some (excClassObj nm qn C N' bs bm true sn sub ab col dd k0 k1 k2 k3 k5 "ValueError.__new__") := Heap.get?_push_of_some _ (k1' _ _ hCh)
  have hx2 : (h1.push (kxs_mw "ValueError.__init__" x)).get? x = some (PySem.HandSPX.excO C t0) := Heap.get?_push_of_some _ (k1' _ _ hx)
  show wpAny _ _ (call (.ref h1.objs.size) [.str msg (t + 1)]) _ _ _
  refine wpAny_call (codeAny_of_tree ?_)
  show wpAny _ A.in1 (callAny (.ref h1.objs.size) ⟨[.str msg (t + 1)], []⟩) _ _ _
  simp only [callAny]
  refine wpAny_bind (wpAny_load hmw ?_)
  simp only [kxs_mw, show (Value.type "method-wrapper" == Value.type "method" || Value.type "method-wrapper" == Value.type "builtin_function_or_method" || Value.type "method-wrapper" == Value.type "method-wrapper") = true by decide, if_true]
  refine KFB.if_so (by decide) ?_
  refine wpAny_bind (check_bound_init PySem.F.excBase_ValueError.toExcCallFacts hC2 hx2 rfl ?_)
  refine wpAny_bind (wpAny_pure (wpAny_pure ?_))
  refine ⟨plainId_quiet PySem.F.excBase_ValueError.init.plain _, codeAny_builtin PySem.F.excBase_ValueError.initEntry ?_⟩
  refine exc_init_tree (cls := .ref C) (t0 := t0) (dv := none) (c2 := .none) (c3 := .none) (b4 := .bool false) hx2 (by show 1 ≤ sizeLine; rw [sizeLine_eq]; omega) fun h' k3 e3 e4 => ?_
  refine h h' _ _ (fun b o hb e => k3 b o hb (Heap.get?_push_of_some _ (k1' b o e))) e3 ?_
  have z1 := Heap.lt_size e1
  have z2 := Heap.lt_size e4
  have z3 : (h1.push (kxs_mw "ValueError.__init__" x)).objs.size = h1.objs.size + 1 := size_push' _ _
  have z4 : (h1.push (kxs_mw "ValueError.__init__" x)).objs.size < h'.objs.size := z2
  have z5 : hh.objs.size < h1.objs.size := z1
  show hh.objs.size ≤ h'.objs.size
  omega
theorem kept_but {K : Frag} {h h' : Heap} {x : Addr} (X : K.In h) (hx : K.lookup x = none) (k : ∀ b o, b ≠ x → h.get? b = some o → h'.get? b = some o) : K.In h' := fun a o e =>
  k a o (fun z => by rw [z, hx] at e; cases e) (X a o e)
/-- a made one -/
theorem ctx_of {o : Obj} {fv : Array Value} (h : o.data = .fields fv) (e : fv[2]? = some .none) : PySem.PXN.CtxN o := fun vs q => by
  rw [h] at q
  cases q
  exact e
end
section
variable {X : Cx} {A : Act} {C fI : Addr}
theorem nsAt_of {pins : List (Addr × Obj)} {σ : St} {H : Hp} {s : Shared} (I : Inv X pins σ H s) : NsAt X.mg s.heap := by
  obtain ⟨mb, h1, h2⟩ := I.ok.mod.blt
  exact ⟨I.ok.mod.glob.keeps I.bk, mb, h1.keeps I.bk, h2⟩
/-- raise C(e): data -/
def draise1 (x f : Str) (g : DE) : DS := fun K env => g env (fun d => K.ex (x, [(f, d)]) env) fun e => K.ex e env
end
end Nb
set_option maxRecDepth 100000
set_option maxHeartbeats 2000000
/-! Nb: what is caught: the suite, the defs that it calls, isinstance, fields. -/
namespace Nb
open PySem PySem.Spec PyProof.Rows L2
mutual
def D.noexc : D → Bool
  | .exc _ _ => false
  | .tup ds => D.noexcL ds
  | .lst ds => D.noexcL ds
  | .ins _ fs => D.noexcF fs
  | _ => true
def D.noexcL : List D → Bool
  | [] => true
  | d :: ds => D.noexc d && D.noexcL ds
def D.noexcF : List (Str × D) → Bool
  | [] => true
  | (_, d) :: ds => D.noexc d && D.noexcF ds
end
def RC.hold (R : RC) (h : Option (Addr × Addr × Option Addr)) : RC := { R with hx := h }
section
variable {R : RC} {M : Addr → Prop} {H : Hp} {h : Option (Addr × Addr × Option Addr)}
mutual
/-- data that is no exception's means the same whatever exception is at hand -/
theorem Rep.hold : ∀ {v : V} {d : D}, Rep R M H v d → D.noexc d = true → Rep (R.hold h) M H v d
  | _, _, .non, _ => .non
  | _, _, .bl b, _ => .bl b
  | _, _, .int i, _ => .int i
  | _, _, .str x, _ => .str x
  | _, _, .ty n, _ => .ty n
  | _, _, .tup t l, e => .tup t (RepL.hold l (by unfold D.noexc at e; exact e))
  | _, _, .lst t n l, e => .lst t n (RepL.hold l (by unfold D.noexc at e; exact e))
  | _, _, .sto e, _ => .sto e
  | _, _, .exc0 _ _, e => by unfold D.noexc at e; cases e
  | _, _, .excF _ _ _ _ _, e => by unfold D.noexc at e; cases e
  | _, _, .ins t n b l, e => .ins t n b (RepF.hold l (by unfold D.noexc at e; exact e))
  | _, _, .dct t n, _ => .dct t n
theorem RepL.hold : ∀ {v : List V} {d : List D}, RepL R M H v d → D.noexcL d = true → RepL (R.hold h) M H v d
  | _, _, .nil, _ => .nil
  | _, _, .cons a b, e => by
    unfold D.noexcL at e
    rw [Bool.and_eq_true] at e
    exact .cons (Rep.hold a e.1) (RepL.hold b e.2)
theorem RepF.hold : ∀ {v : List (Str × V)} {d : List (Str × D)}, RepF R M H v d → D.noexcF d = true → RepF (R.hold h) M H v d
  | _, _, .nil, _ => .nil
  | _, _, .cons a b, e => by
    unfold D.noexcF at e
    rw [Bool.and_eq_true] at e
    exact .cons (Rep.hold a e.1) (RepF.hold b e.2)
end
mutual
theorem Rep.none0 (e : R.hx = none) : ∀ {v : V} {d : D}, Rep R M H v d → D.noexc d = true
  | _, _, .non => rfl
  | _, _, .bl b => rfl
  | _, _, .int i => rfl
  | _, _, .str x => rfl
  | _, _, .ty n => rfl
  | _, _, .tup t l => by unfold D.noexc; exact RepL.none0 e l
  | _, _, .lst t n l => by unfold D.noexc; exact RepL.none0 e l
  | _, _, .sto _ => rfl
  | _, _, .exc0 q _ => by rw [e] at q; cases q
  | _, _, .excF q _ _ _ _ => by rw [e] at q; cases q
  | _, _, .ins t n b l => by unfold D.noexc; exact RepF.none0 e l
  | _, _, .dct _ _ => rfl
theorem RepL.none0 (e : R.hx = none) : ∀ {v : List V} {d : List D}, RepL R M H v d → D.noexcL d = true
  | _, _, .nil => rfl
  | _, _, .cons a b => by unfold D.noexcL; rw [Rep.none0 e a, RepL.none0 e b]; rfl
theorem RepF.none0 (e : R.hx = none) : ∀ {v : List (Str × V)} {d : List (Str × D)}, RepF R M H v d → D.noexcF d = true
  | _, _, .nil => rfl
  | _, _, .cons a b => by unfold D.noexcF; rw [Rep.none0 e a, RepF.none0 e b]; rfl
end
end
/-- the activation within a suite -/
abbrev Act.hold (A : Act) (h : Option (Addr × Addr × Option Addr)) : Act := ⟨A.R.hold h, A.H0, A.M0, A.fr⟩
section
variable {A : Act} {H H' : Hp} {σ : St} {env : DEnv}
theorem Stp.hold {R : RC} {h : Option (Addr × Addr × Option Addr)} (s : Stp R H H') : Stp (R.hold h) H H' := ⟨s.k, s.s⟩
theorem Stp.unhold {R : RC} {h : Option (Addr × Addr × Option Addr)} (s : Stp (R.hold h) H H') : Stp R H H' := ⟨s.k, s.s⟩
theorem ERep.hold (E : ERep A H σ env) (e : A.R.hx = none) (h : Option (Addr × Addr × Option Addr)) : ERep (A.hold h) H σ env := by
  refine ⟨⟨E.ok.inv, E.ok.st, E.ok.m⟩, E.len, fun i d q => ?_, fun i ds q => ?_, E.one, E.base.hold⟩
  · obtain ⟨v, h1, h2⟩ := E.val i d q
    exact ⟨v, h1, h2.hold (h2.none0 e)⟩
  · obtain ⟨a, vs, h1, h2, h3, h4, h5⟩ := E.own i ds q
    exact ⟨a, vs, h1, h2, h3.hold (h3.none0 e), h4, h5⟩
theorem ERep.blank {A : Act} {H : Hp} (ok : A.Ok) (b : Stp A.R A.H0 H) (σ : St) : ERep A H σ (List.replicate σ.length .un) := by
  have no : ∀ {i : Nat} {x : SD}, (List.replicate σ.length SD.un)[i]? = some x → x = .un := fun {i x} h => by
    rw [List.getElem?_replicate] at h
    split at h <;> cases h
    rfl
  exact ⟨ok, List.length_replicate, fun i d h => (by cases no h), fun i ds h => (by cases no h), fun i j ds es a h => (by cases no h), b⟩
theorem RepF.hold0 {R : RC} {M : Addr → Prop} {v : List (Str × V)} {d : List (Str × D)} (r : RepF R M H v d) (e : R.hx = none) (h : Option (Addr × Addr × Option Addr)) : RepF (R.hold h) M H v d := r.hold (r.none0 e)
end
section
variable {X : Cx} {A : Act} {W : WX}
/-- try: body, except x as n: suite, where the suite hands back something -/
@[irreducible] def dtry (ok : Str → Prop) (i : Nat) (s u : DS) : DS := fun K env => s { K with ex := fun x env' => ok x.1 ∧ u { nx := fun _ => False, rt := fun d _ => d.noexc = true ∧ ∀ e, K.rt d e, ex := fun _ _ => False } (env'.set i (.val (.exc x.1 x.2))) } env
theorem gs_try {x n : Str} {c : Value} {i : Nat} {body suite : List Stmt} {b₀ : Stmt} {np pos pos' : Pos} {ok : Str → Prop} {s u : DS} (h0 : A.R.hx = none) (hfr : A.fr = false) (hs : X.stack = X.env :: X.outer) (hf : X.env.frame = some X.env.locals) (hN : X.N.Nodup) (hi : X.N[i]? = some n) (hln : X.env.kindOf n = some .local) (hc : Names X x c) (tk : Takes X W)
    (hex : ∀ m C, ok m → A.R.mg m = some (.ref C) → PySem.W.exmOne X.K (.ref C) c = some true)
    (hb : ∀ (W : WX) (pn : List (Addr × Obj)) (xe : Value → Shared → Prop), Takes (X.tr pn xe) W → PassesOwn (model X.prog X.w) X.A X.env xe → GSs (X.tr pn xe) A W body s)
    (hsu : ∀ (a C : Addr) (oe : Obj) (d : Option Addr) (pn : List (Addr × Obj)), Zc (.ref C) d oe → (∃ vs, oe.data = .fields vs) → GSs (X.suite a ((a, oe) :: pn)) (A.hold (some (a, C, d))) W0 (b₀ :: suite) u) :
    GS X A W (.Try body [.ExceptHandler (some (.Name x np)) (some n) (b₀ :: suite) pos'] [] [] pos) (dtry ok i s u) := by
  refine ⟨ps_imp (L2N.ps_try_as (tb := fun W => toS A W s) (ts := fun a cls d => fun De σ H => ∃ C, cls = .ref C ∧ toS (A.hold (some (a, C, d))) W0 u De σ H) (Wout := W) hs hf hN hi hln hc tk (fun W pn xe t p => (hb W pn xe t p).p) (fun a oe cls d pn hz hv => ?_)) fun De σ H ⟨env, K, E, h, q1, q2, q3, q4, q5⟩ => ?_⟩
  · exact ⟨fun pins s' σ H De I ⟨C, e, w⟩ => by subst e; exact (hsu a C oe d pn hz hv).p.run pins s' σ H De I w⟩
  · unfold dtry at h
    refine ⟨env, _, E, h, q1, q2, q3, q4, fun e cls dd σ' H' env' kk E' rx ⟨ho, hu⟩ => ?_⟩
    obtain ⟨C, rfl, hm, hd⟩ := rx
    refine ⟨true, hex _ C ho hm, fun _ a ha => ⟨C, rfl, ?_⟩, fun z => Bool.noConfusion z⟩
    have Eh := E'.hold h0 (some (a, C, dd))
    have rx : Rep (A.hold (some (a, C, dd))).R (MM (A.hold (some (a, C, dd))) σ' env') H' (.ref a) (.exc e.1 e.2) := by
      rcases hd with ⟨h1, h2⟩ | ⟨d, fv, h1, h2, h3, h4⟩
      · subst h2
        rw [h1]
        exact .exc0 rfl hm
      · subst h1
        exact .excF rfl hm h2 h3 (h4.hold0 h0 _)
    refine ⟨_, _, Eh.set (i := i) rx, hu, fun _ _ _ _ _ z => z.elim, fun _ _ _ _ _ z => z.elim, fun _ _ _ _ _ z => z.elim, fun v d σ2 H2 env2 E2 rr hq => ?_, fun _ _ _ _ _ _ _ _ _ z => z.elim⟩
    refine q4 v d σ2 H2 _ (ERep.blank E'.ok E2.base.unhold σ2) ?_ (hq.2 _)
    unfold RetRep at rr ⊢
    rw [hfr, if_neg Bool.false_ne_true] at rr ⊢
    have z := rr.hold (h := none) hq.1
    have e0 : (A.R.hold (some (a, C, dd))).hold none = A.R := by
      have e1 : A.R.hold none = A.R := by
        show ({ A.R with hx := none } : RC) = A.R
        rw [← h0]
      exact e1
    exact e0 ▸ z
end
end Nb
set_option maxRecDepth 100000
set_option maxHeartbeats 2000000
/-! Nb: defs that a suite calls; isinstance of the exception, its fields. -/
namespace Nb
open PySem PySem.Spec PyProof.Rows L2
/-- the context holds the exception at a -/
structure ExcAt (X : Cx) (a C : Addr) (d : Option Addr) : Prop where
  ex : (∃ oe vs, (a, oe) ∈ X.pn ∧ Zc (.ref C) d oe ∧ oe.data = .fields vs)
  hh : X.A.handled = some (.ref a)
theorem ExcAt.suite {X : Cx} {a C : Addr} {oe : Obj} {d : Option Addr} {pn : List (Addr × Obj)} (hz : Zc (.ref C) d oe) (hv : ∃ vs, oe.data = .fields vs) : ExcAt (X.suite a ((a, oe) :: pn)) a C d :=
  let ⟨vs, e⟩ := hv
  ⟨⟨oe, vs, List.mem_cons_self, hz, e⟩, rfl⟩
/-- a class whose instances are asked in a suite -/
structure XCls (K : PySem.W.Frag) (C : Addr) : Prop where
  cl : (PySem.W.clsIn K C).isSome = true
  ga : PySem.W.findIn K (.ref C) "__getattribute__" = some (some (.builtin "BaseException.__getattribute__"))
  gg : PySem.W.findIn K (.ref C) "__getattr__" = some none
  sb : PySem.W.subIn K (.ref C) (.type "BaseException") = some true
  hd : PySem.W.hasDictIn K C = true
  ca : PySem.W.findIn K (.ref C) "__class__" = some (some (.builtin "object.__class__"))
  sp : PySem.W.specialIn K (.builtin "object.__class__") "__get__" = some (some (.builtin "getset_descriptor.__get__"))
  tk : PySem.W.takesIn K (.builtin "object.__class__") = some true
  mo : PySem.W.mroIn K C (.type "object") = some true
/-- the exception's object in the heap, its dict too -/
theorem inst_at {X : Cx} {pins : List (Addr × Obj)} {σ : St} {H : Hp} {s : Shared} {a C : Addr} {d : Option Addr} (I : Inv X pins σ H s) (x : ExcAt X a C d) (hd : ∀ dd, d = some dd → ∃ fs, H dd = some (.xd fs)) : ∃ oe od, PySem.W.InstAt s.heap a oe C od := by
  obtain ⟨oe, vs, h1, h2, h3⟩ := x.ex
  obtain ⟨hg, _⟩ := I.pin (a, oe) (List.mem_append_left _ h1)
  have hn : PySem.W.notCls oe = true := by unfold PySem.W.notCls; rw [h3] <;> rfl
  cases d with
  | none => exact ⟨oe, none, hg, h2.1, hn, by rw [h2.2.1]; trivial⟩
  | some dd =>
    obtain ⟨fs, hf⟩ := hd dd rfl
    obtain ⟨mA, hns, _⟩ := I.hok dd _ hf
    obtain ⟨od, ho, _⟩ := lookIn_ns hns
    exact ⟨oe, some od, hg, h2.1, hn, by rw [h2.2.1]; exact ho⟩
/-- isinstance(e, c) -/
def rIsX (K : PySem.W.Frag) (a C : Addr) (d : Option Addr) : List V → Hp → VK → Prop := fun xs H Q => XCls K C ∧ (∀ dd, d = some dd → ∃ fs, H dd = some (.xd fs)) ∧ ∃ (c : V) (cv : Value) (b : Bool), xs = [.ref a, c] ∧ (∀ u, RelV c u → u = cv) ∧ PySem.W.kitOne K (.ref C) cv = some b ∧ Q (.bl b) H
theorem call_isX {X : Cx} {a C : Addr} {d : Option Addr} (x : ExcAt X a C d) : CallR X (.builtin "isinstance") (rIsX X.K a C d) := by
  intro pins s σ H xs us Q I r ⟨c, hd, cc, cv, b, e1, hcv, hk, q⟩
  subst e1
  match us, r with
  | [_, _], .cons rx (.cons rt .nil) =>
    obtain rfl := hcv _ rt
    cases rx
    obtain ⟨oe, od, J⟩ := inst_at I x hd
    exact PySem.W.kia_one (PySem.W.kitx_exc c.cl c.ga c.gg c.sb c.ca c.sp c.tk c.mo) I.kIn J hk (fun z => nomatch z) fun tk => ⟨.bl b, H, I.kept (t' := tk) fun _ _ z => z, rfl, q⟩
section
variable {X : Cx} {A : Act} {W : WX}
def disX (ok : Str → Prop) (S : Str → Bool) (g : DE) : DE := fun env Q Ed => g env (fun d => match d with
  | .exc n _ => ok n ∧ Q (.bl (S n))
  | _ => False) Ed
theorem exc_dict {R : RC} {M : Addr → Prop} {H : Hp} {v : V} {n : Str} {fs : List (Str × D)} (r : Rep R M H v (.exc n fs)) : ∃ a C d, v = .ref a ∧ R.hx = some (a, C, d) ∧ R.mg n = some (.ref C) ∧ (∀ dd, d = some dd → ∃ fv, H dd = some (.xd fv)) := by
  cases r with
  | exc0 h1 h2 => exact ⟨_, _, _, rfl, h1, h2, fun dd z => by cases z⟩
  | excF h1 h2 h3 h4 h5 => exact ⟨_, _, _, rfl, h1, h2, fun dd z => by cases z; exact ⟨_, h3⟩⟩
theorem ge_isX {a C : Addr} {d : Option Addr} {e ce : Expr} {g : DE} {cx : V} {cv : Value} {ok : Str → Prop} {S : Str → Bool} {p pos : Pos} (hx : A.R.hx = some (a, C, d)) (x : ExcAt X a C d) (c : ∀ n, ok n → A.R.mg n = some (.ref C) → XCls X.K C) (hg : Gl X "isinstance") (hm : X.mg "isinstance" = none) (he : GE X A W e g)
    (hc : PE X ce (tC cx)) (hcv : ∀ u, RelV cx u → u = cv) (hS : ∀ n, ok n → A.R.mg n = some (.ref C) → PySem.W.kitOne X.K (.ref C) cv = some (S n))
    (hP : ∀ r t, Gl X "isinstance" → X.mg "isinstance" = none → CallR X (.builtin "isinstance") r → PA X [e, ce] t → PE X (.Call (.Name "isinstance" p) [e, ce] [] pos) (tCB r t) := by exact fun r t hg hm c h => pe_callB c hg hm (by decide +kernel) h)
    (hA : ∀ te tc, PE X e te → PE X ce tc → PA X [e, ce] (tCons te (tCons tc tNil)) := by exact fun te tc h1 h2 => pa_cons h1 (pa_cons h2 pa_nil)) :
    GE X A W (.Call (.Name "isinstance" p) [e, ce] [] pos) (disX ok S g) := by
  refine ⟨pe_imp (hP _ _ hg hm (call_isX x) (hA _ _ he.p hc)) fun σ H Q ⟨env, Qd, Ed, E, h, q, xo⟩ => toE_step E h xo fun v dd H1 s1 E1 x1 r hd => ?_⟩
  match dd, r, hd with
  | .exc n fs, r, ⟨ho, hq⟩ =>
    obtain ⟨a', C', d', rfl, e1, e2, e3⟩ := exc_dict r
    rw [hx] at e1
    cases e1
    exact ⟨c n ho e2, e3, cx, cv, S n, rfl, hcv, hS n ho e2, q _ _ H1 s1 (.bl _) hq⟩
/-- e.f -/
def dxf (ok : Str → Prop) (f : Str) (g : DE) : DE := fun env Q Ed => g env (fun d => match d with
  | .exc n fs => ok n ∧ ∃ v, fs.lookup f = some v ∧ Q v
  | _ => False) Ed
theorem RepF.look {R : RC} {M : Addr → Prop} {H : Hp} {f : Str} {d : D} : ∀ {fv : List (Str × V)} {fs : List (Str × D)}, RepF R M H fv fs → fs.lookup f = some d → ∃ v, fv.lookup f = some v ∧ Rep R M H v d
  | _, _, .nil, e => by cases e
  | _, _, .cons (f := k) (v := v) a b, e => by
    by_cases c : (f == k) = true
    · rw [List.lookup, c] at e ⊢
      cases e
      exact ⟨v, rfl, a⟩
    · have c' : (f == k) = false := by simpa using c
      rw [List.lookup, c'] at e ⊢
      exact RepF.look b e
theorem ge_xf {a C : Addr} {d : Option Addr} {e : Expr} {g : DE} {f : Str} {ok : Str → Prop} {pos : Pos} (hx : A.R.hx = some (a, C, d)) (x : ExcAt X a C d) (c : ∀ n, ok n → A.R.mg n = some (.ref C) → XCls X.K C) (he : GE X A W e g) (hno : ∀ n, ok n → A.R.mg n = some (.ref C) → PySem.W.findIn X.K (.ref C) f = some none)
    (hb : attributeBase e f X.env (eval e X.env) = eval e X.env := by rfl) : GE X A W (.Attribute e f pos) (dxf ok f g) := by
  refine ⟨⟨fun pins s σ H Q I ⟨env, Qd, Ed, E, h, q, xo⟩ => ?_⟩⟩
  have go : toE A W g σ H fun v H1 => ∃ dd fv w, v = .ref a ∧ d = some dd ∧ H1 dd = some (.xd fv) ∧ fv.lookup f = some w ∧ XCls X.K C ∧ PySem.W.findIn X.K (.ref C) f = some none ∧ Q w H1 := by
    refine toE_step E h xo fun v dd H1 s1 E1 x1 r hd => ?_
    match dd, r, hd with
    | .exc n fs, r, ⟨ho, w, hl, hq⟩ =>
      cases r with
      | exc0 h1 h2 => cases hl
      | excF h1 h2 h3 h4 h5 =>
        rw [hx] at h1
        cases h1
        obtain ⟨u, hu, ru⟩ := h5.look hl
        exact ⟨_, _, u, rfl, rfl, h3, hu, c n ho h2, hno n ho h2, q u w H1 s1 ru hq⟩
  refine attr_of hb (thn (he.p.run pins s σ H _ I go) fun u s1 hh => ?_)
  obtain ⟨v, H1, I1, rv, dd, fv, w, e1, e2, e3, e4, c, e5, hq⟩ := hh
  subst e1
  subst e2
  obtain rfl : u = Value.ref a := rv
  obtain ⟨oe, vs, m1, m2, m3⟩ := x.ex
  obtain ⟨hget, _⟩ := I1.pin (a, oe) (List.mem_append_left _ m1)
  obtain ⟨mA, hns, hr⟩ := I1.hok dd _ e3
  obtain ⟨od, ho, hl⟩ := lookIn_ns hns
  obtain ⟨y, hy, ry⟩ := RelO.some_of (v := w) (o := mA f) (by rw [← e4]; exact hr f)
  have J : PySem.W.InstAt s1.heap a oe C (some od) := ⟨hget, m2.1, by unfold PySem.W.notCls; rw [m3] <;> rfl, by rw [m2.2.1]; exact ho⟩
  exact HandSPX.exc_get I1.kIn J c.ga c.gg c.sb (PySem.W.findObj_own c.hd e5 rfl (by rw [hl, hy])) (handed_of ry) ⟨w, H1, I1.tok _, ry, hq⟩
end
end Nb
set_option maxRecDepth 100000
set_option maxHeartbeats 2000000
/-! Nb: defs that a suite calls. -/
namespace Nb
open PySem PySem.Spec PyProof.Rows L2
def spQ (K : PySem.W.Frag) (mg : Str → Option Value) (fr : Bool) (S : DSp) (p : Addr × Obj) : Sp := fun vs H Q E => ∃ (R : RC) (M : Addr → Prop) (ds : List D) (Qd : D → Prop) (C : Addr) (d : Option Addr),
  (R.K = K ∧ R.mg = mg) ∧ (R.hx = some (p.1, C, d) ∧ Zc (.ref C) d p.2 ∧ ∃ ws, p.2.data = .fields ws) ∧ HInv R H ∧ (∀ a, R.st = some a → M a) ∧ (∀ a, M a → H a ≠ none) ∧ RepL R M H vs ds ∧ S ds Qd (fun _ => False) ∧
  ∀ v d H', Stp R H H' → OutRep R M H H' fr v d → Qd d → Q v H'
structure FnQ (P : Program) (w : World) (K : PySem.W.Frag) (mg : Str → Option Value) (base : Heap) (k : Nat) (f : Addr) (fd : FuncData) (ps : List Str) (fr : Bool) (S : DSp) : Prop where
  len : ∀ ds Qd Ed, S ds Qd Ed → ds.length = ps.length
  run : ∀ (Ar : Around) (outer : List Env) (s : Shared) (H : Hp) (args : Args) (us : List Value) (vs : List V) (Q : VK) (E : XK) (p : Addr × Obj), L2H.RoomH k Ar → Ar.handled = some (.ref p.1) → L2H.PinOk outer H s p → Env0 P w K mg base Ar outer s H → BindsTo s fd args (ps.zip us) → Vals vs us →
    spQ K mg fr S p vs H Q E → codeAny (model P w) Ar (.call (.ref f) args) (CR (L2N.CX P w) outer P w H s Q E) s
structure HasQ (P : Program) (w : World) (K : PySem.W.Frag) (mg : Str → Option Value) (base : Heap) (x : Str) (k : Nat) (fr : Bool) (S : DSp) : Prop where
  ex : ∃ f fd ps, FnQ P w K mg base k f fd ps fr S ∧ mg x = some (.ref f) ∧ PySem.W.keepIn K (.ref f) = true ∧ Binds K fd ps []
section
variable {P : Program} {w : World} {K : PySem.W.Frag} {mg : Str → Option Value} {base : Heap}
/-- the context of such a def's body -/
abbrev cxQ (P : Program) (w : World) (K : PySem.W.Frag) (mg : Str → Option Value) (base : Heap) (N : List Str) (qual : Str) (scope : Scope) (f : Addr) (cd : Value) (A : Around) (outer : List Env) (s : Shared) (H : Hp) (E : XK) (p : Addr × Obj) : Cx :=
  { cxOf (L2N.CX P w) P w K mg base N qual scope f cd A outer s H E with calm := false, pn := [p] }
theorem fnq_ok {x qual : Str} {st : Stmt} {f : Addr} {fd : FuncData} {N ps : List Str} {k : Nat} {fr : Bool} {S : DSp} (F : Fun K x qual st f fd) (sc : FnScope N ps (defScope st)) (len : ∀ ds Qd Ed, S ds Qd Ed → ds.length = ps.length)
    (hb : ∀ (cdv : Value) (Ar : Around) (outer : List Env) (s : Shared) (H : Hp) (E : XK) (R : RC) (M : Addr → Prop) (ds : List D) (Qd : D → Prop) (p : Addr × Obj) (C : Addr) (d : Option Addr), L2H.RoomH k (Ar.deeper (envOfC qual (defScope st) s.heap.objs.size f cdv)) → R.K = K → R.mg = mg →
      R.hx = some (p.1, C, d) → Zc (.ref C) d p.2 → (∃ ws, p.2.data = .fields ws) → (Ar.deeper (envOfC qual (defScope st) s.heap.objs.size f cdv)).handled = some (.ref p.1) → S ds Qd (fun _ => False) →
      ∃ g, GSs (cxQ P w K mg base N qual (defScope st) f cdv Ar outer s H E p) ⟨R, H, M, fr⟩ W0 (defBody st) g ∧ g (endD fr Qd fun _ => False) (startD N ds)) :
    FnQ P w K mg base (k + 1) f fd ps fr S := by
  obtain ⟨oc, od, kV, doc, pm, an, cdv, ct, osl, rfl, lk, hcd⟩ := F.ex
  refine ⟨len, fun Ar outer s H args us vs Q E p hr hhd hpin e0 hbi r ⟨R, M, ds, Qd, C, d, ⟨hK, hm⟩, ⟨hx, hz, hw⟩, hi, hM1, hM2, rr, hS, q⟩ => ?_⟩
  have inK : K.In s.heap := e0.mod.kin.keeps fun b o e => (e0.bs b o e).1
  have nolim : s.heap.NoLimit := e0.mod.nolimit.keeps fun b o e => (e0.bs b o e).1
  have kinds : ∀ y ∈ ps.zip us, (defScope st).names.lookup y.1 = some .local ∨ ((defScope st).names.lookup y.1 = some .cell ∧ ((cellsFrom (s.heap.objs.size + 1) (defScope st).names []).lookup y.1).isSome = true) := by
    rintro ⟨n, v⟩ hy
    rcases sc.par n (List.of_mem_zip hy).1 with z | z
    · exact Or.inl z
    · exact Or.inr ⟨z, PySem.W.cellsFrom_some _ _ _ (Or.inl z)⟩
  refine codeAny_call_function hr.depth (inK _ _ lk) rfl sc.co sc.gen rfl (PySem.W.codeRec_of inK hcd) (hbi _ _ _ _ (wpAny_newFunctionEnv_cells sc.kind kinds fun env he s1 y => ?_))
  subst he
  refine ⟨nolim.keeps y.toInCall.keep, codeAny_func ?_⟩
  obtain ⟨g, G, hg⟩ := hb cdv Ar outer s H E R M ds Qd p C d (hr.deeper _) hK hm hx hz hw hhd hS
  have I : Inv (cxQ P w K mg base N qual (defScope st) f cdv Ar outer s H E p) [] (L2.start N vs) H s1 := L2H.inv_startH sc hpin e0 (rr.length.trans (len _ _ _ hS)) r y
  have ok : Act.Ok ⟨R, H, M, fr⟩ := ⟨hi, hM1, hM2⟩
  have Es : ERep ⟨R, H, M, fr⟩ H (L2.start N vs) (startD N ds) := erep_start (A := ⟨R, H, M, fr⟩) ok rr
  have want : toS ⟨R, H, M, fr⟩ W0 g { nx := fun _ H' => Q .non H', rt := Q } (L2.start N vs) H := by
    refine ⟨startD N ds, _, Es, hg, fun σ' H' env' _ E' hq => ?_, fun _ _ _ _ _ z => z.elim, fun _ _ _ _ _ z => z.elim, fun v d σ' H' env' E' ro hq => q v d H' E'.base ro hq, fun _ _ _ _ _ _ _ _ _ z => z.elim⟩
    refine q .non .non H' E'.base ?_ hq.2
    unfold OutRep
    rw [hq.1, if_neg Bool.false_ne_true]
    exact .non
  refine wpAny_mono (G.p.run [] s1 (L2.start N vs) H _ I want) (fun fl s' hs => ?_) fun _ _ z => z
  cases fl with
  | ret u => exact (let ⟨v, σ', H', J, rv, qq⟩ := hs; ⟨v, H', J.os, J.bare, J.base, J.hok, rv, qq⟩)
  | next => exact (let ⟨σ', H', J, qq⟩ := hs; ⟨V.non, H', J.os, J.bare, J.base, J.hok, rfl, qq⟩)
  | brk => exact (let ⟨_, _, _, z⟩ := hs; False.elim z)
  | cont => exact (let ⟨_, _, _, z⟩ := hs; False.elim z)
end
section
variable {X : Cx} {A : Act} {W : WX}
/-- the promise at a call in a suite -/
theorem pe_callQ {x : Str} {k : Nat} {fr : Bool} {S : DSp} {e : Expr} {es : List Expr} {t : TA} {q pos : Pos} {a C : Addr} {d : Option Addr} {oe : Obj} (h : HasQ X.prog X.w X.K X.mg X.base x k fr S) (hr : L2H.RoomH k X.A) (hhd : X.A.handled = some (.ref a)) (hp : (a, oe) ∈ X.pn) (hg : Gl X x) (ha : PA X (e :: es) t) (hdb : (x == ("__debug__" : Str)) = false)
    (he : starEach (e :: es) X.env = (false, eval e X.env) :: starEach es X.env) (hpl : (backTo pos (starEach es X.env)).any (·.1) = false) :
    PE X (.Call (.Name x q) (e :: es) [] pos) (fun σ H Q => t σ H fun vs H1 => spQ X.K X.mg fr S (a, oe) vs H1 Q (fun _ _ _ => False)) := by
  obtain ⟨f, fd, ps, F, hm, hk, hb⟩ := h.ex
  refine ⟨fun pins s σ H Q I w => ?_⟩
  refine wpAny_Call_Name_kw (ld_glob I hg hm ?_ hdb)
  refine PySem.W.callWith_K (h₀ := X.base) I.ok.mod.kin hk (thn (ha.run pos pins s σ H _ I w) fun us s1 ⟨vs, H1, I1, r, w1⟩ => ⟨I1.kIn, ?_⟩) he hpl
  have n1 : us.length = ps.length := by
    obtain ⟨R, M, ds, Qd, C', d', _, _, _, _, _, rr, hS, _⟩ := w1
    rw [← r.length, rr.length]
    exact F.len _ _ _ hS
  have b := hb s1 us I1.kIn (by rw [List.append_nil]; exact n1)
  rw [List.append_nil] at b
  obtain ⟨g1, g2, g3, g4, g5⟩ := I1.pin (a, oe) (List.mem_append_left _ hp)
  have pin : L2H.PinOk X.stack H1 s1 (a, oe) := ⟨g1, g2, fun z => (List.mem_cons.mp (I1.stkSub a z)).elim g3 g4, g5⟩
  show wpAny (model X.prog X.w) X.A (call (.ref f) ([] ++ us)) _ _ _
  refine wpAny_call (codeAny_mono (F.run X.A X.stack s1 H1 ⟨us, []⟩ us vs Q (fun _ _ _ => False) (a, oe) hr hhd pin I1.env0 b r w1) fun r2 s' hq => ?_)
  cases r2 with
  | error e =>
    obtain ⟨_, _, _, _, _, _, _, _, _, _, _, _, z⟩ := hq
    exact z.elim
  | ok fl =>
    cases fl with
    | ret u => exact I1.after hq
    | next => exact hq.elim
    | brk => exact hq.elim
    | cont => exact hq.elim
def dcallQ (S : DSp) (gs : DL) : DE := fun env Q Ed => gs env (fun ds => S ds Q fun _ => False) Ed
def dcallQF (S : DSp) (gs : DL) : DF := fun env Q Ed => gs env (fun ds => S ds (fun d => match d with
  | .lst es => Q es
  | _ => False) fun _ => False) Ed
theorem spQ_of {fr : Bool} {S : DSp} {σ : St} {H1 : Hp} {env : DEnv} {vs : List V} {ds : List D} {Q : VK} {Qd : D → Prop} {K : PySem.W.Frag} {mg : Str → Option Value} {a C : Addr} {oe : Obj} {d : Option Addr} (hK : A.R.K = K) (hm : A.R.mg = mg) (hx : A.R.hx = some (a, C, d)) (hz : Zc (.ref C) d oe) (hv : ∃ ws, oe.data = .fields ws)
    (E1 : ERep A H1 σ env) (r : RepL A.R (MM A σ env) H1 vs ds) (hS : S ds Qd fun _ => False) (q : ∀ v d H', Stp A.R H1 H' → OutRep A.R (MM A σ env) H1 H' fr v d → Qd d → Q v H') : spQ K mg fr S (a, oe) vs H1 Q fun _ _ _ => False :=
  ⟨A.R, MM A σ env, ds, Qd, C, d, ⟨hK, hm⟩, ⟨hx, hz, hv⟩, E1.inv, E1.mst, fun a z => E1.mtrk z, r, hS, q⟩
theorem ge_callQ {x : Str} {k : Nat} {S : DSp} {e : Expr} {es : List Expr} {gs : DL} {q pos : Pos} {a C : Addr} {d : Option Addr} (h : HasQ X.prog X.w X.K X.mg X.base x k false S) (hr : L2H.RoomH k X.A) (hx : A.R.hx = some (a, C, d)) (xa : ExcAt X a C d) (ha : GL X A W (e :: es) gs) (hK : A.R.K = X.K := by rfl) (hm : A.R.mg = X.mg := by rfl) (hg : Gl X x := by rfl)
    (hdb : (x == ("__debug__" : Str)) = false := by decide) (he : starEach (e :: es) X.env = (false, eval e X.env) :: starEach es X.env := by rfl) (hpl : (backTo pos (starEach es X.env)).any (·.1) = false := by rfl) : GE X A W (.Call (.Name x q) (e :: es) [] pos) (dcallQ S gs) := by
  obtain ⟨oe, vs, m1, m2, m3⟩ := xa.ex
  refine ⟨pe_imp (pe_callQ (oe := oe) (a := a) (C := C) (d := d) h hr xa.hh m1 hg ha.p hdb he hpl) fun σ H Q ⟨env, Qd, Ed, E, w, q, xo⟩ => ?_⟩
  refine ⟨env, _, Ed, E, w, fun us ds H1 s r hS => spQ_of hK hm hx m2 ⟨vs, m3⟩ (E.stp s) r hS fun v dd H' s2 r2 hq => ?_, xo⟩
  unfold OutRep at r2
  rw [if_neg Bool.false_ne_true] at r2
  exact q v dd H' (s.trans s2) r2 hq
theorem gf_callQ {x : Str} {k : Nat} {S : DSp} {e : Expr} {es : List Expr} {gs : DL} {q pos : Pos} {a C : Addr} {d : Option Addr} (h : HasQ X.prog X.w X.K X.mg X.base x k true S) (hr : L2H.RoomH k X.A) (hx : A.R.hx = some (a, C, d)) (xa : ExcAt X a C d) (ha : GL X A W (e :: es) gs) (hK : A.R.K = X.K := by rfl) (hm : A.R.mg = X.mg := by rfl) (hg : Gl X x := by rfl)
    (hdb : (x == ("__debug__" : Str)) = false := by decide) (he : starEach (e :: es) X.env = (false, eval e X.env) :: starEach es X.env := by rfl) (hpl : (backTo pos (starEach es X.env)).any (·.1) = false := by rfl) : GF X A W (.Call (.Name x q) (e :: es) [] pos) (dcallQF S gs) := by
  obtain ⟨oe, vs, m1, m2, m3⟩ := xa.ex
  refine ⟨pe_imp (pe_callQ (oe := oe) (a := a) (C := C) (d := d) h hr xa.hh m1 hg ha.p hdb he hpl) fun σ H Q ⟨env, Qd, Ed, E, w, q, xo⟩ => ?_⟩
  refine ⟨env, _, Ed, E, w, fun us ds H1 s r hS => spQ_of hK hm hx m2 ⟨vs, m3⟩ (E.stp s) r hS fun v dd H' s2 r2 hq => ?_, xo⟩
  unfold OutRep at r2
  rw [if_pos rfl] at r2
  obtain ⟨p, us', es', rfl, rfl, hp, h1, r3⟩ := r2
  exact q p us' es' H' (Stp.none E.inv s hp) (s.trans s2) h1 r3 hq
end
end Nb
set_option maxRecDepth 100000
set_option maxHeartbeats 2000000
/-! Nb: exceptions by the names of their classes. -/
namespace Nb
open PySem PySem.Spec PyProof.Rows L2
/-- the classes of the exceptions that are raised: what is asked of their instances -/
structure Kinds (K : PySem.W.Frag) (mg : Str → Option Value) (ok : Str → Prop) : Prop where
  cls : ∀ n C, ok n → mg n = some (.ref C) → XCls K C
/-- isinstance(e, x), x an own class -/
structure IsC (K : PySem.W.Frag) (mg : Str → Option Value) (ok : Str → Prop) (x : Str) (S : Str → Bool) : Prop where
  ex : ∃ C', mg x = some (.ref C') ∧ ∀ n C, ok n → mg n = some (.ref C) → PySem.W.kitOne K (.ref C) (.ref C') = some (S n)
/-- except x -/
structure CatchC (K : PySem.W.Frag) (mg : Str → Option Value) (ok : Str → Prop) (x : Str) : Prop where
  ex : ∃ C', mg x = some (.ref C') ∧ ∀ n C, ok n → mg n = some (.ref C) → PySem.W.exmOne K (.ref C) (.ref C') = some true
section
variable {X : Cx} {A : Act} {W : WX}
theorem ge_isC {a C : Addr} {d : Option Addr} {e : Expr} {g : DE} {x : Str} {ok : Str → Prop} {S : Str → Bool} {p p2 pos : Pos} (hx : A.R.hx = some (a, C, d)) (xa : ExcAt X a C d) (k : Kinds X.K X.mg ok) (i : IsC X.K X.mg ok x S) (hm : X.mg "isinstance" = none) (he : GE X A W e g) (hR : A.R.mg = X.mg := by rfl) (hg : Gl X "isinstance" := by rfl)
    (hgx : Gl X x := by rfl) (hd : (x == ("__debug__" : Str)) = false := by decide)
    (hP : ∀ r t, Gl X "isinstance" → X.mg "isinstance" = none → CallR X (.builtin "isinstance") r → PA X [e, .Name x p2] t → PE X (.Call (.Name "isinstance" p) [e, .Name x p2] [] pos) (tCB r t) := by exact fun r t hg hm c h => pe_callB c hg hm (by decide +kernel) h)
    (hA : ∀ te tc, PE X e te → PE X (.Name x p2) tc → PA X [e, .Name x p2] (tCons te (tCons tc tNil)) := by exact fun te tc h1 h2 => pa_cons h1 (pa_cons h2 pa_nil)) :
    GE X A W (.Call (.Name "isinstance" p) [e, .Name x p2] [] pos) (disX ok S g) := by
  obtain ⟨C', h1, h2⟩ := i.ex
  refine ge_isX (cx := .ref C') (cv := .ref C') hx xa (fun n ho hn => k.cls n C ho (by rw [← hR]; exact hn)) hg hm he (pe_glob hgx h1 rfl hd) (fun u r => r) (fun n ho hn => h2 n C ho (by rw [← hR]; exact hn)) hP hA
/-- isinstance(e, ValueError) -/
theorem ge_isV {a C : Addr} {d : Option Addr} {e : Expr} {g : DE} {x : Str} {T : String} {ok : Str → Prop} {S : Str → Bool} {p p2 pos : Pos} (hx : A.R.hx = some (a, C, d)) (xa : ExcAt X a C d) (k : Kinds X.K X.mg ok) (i : ∀ n C, ok n → X.mg n = some (.ref C) → PySem.W.kitOne X.K (.ref C) (.type T) = some (S n)) (hm : X.mg "isinstance" = none) (hx2 : X.mg x = none) (he : GE X A W e g) (hv : bootBuiltins x = some (.type T)) (hR : A.R.mg = X.mg := by rfl) (hg : Gl X "isinstance" := by rfl)
    (hgx : Gl X x := by rfl) (hc : Gl X x → X.mg x = none → bootBuiltins x = some (.type T) → PE X (.Name x p2) (tC (.ty T)) := by exact fun hg hm hv => pe_bltn hg hm hv rfl)
    (hP : ∀ r t, Gl X "isinstance" → X.mg "isinstance" = none → CallR X (.builtin "isinstance") r → PA X [e, .Name x p2] t → PE X (.Call (.Name "isinstance" p) [e, .Name x p2] [] pos) (tCB r t) := by exact fun r t hg hm c h => pe_callB c hg hm (by decide +kernel) h)
    (hA : ∀ te tc, PE X e te → PE X (.Name x p2) tc → PA X [e, .Name x p2] (tCons te (tCons tc tNil)) := by exact fun te tc h1 h2 => pa_cons h1 (pa_cons h2 pa_nil)) :
    GE X A W (.Call (.Name "isinstance" p) [e, .Name x p2] [] pos) (disX ok S g) :=
  ge_isX (cx := .ty T) (cv := .type T) hx xa (fun n ho hn => k.cls n C ho (by rw [← hR]; exact hn)) hg hm he (hc hgx hx2 hv) (fun u r => r) (fun n ho hn => i n C ho (by rw [← hR]; exact hn)) hP hA
theorem ge_fld {a C : Addr} {d : Option Addr} {e : Expr} {g : DE} {f : Str} {ok : Str → Prop} {pos : Pos} (hx : A.R.hx = some (a, C, d)) (xa : ExcAt X a C d) (k : Kinds X.K X.mg ok) (hno : ∀ n C, ok n → X.mg n = some (.ref C) → PySem.W.findIn X.K (.ref C) f = some none) (he : GE X A W e g) (hR : A.R.mg = X.mg := by rfl)
    (hb : attributeBase e f X.env (eval e X.env) = eval e X.env := by rfl) : GE X A W (.Attribute e f pos) (dxf ok f g) :=
  ge_xf hx xa (fun n ho hn => k.cls n C ho (by rw [← hR]; exact hn)) he (fun n ho hn => hno n C ho (by rw [← hR]; exact hn)) hb
theorem gs_tryC {x n : Str} {i : Nat} {body suite : List Stmt} {b₀ : Stmt} {np pos pos' : Pos} {ok : Str → Prop} {s u : DS} (hc : CatchC X.K X.mg ok x) (h0 : A.R.hx = none) (tk : Takes X W) (hN : X.N.Nodup) (hi : X.N[i]? = some n)
    (hb : ∀ (W : WX) (pn : List (Addr × Obj)) (xe : Value → Shared → Prop), Takes (X.tr pn xe) W → PassesOwn (model X.prog X.w) X.A X.env xe → GSs (X.tr pn xe) A W body s)
    (hsu : ∀ (a C : Addr) (oe : Obj) (d : Option Addr) (pn : List (Addr × Obj)), Zc (.ref C) d oe → (∃ vs, oe.data = .fields vs) → GSs (X.suite a ((a, oe) :: pn)) (A.hold (some (a, C, d))) W0 (b₀ :: suite) u) (hR : A.R.mg = X.mg := by rfl) (hfr : A.fr = false := by rfl)
    (hs : X.stack = X.env :: X.outer := by rfl) (hf : X.env.frame = some X.env.locals := by rfl) (hln : X.env.kindOf n = some .local := by rfl) (hg : Gl X x := by rfl) (hd : (x == ("__debug__" : Str)) = false := by decide) :
    GS X A W (.Try body [.ExceptHandler (some (.Name x np)) (some n) (b₀ :: suite) pos'] [] [] pos) (dtry ok i s u) := by
  obtain ⟨C', h1, h2⟩ := hc.ex
  exact gs_try (c := .ref C') h0 hfr hs hf hN hi hln ⟨hg, hd, .inl h1⟩ tk (fun m C ho hm => h2 m C ho (by rw [← hR]; exact hm)) hb hsu
end
end Nb
namespace Nb
open PySem PySem.Spec PyProof.Rows L2
theorem room_unitsH {k : Nat} {A : Around} (r : L2H.RoomH k A) : A.units + 64 < cLine := by
  have := r.un
  omega
theorem roomS {k : Nat} {A : Around} {m : Option Value} (r : Room k A) : L2H.RoomH k (A.mark m) := ⟨r.dp, r.un⟩
theorem ExcAt.pin {X : Cx} {p : Addr × Obj} {C : Addr} {d : Option Addr} (hz : Zc (.ref C) d p.2) (hw : ∃ ws, p.2.data = .fields ws) (hh : X.A.handled = some (.ref p.1)) (hp : X.pn = [p] := by rfl) : ExcAt X p.1 C d :=
  let ⟨ws, e⟩ := hw
  ⟨⟨p.2, ws, by rw [hp]; exact List.mem_cons_self, hz, e⟩, hh⟩
end Nb
set_option maxRecDepth 100000
set_option maxHeartbeats 2000000
/-! Nb: the store. -/
namespace Nb
open PySem PySem.Spec PyProof.Rows L2
section
variable {A : Act} {H : Hp} {σ : St} {env : DEnv}
/-- the store's list as it stands -/
theorem ERep.sto (E : ERep A H σ env) {i : Nat} (h : env[i]? = some (.val .sto)) : ∃ a ns, A.R.st = some a ∧ σ[i]? = some (some (.ref a)) ∧ H a = some (.lst (ns.map V.int)) ∧ InvS ns := by
  obtain ⟨v, h1, h2⟩ := E.val i _ h
  cases h2 with
  | sto e =>
    obtain ⟨ns, h3, h4⟩ := E.inv _ e
    exact ⟨_, ns, e, h1, h3, h4⟩
/-- the store takes other numbers -/
theorem Stp.sto {R : RC} {a : Addr} {ns : List Int} (e : R.st = some a) (h : InvS ns) : Stp R H (upd H a (.lst (ns.map V.int))) := by
  refine ⟨fun b o q n => ?_, fun _ b q => ?_⟩
  · rw [upd_ne fun z => n (by rw [z]; exact e)]
    exact q
  · rw [e] at q
    cases q
    exact ⟨ns, upd_same, h⟩
end
theorem InvS.set {ns : List Int} {k : Nat} {z : Int} (h : InvS ns) (hz : SOK k z) : InvS (ns.set k z) := by
  refine ⟨by rw [List.length_set]; exact h.1, fun j y e => ?_⟩
  rw [get_set] at e
  split at e
  · rename_i c
    cases e
    rw [← c.1]
    exact hz
  · exact h.2 j y e
section
variable {X : Cx} {A : Act} {W : WX}
/-- store[k], k a constant -/
def dixS (i k : Nat) : DE := fun env Q _ => env[i]? = some (.val .sto) ∧ ∀ z, SOK k z → Q (.int z)
theorem ixn_nat {n k : Nat} (h : k < n) : ixN n (k : Nat) = some k := by
  unfold ixN
  rw [if_pos (by omega)]
  have h1 : (k : Int) < n := by omega
  first
  | (rw [if_pos (by omega)]; simp)
  | simp [h1]
theorem ge_ixS {i k : Nat} {c : Int} {a : Expr} {j : Nat} {p pos : Pos} (ha : PE X a (tVar i)) (hk : k < 5 := by decide) (hc : c = (k : Nat) := by rfl) : GE X A W (.Subscript a (.Constant (.int c) j p) pos) (dixS i k) := by
  refine ⟨pe_imp (pe_ix ix_seq ha pe_int (fun _ _ => rfl)) fun σ H Q ⟨env, Qd, Ed, E, ⟨h, hq⟩, q, x⟩ => ?_⟩
  subst hc
  obtain ⟨b, ns, h1, h2, h3, h4⟩ := E.sto h
  have hlt : k < ns.length := by have := h4.1.1; omega
  refine ⟨.ref b, h2, .inl ⟨b, ns.map V.int, (k : Nat), .int ns[k], rfl, rfl, SqL.of h3, ?_, q _ _ H (Stp.refl _ _) (.int _) (hq _ (h4.2 k _ (List.getElem?_eq_getElem hlt)))⟩⟩
  unfold L2.atI
  rw [List.length_map, ixn_nat hlt, Option.bind_some, List.getElem?_map, List.getElem?_eq_getElem hlt]
  rfl
/-- store[k] = e -/
def dsetS (i k : Nat) (g : DE) : DS := fun K env => env[i]? = some (.val .sto) ∧ g env (fun d => match d with
  | .int z => SOK k z ∧ K.nx env
  | _ => False) fun x => K.ex x env
theorem gs_setS {i k : Nat} {c : Int} {o e : Expr} {g : DE} {j : Nat} {p pos spos : Pos} (ho : PE X o (tVar i)) (he : GE X A W e g) (hk : k < 5 := by decide) (hc : c = (k : Nat) := by rfl)
    (hg : PE X o (tVar i) → PG X (.Subscript o (.Constant (.int c) j p) spos) (gSub (tVar i) (tC (.int c)) rSetL) := by exact fun ho => pg_sub ho pe_int set_list)
    (hs : swapsWithSole [.Subscript o (.Constant (.int c) j p) spos] e pos.line X.env = pure false := by rfl) (hw : swappedStores [.Subscript o (.Constant (.int c) j p) spos] e X.env = pure none := by rfl)
    (h1 : (assignEach [.Subscript o (.Constant (.int c) j p) spos] X.env).map (·.2) = [assign (.Subscript o (.Constant (.int c) j p) spos) X.env] := by rfl) : GS X A W (.Assign [.Subscript o (.Constant (.int c) j p) spos] e pos) (dsetS i k g) := by
  refine ⟨ps_imp (ps_asg he.p (hg ho) hs hw h1) fun De σ H ⟨env, K, E, ⟨h, hq⟩, q1, q2, q3, q4, q5⟩ => ?_⟩
  refine toE_step E hq (xout_of E q5) fun v d H1 s E1 x1 r hd => ?_
  match d, r, hd with
  | .int z, .int _, ⟨hz, hn⟩ =>
    obtain ⟨b, ns, e1, e2, e3, e4⟩ := E1.sto h
    have hlt : k < ns.length := by have := e4.1.1; omega
    refine ⟨.ref b, e2, b, ns.map V.int, c, k, rfl, rfl, e3, by rw [List.length_map, hc]; exact ixn_nat hlt, ?_⟩
    have s2 : Stp A.R H1 (upd H1 b (.lst ((ns.set k z).map V.int))) := Stp.sto e1 (e4.set hz)
    rw [List.map_set] at s2
    exact q1 σ _ env ((E.keep s).trans (E1.keep s2)) (E1.stp s2) hn
/-- new = xs + ys -/
def dAddF (x y : D) (Q : List D → Prop) : Prop := match x, y with
  | .lst i, .lst j => i.length + j.length ≤ LINE ∧ Q (i ++ j)
  | _, _ => False
def dopF (f : D → D → (List D → Prop) → Prop) (ga gb : DE) : DF := fun env Q Ed => ga env (fun x => gb env (fun y => f x y Q) Ed) Ed
end
/-! ### a new store is lent -/
abbrev RC.with (R : RC) (a : Addr) : RC := { R with st := some a }
section
variable {R : RC} {M : Addr → Prop} {H : Hp} {a : Addr}
mutual
theorem Rep.with (e : R.st = none) : ∀ {v : V} {d : D}, Rep R M H v d → Rep (R.with a) M H v d
  | _, _, .non => .non
  | _, _, .bl b => .bl b
  | _, _, .int i => .int i
  | _, _, .str x => .str x
  | _, _, .ty n => .ty n
  | _, _, .tup t l => .tup t (RepL.with e l)
  | _, _, .lst t n l => .lst t n (RepL.with e l)
  | _, _, .sto q => by rw [e] at q; cases q
  | _, _, .exc0 x y => .exc0 x y
  | _, _, .excF x y z n l => .excF x y z n (RepF.with e l)
  | _, _, .ins t n b l => .ins t n b (RepF.with e l)
  | _, _, .dct t n => .dct t n
theorem RepL.with (e : R.st = none) : ∀ {v : List V} {d : List D}, RepL R M H v d → RepL (R.with a) M H v d
  | _, _, .nil => .nil
  | _, _, .cons x y => .cons (Rep.with e x) (RepL.with e y)
theorem RepF.with (e : R.st = none) : ∀ {v : List (Str × V)} {d : List (Str × D)}, RepF R M H v d → RepF (R.with a) M H v d
  | _, _, .nil => .nil
  | _, _, .cons x y => .cons (Rep.with e x) (RepF.with e y)
end
end
end Nb
set_option maxRecDepth 100000
set_option maxHeartbeats 2000000
/-! Nb: a number is drawn from the store. -/
namespace Nb
open PySem PySem.Spec PyProof.Rows L2
/-- the store's place lies within -/
def InS (i : Nat) (σ : St) (H : Hp) : Prop := ∃ (a : Addr) (ns : List Int) (z : Int), σ[i]? = some (some (.ref a)) ∧ H a = some (.lst (ns.map V.int)) ∧ ns[0]? = some z ∧ 5 ≤ z ∧ z < (ns.length : Int)
/-- a test behind which, where it holds, more is known -/
def toBF (A : Act) (W : WX) (g : DB) (φ : St → Hp → Prop) : TT := fun σ H Q => ∃ (env : DEnv) (Qd : Bool → Prop) (Ed : Ex → Prop), ERep A H σ env ∧ g env Qd Ed ∧
  (∀ b H', Stp A.R H H' → Qd b → (b = true → φ σ H') → Q b H') ∧ XOut A W σ env H Ed
section
variable {X : Cx} {A : Act} {W : WX}
structure GWF (X : Cx) (A : Act) (W : WX) (e : Expr) (g : DB) (φ : St → Hp → Prop) : Prop where
  p : PW X e (toBF A W g φ)
theorem gwf_and {a b : Expr} {rest : List Expr} {pos} {g u : DB} {φ : St → Hp → Prop} (h : GT X A W a g) (k : GWF X A W (.BoolOp .And (b :: rest) pos) u φ) : GWF X A W (.BoolOp .And (a :: b :: rest) pos) (dand g u) φ := by
  refine ⟨pw_imp (pw_and h.p k.p) fun σ H Q ⟨env, Qd, Ed, E, h, q, x⟩ => toB_step E h x fun c H1 s E1 x1 hd => ?_⟩
  cases c with
  | true => exact ⟨env, Qd, Ed, E1, hd, fun b H2 s2 qd hf => q b H2 (s.trans s2) qd hf, x1⟩
  | false => exact q false H1 s hd fun z => Bool.noConfusion z
/-- store[0] < len(store) -/
def dinS (i : Nat) : DB := fun env Q _ => env[i]? = some (.val .sto) ∧ ∀ b, Q b
theorem gwf_in {i : Nat} {a e : Expr} {c : Int} {j : Nat} {p p1 p2 p3 pos bpos : Pos} (ha : PE X a (tVar i)) (he : PE X e (tVar i)) (hc : c = 0) (hg : Gl X "len") (hm : X.mg "len" = none) (hK : A.R.K = X.K)
    (hP : PE X e (tVar i) → Gl X "len" → X.mg "len" = none → PE X (.Call (.Name "len" p1) [e] [] p2) (tCB (fun xs H Q => ∃ p ys, xs = [.ref p] ∧ (SqL X.K H p ys ∨ SqT X.K H p ys) ∧ Q (.int ys.length) H) (tCons (tVar i) tNil)) := by exact fun h hg hm => pe_callB call_len_seq hg hm PySem.boot_len (pa_cons h pa_nil))
    (hM : behindInMarks .Lt (.Call (.Name "len" p1) [e] [] p2) = false := by first | exact nomark _ | rfl) :
    GWF X A W (.BoolOp .And [.Compare (.Subscript a (.Constant (.int c) j p) p3) [.Lt] [.Call (.Name "len" p1) [e] [] p2] pos] bpos) (dinS i) (InS i) := by
  refine ⟨pw_imp (pw_and1 (pt_cmpR op_lt (pe_ix ix_seq ha pe_int (fun _ _ => rfl)) (hP he hg hm) hM)) fun σ H Q ⟨env, Qd, Ed, E, ⟨h, hq⟩, q, x⟩ => ?_⟩
  subst hc
  obtain ⟨b, ns, h1, h2, h3, h4⟩ := E.sto h
  have hlt : 0 < ns.length := by have := h4.1.1; omega
  have h0 : ns[0]? = some ns[0] := List.getElem?_eq_getElem hlt
  have h5 : 5 ≤ ns[0] := h4.2 0 _ h0
  refine ⟨.ref b, h2, .inl ⟨b, ns.map V.int, 0, .int ns[0], rfl, rfl, SqL.of h3, ?_, ?_⟩⟩
  · unfold L2.atI
    rw [List.length_map, show (0 : Int) = ((0 : Nat) : Int) from rfl, ixn_nat hlt, Option.bind_some, List.getElem?_map, h0] <;> rfl
  · refine ⟨.ref b, h2, b, ns.map V.int, rfl, .inl (SqL.of h3), ?_⟩
    refine ⟨ns[0], _, rfl, rfl, _, rfl, ?_⟩
    refine q _ H (Stp.refl _ _) (hq _) fun e => ⟨b, ns, ns[0], h2, h3, h0, h5, ?_⟩
    have := of_decide_eq_true e
    rw [List.length_map] at this
    exact this
/-- if ..: x = int(store[store[0]]); rest -/
def difS (i j : Nat) (c : DB) (s t : DS) : DS := fun K env => env[i]? = some (.val .sto) ∧ c env (fun b => if b = true then ∀ z : Int, s K (env.set j (.val (.int z))) else t K env) fun x => K.ex x env
theorem gs_ifS {i j : Nat} {x : Str} {test a b : Expr} {rest els : List Stmt} {gc : DB} {s t : DS} {cc : Int} {kk : Nat} {p0 p1 p2 p3 p4 p5 p6 pos : Pos} (hT : GWF X A W test gc (InS i)) (ha : PE X a (tVar i)) (hb : PE X b (tVar i)) (hc : cc = 0) (hg : Gl X "int") (hm : X.mg "int" = none) (hN : X.N.Nodup) (hi : X.N[j]? = some x) (hx : Loc X.env.scope x)
    (hr : GSs X A W rest s) (ht : GSs X A W els t)
    (hP : PE X a (tVar i) → PE X b (tVar i) → Gl X "int" → X.mg "int" = none → ∃ r, CallR X (.type "int") r ∧ (∀ z H Q, Q (.int z) H → r [.int z] H Q) ∧ PE X (.Call (.Name "int" p1) [.Subscript a (.Subscript b (.Constant (.int cc) kk p4) p3) p2] [] p5) (tCB r (tCons (tOp (rIx X.K) (tVar i) (tOp (rIx X.K) (tVar i) (tC (.int cc)))) tNil)) := by
      exact fun ha hb hg hm => ⟨_, call_int1, fun z H Q h => .inl ⟨z, rfl, h⟩, pe_callTy call_int1 hg hm PyProof.Rows.boot_int (pa_cons (pe_ix ix_seq ha (pe_ix ix_seq hb pe_int (fun _ _ => rfl)) (fun _ _ => rfl)) pa_nil)⟩)
    (hs : swapsWith (.Call (.Name "int" p1) [.Subscript a (.Subscript b (.Constant (.int cc) kk p4) p3) p2] [] p5) (some (.Name x p0)) p6.line X.env = pure false := by rfl) (hf : X.fn x = true ∨ X.env.scope.names.lookup x = some .local := by first | exact .inl rfl | exact .inr rfl | assumption) :
    GS X A W (.If test (.Assign [.Name x p0] (.Call (.Name "int" p1) [.Subscript a (.Subscript b (.Constant (.int cc) kk p4) p3) p2] [] p5) p6 :: rest) els pos) (difS i j gc s t) := by
  obtain ⟨r, hr1, hr2, hE⟩ := hP ha hb hg hm
  refine ⟨ps_imp (ps_if hT.p.pt (pss_cons (ps_set hN hi hx hE hs hf) hr.p) ht.p) fun De σ H ⟨env, K, E, ⟨he, h⟩, q1, q2, q3, q4, q5⟩ => ?_⟩
  refine ⟨env, _, _, E, h, fun d H' s2 hd hφ => ?_, xout_of E q5⟩
  have E' := E.stp s2
  have kk := E.keep s2
  cases d with
  | false =>
    simp only [Bool.false_eq_true, if_false] at hd ⊢
    exact ⟨env, K, E', hd, fun σ2 H2 env2 k2 => q1 σ2 H2 env2 (kk.trans k2), fun σ2 H2 env2 k2 => q2 σ2 H2 env2 (kk.trans k2), fun σ2 H2 env2 k2 => q3 σ2 H2 env2 (kk.trans k2), q4, fun x c dd σ2 H2 env2 k2 => q5 x c dd σ2 H2 env2 (kk.trans k2)⟩
  | true =>
    simp only [if_true] at hd ⊢
    obtain ⟨a', ns, z, g1, g2, g3, g4, g5⟩ := hφ rfl
    subst hc
    have hz : ∃ n : Nat, z = (n : Nat) ∧ n < ns.length := ⟨z.toNat, by omega, by omega⟩
    obtain ⟨n, rfl, hn⟩ := hz
    have h0 : 0 < ns.length := by omega
    have r0 : L2.atI (ns.map V.int) (0 : Int) = some (.int (n : Nat)) := by
      unfold L2.atI
      rw [List.length_map, show (0 : Int) = ((0 : Nat) : Int) from rfl, ixn_nat h0, Option.bind_some, List.getElem?_map, g3] <;> rfl
    have r1 : L2.atI (ns.map V.int) ((n : Nat) : Int) = some (.int ns[n]) := by
      unfold L2.atI
      rw [List.length_map, ixn_nat hn, Option.bind_some, List.getElem?_map, List.getElem?_eq_getElem hn] <;> rfl
    refine ⟨.ref a', g1, .ref a', g1, .inl ⟨a', _, 0, _, rfl, rfl, SqL.of g2, r0, .inl ⟨a', _, (n : Nat), _, rfl, rfl, SqL.of g2, r1, hr2 _ _ _ ?_⟩⟩⟩
    have E2 := E'.set (i := j) (v := .int ns[n]) (d := .int ns[n]) (.int _)
    have k3 : Keep (MM A σ env) (MM A (σ.set j (some (.int ns[n]))) (env.set j (.val (.int ns[n])))) H H' := kk.trans E'.setKeep
    exact ⟨_, K, E2, hd _, fun σ2 H2 env2 k2 => q1 σ2 H2 env2 (k3.trans k2), fun σ2 H2 env2 k2 => q2 σ2 H2 env2 (k3.trans k2), fun σ2 H2 env2 k2 => q3 σ2 H2 env2 (k3.trans k2), q4, fun x c dd σ2 H2 env2 k2 => q5 x c dd σ2 H2 env2 (k3.trans k2)⟩
end
end Nb
set_option maxRecDepth 100000
set_option maxHeartbeats 2000000
/-! Nb: texts by their signs. -/
namespace Nb
open PySem PySem.Spec PyProof.Rows L2 TL
theorem atI_nat {α : Type} {l : List α} {k : Nat} (h : k < l.length) : L2.atI l (k : Nat) = some l[k] := by
  unfold L2.atI
  rw [ixn_nat h, Option.bind_some, List.getElem?_eq_getElem h]
theorem atI_int {α : Type} {l : List α} {i : Int} (h0 : 0 ≤ i) (h : i < (l.length : Int)) : ∃ c, L2.atI l i = some c ∧ c ∈ l ∧ l[i.toNat]? = some c := by
  have hk : i.toNat < l.length := by omega
  refine ⟨l[i.toNat], ?_, List.getElem_mem hk, List.getElem?_eq_getElem hk⟩
  have e : ((i.toNat : Nat) : Int) = i := by omega
  have := atI_nat hk
  rw [e] at this
  exact this
theorem tl_nil : tl ("" : Str) = [] := by
  rw [tl_ofString]
  rfl
theorem tl_one (c : Nat) : tl ⟨#[c]⟩ = [c] := rfl
theorem hasS_one (x : Str) (c : Nat) : hasS ⟨#[c]⟩ x = decide (c ∈ tl x) := PySem.StrLaws.found_one x c
theorem len_app (x y : Str) : (x ++ y).length = x.length + y.length := by rw [len_tl, len_tl, len_tl, tl_append, List.length_append]
theorem len_one (c : Nat) : (⟨#[c]⟩ : Str).length = 1 := rfl
end Nb
namespace Nb
open PySem PySem.Spec PyProof.Rows L2 TL
/-! loops, blocks: what one shows -/
theorem for_r1 {gs : DL} {s : DS} {K : KEnd} {env : DEnv} {j : Nat} {n : Int} (I : Nat → DEnv → Prop) (hg : ∀ (Q : List D → Prop) (Ed : Ex → Prop), Q [.int n] → gs env Q Ed) (h1 : -(2 ^ 62) ≤ n) (h2 : n < 2 ^ 62) (h0 : I 0 env)
    (step : ∀ (i : Nat) (env' : DEnv), i < n.toNat → I i env' → s { K with nx := I (i + 1), ct := I (i + 1), bk := K.nx } (env'.set j (.val (.int (i : Nat))))) (fin : ∀ env', I n.toNat env' → K.nx env') : dfor (diR1 gs) (dname j) s K env := by
  unfold dfor
  refine hg _ _ ⟨h1, h2, I, h0, fun i d env' e hi => ?_, fun env' hi => fin env' (by rw [rngD_len] at hi; exact hi)⟩
  rw [rngD_get] at e
  by_cases c : i < n.toNat
  · rw [if_pos c] at e
    cases e
    rw [Int.zero_add]
    exact step i env' c hi
  · rw [if_neg c] at e; cases e
theorem for_l {gi : DI} {t : DG} {s : DS} {K : KEnd} {env : DEnv} {ds : List D} (I : Nat → DEnv → Prop) (hg : ∀ (Q : List D → Prop) (Ed : Ex → Prop), Q ds → gi env Q Ed) (h0 : I 0 env)
    (step : ∀ (i : Nat) (d : D) (env' : DEnv), ds[i]? = some d → I i env' → t d env' fun env2 => s { K with nx := I (i + 1), ct := I (i + 1), bk := K.nx } env2) (fin : ∀ env', I ds.length env' → K.nx env') : dfor gi t s K env := by
  unfold dfor
  exact hg _ _ ⟨I, h0, step, fin⟩
theorem dlc_map {gi : DI} {t : DG} {ge : DE} {vs : List Nat} {env : DEnv} {Q : List D → Prop} {Ed : Ex → Prop} {ds : List D} (f : D → D) (hgi : ∀ Q' : List D → Prop, Q' ds → gi env Q' Ed) (hl : ds.length ≤ LINE)
    (he : ∀ d ∈ ds, ∀ Q' : D → Prop, Q' (f d) → t d (blkD env vs) fun env2 => ge env2 Q' fun _ => False) (hq : Q (ds.map f)) : dlc gi t dyes ge vs env Q Ed := by
  unfold dlc
  refine hgi _ ⟨fun i acc => acc = (ds.take i).map f ∧ i ≤ ds.length, ⟨rfl, Nat.zero_le _⟩, fun i d acc e ⟨ha, hi⟩ => ?_, fun acc ⟨ha, _⟩ => ?_⟩
  · have hm : d ∈ ds := List.mem_of_getElem? e
    have hlt : i < ds.length := (List.getElem?_eq_some_iff.mp e).1
    simp only [dyes, if_true]
    refine he d hm _ ⟨?_, ?_, hlt⟩
    · rw [ha, List.length_map, List.length_take]
      omega
    · rw [ha, List.take_add_one, e, List.map_append]
      rfl
  · rw [ha, List.take_length]
    exact hq
end Nb
set_option maxRecDepth 100000
set_option maxHeartbeats 2000000
/-! Nb: lists of texts compared; what is sorted. -/
namespace Nb
open PySem PySem.Spec PyProof.Rows L2 TL
theorem pys_strs : ∀ l : List Str, D.pys (l.map D.str) = some (l.map PyData.str)
  | [] => rfl
  | x :: l => by
    rw [List.map_cons, D.pys, pys_strs l]
    rfl
theorem eqvAll_strs : ∀ a b : List Str, PyData.eqvAll (a.map .str) (b.map .str) = decide (a = b)
  | [], [] => rfl
  | [], _ :: _ => rfl
  | _ :: _, [] => rfl
  | x :: a, y :: b => by
    rw [List.map_cons, List.map_cons, PyData.eqvAll, eqvAll_strs a b, PyData.eqv]
    by_cases h1 : x = y
    · by_cases h2 : a = b
      · simp [h1, h2]
      · simp [h1, h2]
    · simp [h1]
theorem eqv_strs (a b : List Str) : D.eqv (.lst (a.map D.str)) (.lst (b.map D.str)) = decide (a = b) := by
  unfold D.eqv
  rw [D.py, D.py, pys_strs, pys_strs]
  show PyData.eqv (.list _) (.list _) = _
  rw [PyData.eqv]
  exact eqvAll_strs a b
end Nb
namespace Nb
open PySem PySem.Spec PyProof.Rows L2 TL
end Nb
set_option maxRecDepth 100000
set_option maxHeartbeats 2000000
/-! Nb: the law: its script is read once, then all is drawn from the store. -/
namespace Nb
open PySem PySem.Spec PyProof.Rows L2
/-- the script's numbers are laid out, a new list -/
def spStore (K : PySem.W.Frag) : Sp := fun vs H Q _ => ∃ (a : Addr) (ns : List Int), vs = [.ref a] ∧ SqL K H a (ns.map V.int) ∧ ns.length ≤ 63 ∧ ∀ (H' : Hp) (p : Addr) (ms : List Int), H' p = some (.lst (ms.map V.int)) → InvS ms → Q (.ref p) H'
/-- the law: called with the script, it answers True -/
def spLaw (K : PySem.W.Frag) : Sp := fun vs H Q _ => ∃ (a : Addr) (ns : List Int), vs = [.ref a] ∧ SqL K H a (ns.map V.int) ∧ ns.length ≤ 63 ∧ ∀ H', Q (.bl true) H'
theorem SqL.up {K : PySem.W.Frag} {H : Hp} {a p : Addr} {xs : List V} {o : HO} (h : SqL K H a xs) (hp : H p = none) : SqL K (upd H p o) a xs := by
  rcases h with h | h
  · rcases h with h | ⟨u, h⟩
    · exact .inl (.inl (by rw [upd_ne (ne_of_none h hp)]; exact h))
    · exact .inl (.inr ⟨u, by rw [upd_ne (ne_of_none h hp)]; exact h⟩)
  · exact .inr h
section
variable {X : Cx}
/-- the rest of a law, whatever activation it is told for -/
theorem rest_act {W : WX} {g : DS} {K : PySem.W.Frag} {mg : Str → Option Value} {body : List Stmt} (h : ∀ B : Act, B.R.K = K → B.R.mg = mg → B.R.hx = none → B.fr = false → GSs X B W body g) :
    PSs X body (fun De σ H => ∃ B : Act, (B.R.K = K ∧ B.R.mg = mg ∧ B.R.hx = none ∧ B.fr = false) ∧ toS B W g De σ H) :=
  ⟨fun pins s σ H De I ⟨B, ⟨h1, h2, h3, h4⟩, w⟩ => (h B h1 h2 h3 h4).p.run pins s σ H De I w⟩
end
/-- behind the law's first statement -/
theorem toS_store {W : WX} {g : DS} {De : Ends} {σ : St} {H1 : Hp} {K : PySem.W.Frag} {mg : Str → Option Value} {p : Addr} {ms : List Int} {N : Nat} (h1 : H1 p = some (.lst (ms.map V.int))) (hI : InvS ms) (hl : σ.length = N + 2) (hp : σ[1]? = some (some (.ref p)))
    (hg : g { nx := fun _ => False, rt := fun d _ => d = .bl true, ex := fun _ _ => False } (.un :: .val .sto :: List.replicate N .un)) (q : ∀ H', De.rt (.bl true) H') :
    ∃ B : Act, (B.R.K = K ∧ B.R.mg = mg ∧ B.R.hx = none ∧ B.fr = false) ∧ toS B W g De σ H1 := by
  have env_at : ∀ {i : Nat} {x : SD}, ((SD.un :: .val .sto :: List.replicate N .un : DEnv))[i]? = some x → x = .un ∨ (i = 1 ∧ x = .val .sto) := fun {i x} h => by
    match i, h with
    | 0, h => cases h; exact .inl rfl
    | 1, h => cases h; exact .inr ⟨rfl, rfl⟩
    | i + 2, h =>
      have h' : (List.replicate N SD.un)[i]? = some x := h
      rw [List.getElem?_replicate] at h'
      split at h'
      · cases h'; exact .inl rfl
      · cases h'
  have no : ∀ {i : Nat} {es : List D}, ((SD.un :: .val .sto :: List.replicate N .un : DEnv))[i]? = some (.own es) → False := fun {i es} h => by
    rcases env_at h with z | ⟨_, z⟩ <;> cases z
  refine ⟨⟨⟨K, mg, some p, none⟩, H1, fun b => b = p, false⟩, ⟨rfl, rfl, rfl, rfl⟩, _, _, ⟨⟨fun a e => ?_, fun a e => ?_, fun a e => ?_⟩, ?_, fun i d h => ?_, fun i es h => (no h).elim, fun i j es fs a h => (no h).elim, Stp.refl _ _⟩, hg, fun _ _ _ _ _ z => z.elim, fun _ _ _ _ _ z => z.elim, fun _ _ _ _ _ z => z.elim, fun v d σ' H' env' E' rr hq => ?_, fun _ _ _ _ _ _ _ _ _ z => z.elim⟩
  · cases e
    exact ⟨ms, h1, hI⟩
  · cases e
    rfl
  · obtain rfl : a = p := e
    show H1 a ≠ none
    rw [h1]
    intro z
    cases z
  · rw [hl, List.length_cons, List.length_cons, List.length_replicate]
  · rcases env_at h with z | ⟨rfl, z⟩
    · cases z
    · cases z
      exact ⟨_, hp, .sto rfl⟩
  · unfold RetRep at rr
    rw [if_neg Bool.false_ne_true] at rr
    obtain rfl : d = .bl true := hq
    cases rr
    exact q H'
/-- nothing leaves a law -/
theorem cx_no {P : Program} {w : World} {H : Hp} {s : Shared} {e : Value} {s' : Shared} (h : L2N.CX P w [] H s (fun _ _ _ => False) e s') : False := by
  obtain ⟨_, _, _, _, _, _, _, _, _, _, _, _, z⟩ := h
  exact z
end Nb
set_option maxRecDepth 100000
set_option maxHeartbeats 2000000
/-! Nb: own exceptions whose __init__ stores any number of fields; raise without fields; what is never reached; gcd; sum. -/
namespace Nb
open PySem PySem.Spec PyProof.Rows L2 PySem.W PySem.Calls
inductive Asgs : List Stmt → List (Str × Str) → Prop
  | nil : Asgs [] []
  | cons {f a : Str} {q1 q2 q3 q4 : Pos} {ss : List Stmt} {ps : List (Str × Str)} (ha : (a == ("__debug__" : Str)) = false) (hs : ∀ env : Env, swapsWith (.Name a q3) (some (.Attribute (.Name "self" q1) f q2)) q4.line env = pure false) (t : Asgs ss ps) : Asgs (.Assign [.Attribute (.Name "self" q1) f q2] (.Name a q3) q4 :: ss) ((f, a) :: ps)
/-- the fields one after the other -/
def putAll (mL : Str → Option Value) : List (Str × Str) → (Str → Option Value) → Str → Option Value
  | [], m => m
  | (f, a) :: ps, m => putAll mL ps fun y => if y = f then mL a else m y
abbrev excD (C dx t1 : Addr) : Obj := { cls := .ref C, dict := some dx, data := .fields #[.ref t1, .none, .none, .none, .bool false, .none] }
section
variable {prog : Program} {w : World} {A : Around} {E : Value → Shared → Prop} {K : PySem.W.Frag} {C fI : Addr}
theorem asgs_old {x dx t1 L : Addr} {qual : Str} {scope : Scope} {cda cc : Addr} {mL : Str → Option Value} {cd : ClassData} {g : Array GenState} {dr : Drawn} {os : OsState} {Q : Flow → Shared → Prop}
    (hk : scope.kind = .function) (ls : scope.names.lookup ("self" : Str) = some .local) (hself : mL "self" = some (.ref x)) (hcl : clsIn K C = some cd) (hbm : PySem.HandSPX.refsVE cd.mro = true) (hh : cd.hasDict = true) (sa : findIn K (.ref C) "__setattr__" = some (some (.builtin "object.__setattr__"))) (hxK : K.lookup dx = none) (hLd : L ≠ dx) (hxd : x ≠ dx) :
    ∀ {ss : List Stmt} {ps : List (Str × Str)}, Asgs ss ps → (∀ p ∈ ps, scope.names.lookup p.2 = some .local ∧ (mL p.2).isSome = true ∧ findIn K (.ref C) p.1 = some none) → ∀ {h : Heap} {tk : Nat} {m0 : Str → Option Value} {nl : List Str}, K.In h → h.get? x = some (excD C dx t1) → h.Ns1 dx m0 → Within m0 nl → nl.length + ps.length ≤ 1000 → h.Ns L mL →
      (∀ h' tk', (∀ b o, b ≠ dx → h.get? b = some o → h'.get? b = some o) → h'.Ns1 dx (putAll mL ps m0) → Q .next ⟨h', g, dr, tk', os⟩) →
      wpAny (model prog w) A (execs ss (ksEnv qual scope L fI (.ref cda) cc)) Q E ⟨h, g, dr, tk, os⟩ := by
  intro ss ps as
  induction as with
  | nil => intro _ h tk m0 nl _ _ hn _ _ _ hq; exact wpAny_execs_nil (hq h tk (fun _ _ _ e => e) hn)
  | @cons f a q1 q2 q3 q4 ss ps ha hs t ih =>
    intro hp h tk m0 nl X hx hn hw hz hns hq
    obtain ⟨la, va, no⟩ := hp _ List.mem_cons_self
    obtain ⟨v, hv⟩ := Option.isSome_iff_exists.mp va
    refine wpAny_execs_cons (plainObj_wpAny_Assign_Attribute ?_ (hs _))
    refine wpAny_Name ?_ ha
    refine wpAny_loadName_local (env := ksEnv qual scope L fI (.ref cda) cc) (m := mL) hk la hns hv ?_
    refine wpAny_Name ?_ (by decide)
    refine wpAny_loadName_local (env := ksEnv qual scope L fI (.ref cda) cc) (m := mL) hk ls hns hself ?_
    obtain ⟨oD, esD, epD, hoD, hdD, _⟩ := hn.count hw
    refine set_plain X (ox := excD C dx t1) (od := some oD) ⟨hx, rfl, rfl, hoD⟩ sa ?_
    refine PySem.OEX.osa_old X hx hn hw (by simp only [List.length_cons] at hz; omega) hcl hbm hh no (fun h3 tk3 k3 hn3 => ?_)
    show wpAny _ _ (execs _ _) _ _ _
    have X3 : K.In h3 := kept_but X hxK k3
    refine ih (fun p hp' => hp p (List.mem_cons_of_mem _ hp')) (nl := f :: nl) X3 (k3 _ _ hxd hx) hn3 (Within.cons f v hw) (by simp only [List.length_cons] at hz ⊢; omega) (hns.at fun o e => k3 L o hLd e) fun h' tk' k' hn' => ?_
    refine hq h' tk' (fun b o hb e => k' b o hb (k3 b o hb e)) ?_
    show h'.Ns1 dx (putAll mL ps fun y => if y = f then mL a else m0 y)
    rw [hv]
    exact hn'
end
/-- the text of an __init__ with the fields ps (field, parameter) -/
structure InitN (st : Stmt) (f0 a0 : Str) (ps : List (Str × Str)) : Prop where
  ex : ∃ (msg : Str) (j : Nat) (p0 p1 p2 p3 p4 p5 q1 q2 q3 q4 : Pos) (ss : List Stmt) (a1 : Pos) (ars : List Arg), defBody st = .Expr (.Call (.Attribute (.Call (.Name "super" p0) [] [] p1) "__init__" p2) [.Constant (.str msg) j p3] [] p4) p5 :: .Assign [.Attribute (.Name "self" q1) f0 q2] (.Name a0 q3) q4 :: ss ∧ Asgs ss ps ∧
    ((defArgs st).posonlyargs ++ (defArgs st).args).head? = some { arg := "self", annotation := none, pos := a1 } ∧ (a0 == ("__debug__" : Str)) = false ∧
    (∀ a ∈ a0 :: ps.map (·.2), (defScope st).names.lookup a = some .local) ∧ (defScope st).names.lookup ("self" : Str) = some .local ∧ (defScope st).names.lookup ("super" : Str) = some .globalImplicit ∧ (defScope st).names.lookup ("__class__" : Str) = some .free ∧ (defScope st).kind = .function ∧
    (defScope st).isCoroutine = false ∧ (defScope st).isGenerator = false ∧ (∀ y ∈ (defScope st).names, y.2 ≠ .cell) ∧
    (∀ (qual : Str) (doc pm cdv ct : Value) (an : Option Addr) (cc : Addr) (x : Value) (vs : List Value), vs.length = ps.length + 1 → bindArgs (ksFn "__init__" qual (defArgs st) (defBody st) (defScope st) .none .none doc pm an cdv ct cc) ⟨x :: vs, []⟩ = pure ((("self" : Str), x) :: (a0 :: ps.map (·.2)).zip vs : List (Str × Value))) ∧
    (∀ env : Env, swapsWith (.Name a0 q3) (some (.Attribute (.Name "self" q1) f0 q2)) q4.line env = pure false) ∧
    (∀ (env : Env), ∃ pl : Sem Bool, eval (.Call (.Attribute (.Call (.Name "super" p0) [] [] p1) "__init__" p2) [.Constant (.str msg) j p3] [] p4) env = (do
      let ov ← attributeBase (.Call (.Name "super" p0) [] [] p1) "__init__" env (eval (.Call (.Name "super" p0) [] [] p1) env)
      standAt p2.atName
      let (f, first) ← holding [ov] (getMethod ov "__init__" pl)
      callWith p4 f first (backTo p4 (starEach [.Constant (.str msg) j p3] env)) []))
  nd : (("self" : Str) :: a0 :: ps.map (·.2)).Nodup
  few : ps.length ≤ 100
theorem lookup_rev {α : Type} : ∀ (l : List (Str × α)), (l.map (·.1)).Nodup → ∀ p ∈ l, l.reverse.lookup p.1 = some p.2 := by
  intro l
  induction l with
  | nil => intro _ p hp; cases hp
  | cons q l ih =>
    intro hn p hp
    rw [List.reverse_cons, List.lookup_append]
    rcases List.mem_cons.mp hp with e | e
    · have hq : l.reverse.lookup p.1 = none := by
        rw [List.lookup_eq_none_iff]
        intro r hr
        have hr' : r ∈ l := by simpa using hr
        have : p.1 ≠ r.1 := fun z => (List.nodup_cons.mp hn).1 (by rw [← e]; exact List.mem_map.mpr ⟨r, hr', z.symm⟩)
        simpa using this
      rw [hq, e]
      show (([q] : List (Str × α)).lookup q.1) = some q.2
      simp [List.lookup]
    · rw [ih (List.nodup_cons.mp hn).2 p e]
      rfl
section
variable {prog : Program} {w : World} {A : Around} {E : Value → Shared → Prop} {s : Shared} {K : PySem.W.Frag} {mg : Str → Option Value} {C fI : Addr}
/-- what __init__ leaves of a fresh exception at x -/
structure InitEndN (h h' : Heap) (x C dx t1 : Addr) (m : Str → Option Value) : Prop where
  keep : ∀ b o, b ≠ x → h.get? b = some o → h'.get? b = some o
  obj : h'.get? x = some (excD C dx t1)
  dbig : h.objs.size ≤ dx
  dne : dx ≠ x
  ns : h'.Ns1 dx m
abbrev binds (x : Value) (a0 : Str) (ps : List (Str × Str)) (vs : List Value) : List (Str × Value) := (("self" : Str), x) :: (a0 :: ps.map (·.2)).zip vs
theorem binds_keys {x : Value} {a0 : Str} {ps : List (Str × Str)} {vs : List Value} (h : vs.length = ps.length + 1) : (binds x a0 ps vs).map (·.1) = ("self" : Str) :: a0 :: ps.map (·.2) := by
  show ("self" : Str) :: ((a0 :: ps.map (·.2)).zip vs).map Prod.fst = _
  rw [List.map_fst_zip]
  simp [h]
theorem initN {R : Result → Shared → Prop} {cn f0 a0 : Str} {ps : List (Str × Str)} {st : Stmt} (T : SupTxt prog K mg cn C fI (f0 :: ps.map (·.1)) st) (TI : InitN st f0 a0 ps) {x t0 : Addr} {vs : List Value} (hl : vs.length = ps.length + 1) (X : K.In s.heap) (N : NsAt mg s.heap) (hlim : s.heap.NoLimit) (hx : s.heap.get? x = some (PySem.HandSPX.excO C t0)) (hnx : K.lookup x = none) (hroom : A.depth < recursionLimit)
    (hq : ∀ h' tk dx t1, InitEndN s.heap h' x C dx t1 (putAll (fun y => (binds (.ref x) a0 ps vs).reverse.lookup y) ((f0, a0) :: ps) fun _ => none) → R (.ok (.ret .none)) { s with heap := h', toks := tk }) :
    codeAny (model prog w) A (.call (.ref fI) ⟨.ref x :: vs, []⟩) R s := by
  obtain ⟨cc, cda, oc, od, doc, pm, an, ct, osl, qual, ccl, cl, cdd, cld, ccs, csl, vsc, file, tf, ho, hcd, hcell, hcode, hvs, hfile⟩ := T.fn
  obtain ⟨msg, j, p0, p1, p2, p3, p4, p5, q1, q2, q3, q4, ss, a1, ars, hB, hAs, hA, ha2, la, ls, lsu, lcl, hk, hco, hgen, hnc, hbd, hsw, hev⟩ := TI.ex
  obtain ⟨nm, q, N', bs, bm, sn, sub, ab, col, dd, k0, k1, k2, k3, k5, hC, hbm⟩ := T.cls
  have hcl : clsIn K C = some { name := nm, bases := bs, mro := .ref C :: bm, ns := N', qualname := q, hasDict := true, slotNames := sn, subclasses := sub, abstract := ab, collection := col, hasDel := false } := by unfold clsIn; rw [hC] <;> rfl
  have hkeys : ((binds (.ref x) a0 ps vs).map (·.1)).Nodup := by rw [binds_keys hl]; exact TI.nd
  have hlk : ∀ p ∈ binds (.ref x) a0 ps vs, (binds (.ref x) a0 ps vs).reverse.lookup p.1 = some p.2 := lookup_rev _ hkeys
  have hn2 : (binds (.ref x) a0 ps vs).reverse.lookup ("self" : Str) = some (.ref x) := hlk _ List.mem_cons_self
  have hany : ∀ a ∈ a0 :: ps.map (·.2), ((binds (.ref x) a0 ps vs).reverse.lookup a).isSome = true := by
    intro a ha
    have : a ∈ (binds (.ref x) a0 ps vs).map (·.1) := by rw [binds_keys hl]; exact List.mem_cons_of_mem _ ha
    obtain ⟨p, hp, e⟩ := List.mem_map.mp this
    rw [← e, hlk p hp]
    rfl
  refine ks_codeAny_call_defAt (fd := ksFn "__init__" qual (defArgs st) (defBody st) (defScope st) .none .none doc pm an (.ref cda) ct cc) (body := defBody st) (binds := binds (.ref x) a0 ps vs) hroom (X _ _ ho) rfl hlim (codeRec_of X hcd) rfl (BindsTo.of_eq ?_) hnc (fun y hy => ?_) (fun h₁ hns hk₁ => ?_) hco hgen hk
  · exact hbd _ _ _ _ _ _ _ _ _ hl
  · rcases List.mem_cons.mp hy with e | e
    · rw [e]; exact ls
    · exact la _ (List.of_mem_zip e).1
  · obtain ⟨v, hv⟩ := Option.isSome_iff_exists.mp (hany a0 List.mem_cons_self)
    have hxL : s.heap.objs.size ≠ x := Nat.ne_of_gt (Heap.lt_size hx)
    have X1 : K.In h₁ := X.keeps hk₁
    have hx1 := hk₁ _ _ hx
    have N1 : NsAt mg h₁ := ⟨N.g.keeps hk₁, let ⟨mb, b1, b2⟩ := N.b; ⟨mb, b1.keeps hk₁, b2⟩⟩
    obtain ⟨pl, hpl⟩ := hev (ksEnv qual (defScope st) s.heap.objs.size fI (.ref cda) cc)
    have go : _root_.PySem.wpAt (model prog w) (A.deeper (ksEnv qual (defScope st) s.heap.objs.size fI (.ref cda) cc)) (.func (defBody st) (ksEnv qual (defScope st) s.heap.objs.size fI (.ref cda) cc))
        (execs (.Expr (.Call (.Attribute (.Call (.Name "super" p0) [] [] p1) "__init__" p2) [.Constant (.str msg) j p3] [] p4) p5 :: .Assign [.Attribute (.Name "self" q1) f0 q2] (.Name a0 q3) q4 :: ss) (ksEnv qual (defScope st) s.heap.objs.size fI (.ref cda) cc)) (fun f s' => R (.ok (.ret (match f with | .ret v => v | _ => .none))) s')
        (fun e s' => wpAny (model prog w) (A.deeper (ksEnv qual (defScope st) s.heap.objs.size fI (.ref cda) cc)) (leaving (ksEnv qual (defScope st) s.heap.objs.size fI (.ref cda) cc) e) (fun _ s'' => R (.error e) s'') (fun e' s'' => R (.error e') s'') s')
        { s with heap := h₁, toks := s.toks + (binds (.ref x) a0 ps vs).length } := by
      refine ks_wpAt_execs_cons (sup_init (s := { s with heap := h₁, toks := s.toks + (binds (.ref x) a0 ps vs).length }) (ar := { arg := "self", annotation := none, pos := a1 }) T X1 N1 hx1 hns ho hA hn2 hcode hvs hfile hcell lsu lcl ls hk hpl fun h2 tk2 t2 k2 hx2 hz2 => ?_)
      have hns2 : h2.Ns s.heap.objs.size (fun y => (binds (.ref x) a0 ps vs).reverse.lookup y) := hns.at fun o e => k2 _ o hxL e
      have X2 : K.In h2 := kept_but X1 hnx k2
      refine wpAt_of_wpAny ?_
      show wpAny _ _ (execs _ _) _ _ _
      refine wpAny_execs_cons (plainObj_wpAny_Assign_Attribute ?_ (hsw _))
      refine wpAny_Name ?_ ha2
      refine wpAny_loadName_local (env := ksEnv qual (defScope st) s.heap.objs.size fI (.ref cda) cc) (m := fun y => (binds (.ref x) a0 ps vs).reverse.lookup y) hk (la _ List.mem_cons_self) hns2 hv ?_
      refine wpAny_Name ?_ (by decide)
      refine wpAny_loadName_local (env := ksEnv qual (defScope st) s.heap.objs.size fI (.ref cda) cc) (m := fun y => (binds (.ref x) a0 ps vs).reverse.lookup y) hk ls hns2 hn2 ?_
      refine set_plain X2 (ox := PySem.HandSPX.excO C t2) (od := none) ⟨hx2, rfl, rfl, trivial⟩ T.sa ?_
      refine PySem.HandSPX.exc_osa X2 hx2 hcl (show PySem.HandSPX.refsVE (.ref C :: bm) = true from hbm) rfl (T.noN f0 List.mem_cons_self) (fun h3 tk3 dx k3 dn dne hx3 hn3 => ?_)
      have z1 : s.heap.objs.size < h₁.objs.size := hns.lt
      have z2 : h₁.objs.size ≤ h2.objs.size := hz2
      have z3 : h2.objs.size ≤ dx := dn
      have X3 : K.In h3 := kept_but X2 hnx k3
      have hdK : K.lookup dx = none := by
        cases e : K.lookup dx with
        | none => rfl
        | some o =>
          exact absurd (Nat.lt_of_lt_of_le (Heap.lt_size (X _ _ e)) (Nat.le_of_lt (Nat.lt_of_lt_of_le z1 (Nat.le_trans z2 z3)))) (Nat.lt_irrefl _)
      show wpAny _ _ (execs ss _) _ _ _
      refine asgs_old (nl := [f0]) hk ls hn2 hcl (show PySem.HandSPX.refsVE (.ref C :: bm) = true from hbm) rfl T.sa hdK (Nat.ne_of_lt (Nat.lt_of_lt_of_le z1 (Nat.le_trans z2 z3))) (Ne.symm dne) hAs (fun p hp => ⟨la _ (List.mem_cons_of_mem _ (List.mem_map.mpr ⟨p, hp, rfl⟩)), hany _ (List.mem_cons_of_mem _ (List.mem_map.mpr ⟨p, hp, rfl⟩)), T.noN _ (List.mem_cons_of_mem _ (List.mem_map.mpr ⟨p, hp, rfl⟩))⟩) X3 hx3 hn3 ?_ (by have := TI.few; simp only [List.length_cons, List.length_nil]; omega) (hns2.at fun o e => k3 _ o hxL e) fun h4 tk4 k4 hn4 => ?_
      · intro y hy
        by_cases c : y = f0
        · simp [c]
        · simp [c] at hy
      · refine hq h4 tk4 dx t2 ⟨fun b o hb e => ?_, k4 _ _ (Ne.symm dne) hx3, Nat.le_of_lt (Nat.lt_of_lt_of_le z1 (Nat.le_trans z2 z3)), dne, ?_⟩
        · have lb := Heap.lt_size e
          exact k4 b o (Nat.ne_of_lt (Nat.lt_of_lt_of_le lb (Nat.le_of_lt (Nat.lt_of_lt_of_le z1 (Nat.le_trans z2 z3))))) (k3 b o hb (k2 b o hb (hk₁ b o e)))
        · show h4.Ns1 dx (putAll _ ps fun y => if y = f0 then (binds (.ref x) a0 ps vs).reverse.lookup a0 else none)
          rw [hv]
          exact hn4
    rw [← hB] at go
    exact go
end
section
variable {prog : Program} {w : World} {A : Around} {E : Value → Shared → Prop} {s : Shared} {K : PySem.W.Frag} {mg : Str → Option Value} {C fI : Addr}
structure MadeN (h h' : Heap) (e C d : Addr) (m : Str → Option Value) : Prop where
  keep : ∀ b o, h.get? b = some o → h'.get? b = some o
  new : h.objs.size ≤ e
  obj : ∃ oe vs, h'.get? e = some oe ∧ oe.cls = .ref C ∧ oe.dict = some d ∧ oe.data = .fields vs ∧ vs[1]? = some .none ∧ vs[2]? = some .none
  dbig : h.objs.size ≤ d
  dne : d ≠ e
  ns : h'.Ns1 d m
/-- the fields by their values -/
def putVals : List (Str × Value) → (Str → Option Value) → Str → Option Value
  | [], m => m
  | (f, v) :: ps, m => putVals ps fun y => if y = f then some v else m y
theorem putAll_vals {mL : Str → Option Value} : ∀ (ps : List (Str × Str)) (vs : List Value) (m : Str → Option Value), vs.length = ps.length → (∀ p ∈ (ps.map (·.2)).zip vs, mL p.1 = some p.2) → putAll mL ps m = putVals ((ps.map (·.1)).zip vs) m
  | [], [], _, _, _ => rfl
  | (f, a) :: ps, v :: vs, m, hl, h => by
    have hv : mL a = some v := h (a, v) List.mem_cons_self
    show putAll mL ps (fun y => if y = f then mL a else m y) = putVals ((ps.map (·.1)).zip vs) fun y => if y = f then some v else m y
    rw [hv]
    exact putAll_vals ps vs _ (by simpa using hl) fun p hp => h p (List.mem_cons_of_mem _ hp)
theorem madeN {R : Result → Shared → Prop} {cn f0 a0 : Str} {ps : List (Str × Str)} {st : Stmt} (T : SupTxt prog K mg cn C fI (f0 :: ps.map (·.1)) st) (TI : InitN st f0 a0 ps) {vs : List Value} (hl : vs.length = ps.length + 1) (X : K.In s.heap) (N : NsAt mg s.heap) (hlim : s.heap.NoLimit) (hroom : A.depth + 1 < recursionLimit)
    (hq : ∀ h' tk e d, MadeN s.heap h' e C d (putVals ((f0 :: ps.map (·.1)).zip vs) fun _ => none) → R (.ok (.ret (.ref e))) { s with heap := h', toks := tk }) :
    codeAny (model prog w) A (.call (.ref C) ⟨vs, []⟩) R s := by
  obtain ⟨nm, q, N', bs, bm, sn, sub, ab, col, dd, k0, k1, k2, k3, k5, hC, hbm⟩ := T.cls
  obtain ⟨hp, g, dr, tk, os⟩ := s
  have k : ∀ b o, hp.get? b = some o → ((hp.push (kdv_tup vs)).push (PySem.HandSPX.excO C hp.objs.size)).get? b = some o := fun b o e => Heap.get?_push_of_some _ (Heap.get?_push_of_some _ e)
  have hget : ((hp.push (kdv_tup vs)).push (PySem.HandSPX.excO C hp.objs.size)).get? (hp.objs.size + 1) = some (PySem.HandSPX.excO C hp.objs.size) := by heap_get
  have hnx : K.lookup (hp.objs.size + 1) = none := by
    cases e : K.lookup (hp.objs.size + 1) with
    | none => rfl
    | some o =>
      have z : hp.get? (hp.objs.size + 1) = some o := X _ _ e
      exact absurd (Nat.lt_of_succ_lt (Heap.lt_size z)) (Nat.lt_irrefl _)
  refine PySem.HandSPX.call_own PySem.F.excBase_ValueError (fun X => PySem.HandSPX.refsVE_contains X bm hbm) (X _ _ hC) (looks_findIn X T.iC) (fun self => bind_fn X self T.tC) (by have := TI.few; show vs.length ≤ sizeLine; rw [sizeLine_eq]; omega) ?_
  refine initN (s := ⟨(hp.push (kdv_tup vs)).push (PySem.HandSPX.excO C hp.objs.size), g, dr, tk, os⟩) T TI hl (X.keeps k) ⟨N.g.keeps k, let ⟨mb, b1, b2⟩ := N.b; ⟨mb, b1.keeps k, b2⟩⟩ (hlim.keeps k) hget hnx ?_ fun h' tk' dx t1 ⟨k', hx, dn, dne, hns⟩ => ?_
  · show A.depth + 1 < recursionLimit
    exact hroom
  · have old : ∀ b o, hp.get? b = some o → h'.get? b = some o := fun b o e => k' b o (Nat.ne_of_lt (Nat.lt_succ_of_lt (Heap.lt_size e))) (k b o e)
    have z : hp.objs.size + 1 + 1 ≤ dx := by
      first
        | (simpa only [Heap.size_push] using dn)
        | exact dn
        | (have q := dn; rw [Heap.size_push, Heap.size_push] at q; exact q)
    have hkeys : ((binds (.ref (hp.objs.size + 1)) a0 ps vs).map (·.1)).Nodup := by rw [binds_keys hl]; exact TI.nd
    have hlk := lookup_rev _ hkeys
    have em : putAll (fun y => (binds (.ref (hp.objs.size + 1)) a0 ps vs).reverse.lookup y) ((f0, a0) :: ps) (fun _ => none) = putVals ((f0 :: ps.map (·.1)).zip vs) fun _ => none := by
      refine putAll_vals ((f0, a0) :: ps) vs _ (by simpa using hl) fun p hp => hlk p (List.mem_cons_of_mem _ hp)
    rw [em] at hns
    exact ⟨rfl, hq h' tk' (hp.objs.size + 1) dx ⟨old, Nat.le_succ _, ⟨_, _, hx, rfl, rfl, rfl, rfl, rfl⟩, Nat.le_trans (Nat.le_trans (Nat.le_succ _) (Nat.le_succ _)) z, dne, hns⟩⟩
end
theorem relO_vals : ∀ {fs : List Str} {vs : List V} {us : List Value} {m : Str → Option Value} {acc : List (Str × V)}, Vals vs us → (∀ g, RelO (acc.lookup g) (m g)) → ∀ g, RelO (((fs.zip vs).reverse ++ acc).lookup g) (putVals (fs.zip us) m g)
  | [], _, _, m, acc, _, h, g => by simpa [putVals] using h g
  | f :: fs, [], _, m, acc, r, h, g => by cases r; simpa [putVals] using h g
  | f :: fs, v :: vs, u :: us, m, acc, r, h, g => by
    cases r with
    | cons rv rr =>
      have := relO_vals (fs := fs) (m := fun y => if y = f then some u else m y) (acc := (f, v) :: acc) rr (fun g => relO_put rv h g) g
      show RelO ((((f, v) :: fs.zip vs).reverse ++ acc).lookup g) _
      rw [List.reverse_cons, List.append_assoc]
      exact this
section
variable {X : Cx} {A : Act} {C fI : Addr}
def tMkN (C : Addr) (fs : List Str) (ta : TA) : St → Hp → XK → Prop := fun σ H Q => ta σ H fun vs H1 => vs.length = fs.length ∧ ∀ d, H1 d = none → Q (.ref C) (some d) (upd H1 d (.xd (fs.zip vs).reverse))
theorem pmk_N {x f0 a0 : Str} {ps : List (Str × Str)} {a : Expr} {es : List Expr} {ta : TA} {st : Stmt} {p pos : Pos} {k : Nat} (T : SupTxt X.prog X.K X.mg x C fI (f0 :: ps.map (·.1)) st) (TI : InitN st f0 a0 ps) (hr : Room k X.A) (ha : PA X (a :: es) ta) (hg : Gl X x) (hdb : (x == ("__debug__" : Str)) = false := by decide)
    (he : starEach (a :: es) X.env = (false, eval a X.env) :: starEach es X.env := by rfl) (hpl : (backTo pos (starEach es X.env)).any (·.1) = false := by rfl) :
    L2N.PMk X (.Call (.Name x p) (a :: es) [] pos) (tMkN C (f0 :: ps.map (·.1)) ta) := by
  intro pins s σ H Q I h
  refine wpAny_Call_Name_kw (ld_glob I hg T.gC ?_ hdb)
  refine PySem.W.callWith_K (h₀ := X.base) I.ok.mod.kin T.kC (thn (ha.run pos pins s σ H _ I h) fun us s1 hh => ?_) he hpl
  obtain ⟨vs, H1, I1, r1, hl, q1⟩ := hh
  refine ⟨I1.kIn, ?_⟩
  show wpAny _ _ (call (.ref C) us) _ _ _
  have hlu : us.length = ps.length + 1 := by rw [← r1.length, hl]; simp
  have hlim := I1.nolimit
  have hN := nsAt_of I1
  obtain ⟨hp, g, dr, tk, os⟩ := s1
  refine wpAny_call (madeN T TI hlu I1.kIn hN hlim (by have := hr.dp; omega) fun h' tk' e d M => ?_)
  show L2N.MkP X pins σ Q (.ref e) ⟨h', g, dr, tk', os⟩
  obtain ⟨oe, fv, hoe, hc, hd, hdat, h1, hcx⟩ := M.obj
  have hns := M.ns
  obtain ⟨G', g1, g2⟩ := restrict h' fun b => decide (b ≠ e)
  have gk : ∀ b, b ≠ e → G'.get? b = h'.get? b := fun b hb => g1 b (decide_eq_true hb)
  have ge : G'.get? e = none := g2 e (by simp)
  have old : ∀ b o, hp.get? b = some o → G'.get? b = some o := fun b o q => (gk b (Nat.ne_of_lt (Nat.lt_of_lt_of_le (Heap.lt_size q) M.new))).trans (M.keep b o q)
  have ob : ObjOk X.prog X.w (upd H1 d (.xd ((f0 :: ps.map (·.1)).zip vs).reverse)) G' d (.xd ((f0 :: ps.map (·.1)).zip vs).reverse) :=
    ⟨_, hns.at (fun o q => (gk d M.dne).trans q), fun g => by
      have := relO_vals (fs := f0 :: ps.map (·.1)) (m := fun _ => none) (acc := []) r1 (fun g => trivial) g
      rw [List.append_nil] at this
      exact this⟩
  have J : Inv X pins σ (upd H1 d (.xd ((f0 :: ps.map (·.1)).zip vs).reverse)) ⟨G', g, dr, tk', os⟩ := I1.laid (t' := tk') old M.dbig ob
  refine ⟨e, oe, fv, ⟨G', g, dr, tk', os⟩, _, .ref C, some d, rfl, J, fun b o q => ?_, ge, hoe, ⟨hc, hd, ctx_of hdat hcx⟩, hdat, h1, ?_, rfl, I1.bare, raises_own T.exC T.tyC, q1 d (I1.hok.fresh M.dbig)⟩
  · by_cases hb : b = e
    · have q' : G'.get? b = some o := q
      rw [hb, ge] at q'; cases q'
    · exact (gk b hb).symm.trans q
  · rw [upd_ne (Ne.symm M.dne)]
    exact I1.hok.fresh M.new
/-- raise C(e, ..): data -/
def draiseN (x : Str) (fs : List Str) (gs : DL) : DS := fun K env => gs env (fun ds => ds.length = fs.length ∧ K.ex (x, (fs.zip ds).reverse) env) fun e => K.ex e env
theorem RepF.zip {R : RC} {M : Addr → Prop} {H : Hp} : ∀ {fs : List Str} {vs : List V} {ds : List D}, RepL R M H vs ds → RepF R M H (fs.zip vs) (fs.zip ds)
  | [], _, _, _ => .nil
  | _ :: _, _, _, .nil => .nil
  | _ :: _, _, _, .cons a b => .cons a (RepF.zip b)
theorem RepF.append {R : RC} {M : Addr → Prop} {H : Hp} : ∀ {v v' : List (Str × V)} {d d' : List (Str × D)}, RepF R M H v d → RepF R M H v' d' → RepF R M H (v ++ v') (d ++ d')
  | _, _, _, _, .nil, q => q
  | _, _, _, _, .cons a b, q => .cons a (RepF.append b q)
theorem RepF.reverse {R : RC} {M : Addr → Prop} {H : Hp} : ∀ {v : List (Str × V)} {d : List (Str × D)}, RepF R M H v d → RepF R M H v.reverse d.reverse
  | _, _, .nil => .nil
  | _, _, .cons a b => by
    rw [List.reverse_cons, List.reverse_cons]
    exact (RepF.reverse b).append (.cons a .nil)
/-- raise x(..), any number of fields -/
structure RaiN (P : Program) (K : PySem.W.Frag) (mg : Str → Option Value) (x f0 a0 : Str) (ps : List (Str × Str)) (st : Stmt) : Prop where
  ex : ∃ C fI, SupTxt P K mg x C fI (f0 :: ps.map (·.1)) st
  tx : InitN st f0 a0 ps
theorem gs_raiN {W : WX} {x f0 a0 : Str} {ps : List (Str × Str)} {a : Expr} {es : List Expr} {gs : DL} {st : Stmt} {p pos pos2 : Pos} {k : Nat} (T : RaiN X.prog X.K X.mg x f0 a0 ps st) (hr : Room k X.A) (tk : Takes X W) (ha : GL X A W (a :: es) gs) (hc : X.calm = true := by rfl) (hm : A.R.mg = X.mg := by rfl) (hg : Gl X x := by rfl) (hdb : (x == ("__debug__" : Str)) = false := by decide)
    (he : starEach (a :: es) X.env = (false, eval a X.env) :: starEach es X.env := by rfl) (hpl : (backTo pos (starEach es X.env)).any (·.1) = false := by rfl) :
    GS X A W (.Raise (some (.Call (.Name x p) (a :: es) [] pos)) none pos2) (draiseN x (f0 :: ps.map (·.1)) gs) := by
  obtain ⟨C, fI, S⟩ := T.ex
  refine ⟨ps_imp (L2N.ps_raise hc tk (pmk_N S T.tx hr ha.p hg hdb he hpl)) fun De σ H ⟨env, K, E, h, q1, q2, q3, q4, q5⟩ => ?_⟩
  refine toL_step E h (xout_of E q5) fun vs ds H1 s1 E1 x1 r ⟨hl, h1⟩ => ?_
  refine ⟨r.length.trans hl, fun a hd => ?_⟩
  have s2 : Stp A.R H1 (upd H1 a (.xd ((f0 :: ps.map (·.1)).zip vs).reverse)) := Stp.new hd
  have kk := (E.keep s1).trans (E1.keep s2)
  exact q5 (x, _) _ _ σ _ env kk (E1.stp s2) ⟨C, rfl, by rw [hm]; exact S.gC, .inr ⟨a, _, rfl, upd_same, E1.fresh hd, (RepF.zip (RepL.keep (E1.keep s2) r)).reverse⟩⟩ h1
def draise0 (x : Str) : DS := fun K env => K.ex (x, []) env
/-- what is never reached -/
def ddead : DS := fun _ _ => False
theorem gs_dead {W : WX} {st : Stmt} : GS X A W st ddead := ⟨⟨fun _ _ _ _ _ _ ⟨_, _, _, h, _⟩ => h.elim⟩⟩
def fSum (ds : List D) (Q : D → Prop) : Prop := match ds with
  | [.lst xs] => ∃ ns : List Int, xs = ns.map D.int ∧ Q (.int ns.sum)
  | _ => False
end
end Nb
set_option maxRecDepth 100000
set_option maxHeartbeats 2000000
/-! Nb: try whose suite falls through. -/
namespace Nb
open PySem PySem.Spec PyProof.Rows L2
def SD.noexc : SD → Bool
  | .un => true
  | .val d => d.noexc
  | .own ds => D.noexcL ds
theorem ERep.unhold {A : Act} {H : Hp} {σ : St} {env : DEnv} {h : Option (Addr × Addr × Option Addr)} (E : ERep (A.hold h) H σ env) (e : A.R.hx = none) (n : ∀ (j : Nat) (x : SD), env[j]? = some x → x.noexc = true) : ERep A H σ env := by
  have e1 : (A.R.hold h).hold none = A.R := by
    show ({ A.R with hx := none } : RC) = A.R
    rw [← e]
  refine ⟨⟨E.ok.inv, E.ok.st, E.ok.m⟩, E.len, fun i d q => ?_, fun i ds q => ?_, E.one, E.base.unhold⟩
  · obtain ⟨v, h1, h2⟩ := E.val i d q
    have z := h2.hold (h := none) (n i _ q)
    exact ⟨v, h1, e1 ▸ z⟩
  · obtain ⟨a, vs, h1, h2, h3, h4, h5⟩ := E.own i ds q
    have z := h3.hold (h := none) (n i _ q)
    exact ⟨a, vs, h1, h2, e1 ▸ z, h4, h5⟩
end Nb
set_option maxRecDepth 100000
set_option maxHeartbeats 2000000
/-! Nb: blocks that make lists, whose element may raise. -/
namespace Nb
open PySem PySem.Spec PyProof.Rows L2
end Nb
set_option maxRecDepth 100000
set_option maxHeartbeats 2000000
/-! Nb: walks of a list or a tuple, by a name; loops, blocks: what one shows. -/
namespace Nb
open PySem PySem.Spec PyProof.Rows L2
section
variable {X : Cx} {A : Act} {W : WX}
/-- the items of a list or a tuple that stands in slot i -/
def diV (i : Nat) : DI := fun env Q _ => match env[i]? with
  | some (.val (.lst ds)) => Q ds
  | some (.val (.tup ds)) => Q ds
  | _ => False
theorem gi_V {i : Nat} {tg e : Expr} (h : PE X e (tVar i)) (hK : A.R.K = X.K := by rfl) : GI X A W tg e (diV i) := by
  refine ⟨⟨fun pins s σ H R I ⟨env, Qd, Ed, E, h1, q, x⟩ => ?_⟩⟩
  have key : (∃ ds, env[i]? = some (.val (.lst ds)) ∧ Qd ds) ∨ ∃ ds, env[i]? = some (.val (.tup ds)) ∧ Qd ds := by
    unfold diV at h1
    split at h1
    · rename_i ds e; exact .inl ⟨ds, e, h1⟩
    · rename_i ds e; exact .inr ⟨ds, e, h1⟩
    · exact h1.elim
  rcases key with ⟨ds, e1, hq⟩ | ⟨ds, e1, hq⟩
  · exact (gi_list (ge_var h)).p.run pins s σ H R I ⟨env, Qd, Ed, E, by unfold diL dvar; rw [e1]; exact hq, q, x⟩
  · exact (gi_tup hK (ge_var h)).p.run pins s σ H R I ⟨env, Qd, Ed, E, by unfold diT dvar; rw [e1]; exact hq, q, x⟩
end
end Nb
set_option maxRecDepth 100000
set_option maxHeartbeats 2000000
/-! Nb: fractions as data. -/
namespace Nb
open PySem PySem.Spec PyProof.Rows L2
/-- the datum of a fraction -/
def fr (q : Rat) : D := .tup [.int q.num, .int (q.den : Int)]
/-! ### sizes -/
def Sz (n : Nat) (q : Rat) : Prop := q.num.natAbs < 2 ^ n ∧ q.den < 2 ^ n
theorem Sz.mono {n m : Nat} {q : Rat} (h : Sz n q) (k : n ≤ m) : Sz m q := by
  have := Nat.pow_le_pow_right (show 0 < 2 by decide) k
  exact ⟨Nat.lt_of_lt_of_le h.1 this, Nat.lt_of_lt_of_le h.2 this⟩
theorem mul_lt_pow {a b n m : Nat} (h1 : a < 2 ^ n) (h2 : b < 2 ^ m) : a * b < 2 ^ (n + m) := by
  rw [Nat.pow_add]
  exact Nat.mul_lt_mul'' h1 h2
theorem Sz.add {n m : Nat} {p q : Rat} (h : Sz n p) (k : Sz m q) : Sz (n + m + 1) (p + q) := by
  refine ⟨?_, ?_⟩
  · rw [Rat.num_add]
    refine Nat.lt_of_le_of_lt (Int.natAbs_ediv_le_natAbs _ _) ?_
    refine Nat.lt_of_le_of_lt (Int.natAbs_add_le _ _) ?_
    rw [Int.natAbs_mul, Int.natAbs_mul, Int.natAbs_natCast, Int.natAbs_natCast]
    have h1 := mul_lt_pow h.1 k.2
    have h2 := mul_lt_pow k.1 h.2
    rw [Nat.add_comm m n] at h2
    rw [Nat.pow_succ]
    omega
  · rw [Rat.den_add]
    refine Nat.lt_of_le_of_lt (Nat.div_le_self _ _) ?_
    have h1 := mul_lt_pow h.2 k.2
    rw [Nat.pow_succ]
    omega
theorem Sz.divInt {n : Nat} {t b : Int} (h : t.natAbs < 2 ^ (n + 1)) (k : b.natAbs < 2 ^ (n + 1)) : Sz (n + 1) (Rat.divInt t b) := by
  refine ⟨?_, ?_⟩
  · rw [Rat.num_divInt]
    refine Nat.lt_of_le_of_lt (Int.natAbs_ediv_le_natAbs _ _) ?_
    rw [Int.natAbs_mul]
    have : b.sign.natAbs ≤ 1 := by
      rw [Int.natAbs_sign]
      split <;> omega
    calc b.sign.natAbs * t.natAbs ≤ 1 * t.natAbs := Nat.mul_le_mul_right _ this
      _ = t.natAbs := Nat.one_mul _
      _ < _ := h
  · rw [Rat.den_divInt]
    split
    · exact Nat.one_lt_two_pow (Nat.succ_ne_zero n)
    · exact Nat.lt_of_le_of_lt (Nat.div_le_self _ _) k
theorem mulOk {i j : Int} {a b : Nat} (hi : i.natAbs < 2 ^ a) (hj : j.natAbs < 2 ^ b) (h : a + b ≤ 999000) : CMulA i j := by
  have h1 : i.natAbs < 2 ^ (a + 1) := Nat.lt_of_lt_of_le hi (Nat.pow_le_pow_right (by decide) (by omega))
  have h2 : j.natAbs < 2 ^ (b + 1) := Nat.lt_of_lt_of_le hj (Nat.pow_le_pow_right (by decide) (by omega))
  exact .inr (wide_mul h1 h2 (by omega) (by omega) (by omega))
theorem divOk {i j : Int} {b : Nat} (h0 : 0 < j) (hj : j.natAbs < 2 ^ b) (h : b ≤ 8999) : CDivA i j := by
  have h2 : j.natAbs < 2 ^ (b + 1) := Nat.lt_of_lt_of_le hj (Nat.pow_le_pow_right (by decide) (by omega))
  exact .inr (wide_div h0 h2 (by omega) (by omega))
/-! ### the parts of sums, products -/
/-! ### equal, less -/
/-! ### isinstance, by kinds -/
section
variable {b : Bool} {n : Int} {z : Str} {xs : List D} {Q : D → Prop}
theorem isi_non_int : fIsi [.non, .ty "int"] Q = Q (.bl false) := propext ⟨fun ⟨t, c, h1, h2, h3⟩ => by cases h1; have e : kitB "NoneType" "int" = some false := (by decide +kernel); rw [e] at h2; cases h2; exact h3, fun h => ⟨_, false, rfl, by decide +kernel, h⟩⟩
theorem isi_non_bool : fIsi [.non, .ty "bool"] Q = Q (.bl false) := propext ⟨fun ⟨t, c, h1, h2, h3⟩ => by cases h1; have e : kitB "NoneType" "bool" = some false := (by decide +kernel); rw [e] at h2; cases h2; exact h3, fun h => ⟨_, false, rfl, by decide +kernel, h⟩⟩
theorem isi_non_str : fIsi [.non, .ty "str"] Q = Q (.bl false) := propext ⟨fun ⟨t, c, h1, h2, h3⟩ => by cases h1; have e : kitB "NoneType" "str" = some false := (by decide +kernel); rw [e] at h2; cases h2; exact h3, fun h => ⟨_, false, rfl, by decide +kernel, h⟩⟩
theorem isi_non_tuple : fIsi [.non, .ty "tuple"] Q = Q (.bl false) := propext ⟨fun ⟨t, c, h1, h2, h3⟩ => by cases h1; have e : kitB "NoneType" "tuple" = some false := (by decide +kernel); rw [e] at h2; cases h2; exact h3, fun h => ⟨_, false, rfl, by decide +kernel, h⟩⟩
theorem isi_non_list : fIsi [.non, .ty "list"] Q = Q (.bl false) := propext ⟨fun ⟨t, c, h1, h2, h3⟩ => by cases h1; have e : kitB "NoneType" "list" = some false := (by decide +kernel); rw [e] at h2; cases h2; exact h3, fun h => ⟨_, false, rfl, by decide +kernel, h⟩⟩
theorem isi_bl_int : fIsi [(.bl b), .ty "int"] Q = Q (.bl true) := propext ⟨fun ⟨t, c, h1, h2, h3⟩ => by cases h1; have e : kitB "bool" "int" = some true := (by decide +kernel); rw [e] at h2; cases h2; exact h3, fun h => ⟨_, true, rfl, by decide +kernel, h⟩⟩
theorem isi_bl_bool : fIsi [(.bl b), .ty "bool"] Q = Q (.bl true) := propext ⟨fun ⟨t, c, h1, h2, h3⟩ => by cases h1; have e : kitB "bool" "bool" = some true := (by decide +kernel); rw [e] at h2; cases h2; exact h3, fun h => ⟨_, true, rfl, by decide +kernel, h⟩⟩
theorem isi_bl_str : fIsi [(.bl b), .ty "str"] Q = Q (.bl false) := propext ⟨fun ⟨t, c, h1, h2, h3⟩ => by cases h1; have e : kitB "bool" "str" = some false := (by decide +kernel); rw [e] at h2; cases h2; exact h3, fun h => ⟨_, false, rfl, by decide +kernel, h⟩⟩
theorem isi_bl_tuple : fIsi [(.bl b), .ty "tuple"] Q = Q (.bl false) := propext ⟨fun ⟨t, c, h1, h2, h3⟩ => by cases h1; have e : kitB "bool" "tuple" = some false := (by decide +kernel); rw [e] at h2; cases h2; exact h3, fun h => ⟨_, false, rfl, by decide +kernel, h⟩⟩
theorem isi_bl_list : fIsi [(.bl b), .ty "list"] Q = Q (.bl false) := propext ⟨fun ⟨t, c, h1, h2, h3⟩ => by cases h1; have e : kitB "bool" "list" = some false := (by decide +kernel); rw [e] at h2; cases h2; exact h3, fun h => ⟨_, false, rfl, by decide +kernel, h⟩⟩
theorem isi_int_int : fIsi [(.int n), .ty "int"] Q = Q (.bl true) := propext ⟨fun ⟨t, c, h1, h2, h3⟩ => by cases h1; have e : kitB "int" "int" = some true := (by decide +kernel); rw [e] at h2; cases h2; exact h3, fun h => ⟨_, true, rfl, by decide +kernel, h⟩⟩
theorem isi_int_bool : fIsi [(.int n), .ty "bool"] Q = Q (.bl false) := propext ⟨fun ⟨t, c, h1, h2, h3⟩ => by cases h1; have e : kitB "int" "bool" = some false := (by decide +kernel); rw [e] at h2; cases h2; exact h3, fun h => ⟨_, false, rfl, by decide +kernel, h⟩⟩
theorem isi_int_str : fIsi [(.int n), .ty "str"] Q = Q (.bl false) := propext ⟨fun ⟨t, c, h1, h2, h3⟩ => by cases h1; have e : kitB "int" "str" = some false := (by decide +kernel); rw [e] at h2; cases h2; exact h3, fun h => ⟨_, false, rfl, by decide +kernel, h⟩⟩
theorem isi_int_tuple : fIsi [(.int n), .ty "tuple"] Q = Q (.bl false) := propext ⟨fun ⟨t, c, h1, h2, h3⟩ => by cases h1; have e : kitB "int" "tuple" = some false := (by decide +kernel); rw [e] at h2; cases h2; exact h3, fun h => ⟨_, false, rfl, by decide +kernel, h⟩⟩
theorem isi_int_list : fIsi [(.int n), .ty "list"] Q = Q (.bl false) := propext ⟨fun ⟨t, c, h1, h2, h3⟩ => by cases h1; have e : kitB "int" "list" = some false := (by decide +kernel); rw [e] at h2; cases h2; exact h3, fun h => ⟨_, false, rfl, by decide +kernel, h⟩⟩
theorem isi_str_int : fIsi [(.str z), .ty "int"] Q = Q (.bl false) := propext ⟨fun ⟨t, c, h1, h2, h3⟩ => by cases h1; have e : kitB "str" "int" = some false := (by decide +kernel); rw [e] at h2; cases h2; exact h3, fun h => ⟨_, false, rfl, by decide +kernel, h⟩⟩
theorem isi_str_bool : fIsi [(.str z), .ty "bool"] Q = Q (.bl false) := propext ⟨fun ⟨t, c, h1, h2, h3⟩ => by cases h1; have e : kitB "str" "bool" = some false := (by decide +kernel); rw [e] at h2; cases h2; exact h3, fun h => ⟨_, false, rfl, by decide +kernel, h⟩⟩
theorem isi_str_str : fIsi [(.str z), .ty "str"] Q = Q (.bl true) := propext ⟨fun ⟨t, c, h1, h2, h3⟩ => by cases h1; have e : kitB "str" "str" = some true := (by decide +kernel); rw [e] at h2; cases h2; exact h3, fun h => ⟨_, true, rfl, by decide +kernel, h⟩⟩
theorem isi_str_tuple : fIsi [(.str z), .ty "tuple"] Q = Q (.bl false) := propext ⟨fun ⟨t, c, h1, h2, h3⟩ => by cases h1; have e : kitB "str" "tuple" = some false := (by decide +kernel); rw [e] at h2; cases h2; exact h3, fun h => ⟨_, false, rfl, by decide +kernel, h⟩⟩
theorem isi_str_list : fIsi [(.str z), .ty "list"] Q = Q (.bl false) := propext ⟨fun ⟨t, c, h1, h2, h3⟩ => by cases h1; have e : kitB "str" "list" = some false := (by decide +kernel); rw [e] at h2; cases h2; exact h3, fun h => ⟨_, false, rfl, by decide +kernel, h⟩⟩
theorem isi_tup_int : fIsi [(.tup xs), .ty "int"] Q = Q (.bl false) := propext ⟨fun ⟨t, c, h1, h2, h3⟩ => by cases h1; have e : kitB "tuple" "int" = some false := (by decide +kernel); rw [e] at h2; cases h2; exact h3, fun h => ⟨_, false, rfl, by decide +kernel, h⟩⟩
theorem isi_tup_bool : fIsi [(.tup xs), .ty "bool"] Q = Q (.bl false) := propext ⟨fun ⟨t, c, h1, h2, h3⟩ => by cases h1; have e : kitB "tuple" "bool" = some false := (by decide +kernel); rw [e] at h2; cases h2; exact h3, fun h => ⟨_, false, rfl, by decide +kernel, h⟩⟩
theorem isi_tup_str : fIsi [(.tup xs), .ty "str"] Q = Q (.bl false) := propext ⟨fun ⟨t, c, h1, h2, h3⟩ => by cases h1; have e : kitB "tuple" "str" = some false := (by decide +kernel); rw [e] at h2; cases h2; exact h3, fun h => ⟨_, false, rfl, by decide +kernel, h⟩⟩
theorem isi_tup_tuple : fIsi [(.tup xs), .ty "tuple"] Q = Q (.bl true) := propext ⟨fun ⟨t, c, h1, h2, h3⟩ => by cases h1; have e : kitB "tuple" "tuple" = some true := (by decide +kernel); rw [e] at h2; cases h2; exact h3, fun h => ⟨_, true, rfl, by decide +kernel, h⟩⟩
theorem isi_tup_list : fIsi [(.tup xs), .ty "list"] Q = Q (.bl false) := propext ⟨fun ⟨t, c, h1, h2, h3⟩ => by cases h1; have e : kitB "tuple" "list" = some false := (by decide +kernel); rw [e] at h2; cases h2; exact h3, fun h => ⟨_, false, rfl, by decide +kernel, h⟩⟩
theorem isi_lst_int : fIsi [(.lst xs), .ty "int"] Q = Q (.bl false) := propext ⟨fun ⟨t, c, h1, h2, h3⟩ => by cases h1; have e : kitB "list" "int" = some false := (by decide +kernel); rw [e] at h2; cases h2; exact h3, fun h => ⟨_, false, rfl, by decide +kernel, h⟩⟩
theorem isi_lst_bool : fIsi [(.lst xs), .ty "bool"] Q = Q (.bl false) := propext ⟨fun ⟨t, c, h1, h2, h3⟩ => by cases h1; have e : kitB "list" "bool" = some false := (by decide +kernel); rw [e] at h2; cases h2; exact h3, fun h => ⟨_, false, rfl, by decide +kernel, h⟩⟩
theorem isi_lst_str : fIsi [(.lst xs), .ty "str"] Q = Q (.bl false) := propext ⟨fun ⟨t, c, h1, h2, h3⟩ => by cases h1; have e : kitB "list" "str" = some false := (by decide +kernel); rw [e] at h2; cases h2; exact h3, fun h => ⟨_, false, rfl, by decide +kernel, h⟩⟩
theorem isi_lst_tuple : fIsi [(.lst xs), .ty "tuple"] Q = Q (.bl false) := propext ⟨fun ⟨t, c, h1, h2, h3⟩ => by cases h1; have e : kitB "list" "tuple" = some false := (by decide +kernel); rw [e] at h2; cases h2; exact h3, fun h => ⟨_, false, rfl, by decide +kernel, h⟩⟩
theorem isi_lst_list : fIsi [(.lst xs), .ty "list"] Q = Q (.bl true) := propext ⟨fun ⟨t, c, h1, h2, h3⟩ => by cases h1; have e : kitB "list" "list" = some true := (by decide +kernel); rw [e] at h2; cases h2; exact h3, fun h => ⟨_, true, rfl, by decide +kernel, h⟩⟩
end
/-! ### the start -/
theorem start_def (N : List Str) (ds : List D) : startD N ds = ds.map SD.val ++ List.replicate (N.length - ds.length) .un := rfl
theorem pow10_iff {j : Int} : CPow 10 j = (0 ≤ j ∧ j ≤ 1000000) := propext ⟨fun h => ⟨h.1, h.2.1⟩, fun h => ⟨h.1, h.2, by decide⟩⟩
end Nb
set_option maxRecDepth 100000
set_option maxHeartbeats 2000000
/-! NbZ: dicts that nobody looks into. -/
namespace Nb
open PySem PySem.Spec PyProof.Rows L2
section
variable {X : Cx} {A : Act} {W : WX}
def ddct0 : DE := fun _ Q _ => Q .dct
def dint (g : DE) (k : DE) : DE := fun env Q Ed => g env (fun d => match d with
  | .int _ => k env Q Ed
  | _ => False) Ed
end
section
variable {Q : D → Prop}
theorem isi_dct {T : String} (h : kitB "dict" T = some false) : fIsi [.dct, .ty T] Q = Q (.bl false) := propext ⟨fun ⟨t, c, h1, h2, h3⟩ => by cases h1; rw [h] at h2; cases h2; exact h3, fun q => ⟨_, false, rfl, h, q⟩⟩
theorem isi_dct_int : fIsi [.dct, .ty "int"] Q = Q (.bl false) := isi_dct (by decide +kernel)
theorem isi_dct_bool : fIsi [.dct, .ty "bool"] Q = Q (.bl false) := isi_dct (by decide +kernel)
theorem isi_dct_str : fIsi [.dct, .ty "str"] Q = Q (.bl false) := isi_dct (by decide +kernel)
theorem isi_dct_tuple : fIsi [.dct, .ty "tuple"] Q = Q (.bl false) := isi_dct (by decide +kernel)
theorem isi_dct_list : fIsi [.dct, .ty "list"] Q = Q (.bl false) := isi_dct (by decide +kernel)
end
end Nb
set_option maxRecDepth 100000
set_option maxHeartbeats 2000000
/-! NcA: isinstance(e, (A, B, ..)), e the exception at hand. -/
namespace Nb
open PySem PySem.Spec PyProof.Rows L2
end Nb
set_option maxRecDepth 100000
set_option maxHeartbeats 2000000
/-! Nb: calls with keywords. -/
namespace Nb
open PySem PySem.Spec PyProof.Rows L2
section
variable {X : Cx} {A : Act} {W : WX}
/-- a def that is called with n values and all its keywords -/
structure HasK (P : Program) (w : World) (K : PySem.W.Frag) (mg : Str → Option Value) (base : Heap) (x : Str) (k : Nat) (fr : Bool) (n : Nat) (ks : List Str) (S : DSp) : Prop where
  ex : ∃ f fd ps, FnOk P w K mg base (L2N.CX P w) k f fd ps (spD K mg fr S) ∧ mg x = some (.ref f) ∧ PySem.W.keepIn K (.ref f) = true ∧ KBn K fd ps n ks (fun us ws => us ++ ws) (fun vs zs => vs ++ zs)
structure CallOkK (X : Cx) (W : WX) (x : Str) (fr : Bool) (n : Nat) (ks : List Str) (S : DSp) : Prop where
  ex : ∃ k f fd ps, FnOk X.prog X.w X.K X.mg X.base (L2N.CX X.prog X.w) k f fd ps (spD X.K X.mg fr S) ∧ Room k X.A ∧ Gl X x ∧ X.mg x = some (.ref f) ∧ PySem.W.keepIn X.K (.ref f) = true ∧ KBn X.K fd ps n ks (fun us ws => us ++ ws) (fun vs zs => vs ++ zs) ∧ (∀ σ, PassesAt (L2N.CX X.prog X.w) X σ (WE W σ)) ∧ (x == ("__debug__" : Str)) = false
theorem HasK.call {x : Str} {k n : Nat} {ks : List Str} {fr : Bool} {S : DSp} (h : HasK X.prog X.w X.K X.mg X.base x k fr n ks S) (hr : Room k X.A) (tk : Takes X W) (hg : Gl X x := by rfl) (hd : (x == ("__debug__" : Str)) = false := by decide) : CallOkK X W x fr n ks S := by
  obtain ⟨f, fd, ps, F, a, b, c⟩ := h.ex
  exact ⟨k, f, fd, ps, F, hr, hg, a, b, c, fun σ => L2N.passAt tk σ, hd⟩
theorem HasK.mono {P : Program} {w : World} {K : PySem.W.Frag} {mg : Str → Option Value} {base : Heap} {x : Str} {j k n : Nat} {ks : List Str} {fr : Bool} {S : DSp} (h : HasK P w K mg base x j fr n ks S) (hk : j ≤ k) : HasK P w K mg base x k fr n ks S := by
  obtain ⟨f, fd, ps, F, a, b, c⟩ := h.ex
  exact ⟨f, fd, ps, F.mono hk, a, b, c⟩
end
end Nb
set_option maxRecDepth 100000
set_option maxHeartbeats 2000000
/-! Nb: a list that changes later is looked at in a test; zip; insert. -/
namespace Nb
open PySem PySem.Spec PyProof.Rows L2
section
variable {X : Cx} {A : Act} {W : WX}
/-- slot i's list is read in a test, and changes later -/
def dbor (i : Nat) (g : DB) : DB := fun env Q _ => match env[i]? with
  | some (.own ds) => g (env.set i (.val (.lst ds))) Q fun _ => False
  | _ => False
theorem gt_bor {i : Nat} {e : Expr} {g : DB} (h : GT X A W e g) : GT X A W e (dbor i g) := by
  refine ⟨pt_imp h.p fun σ H Q ⟨env, Qd, Ed, E, h, q, x⟩ => ?_⟩
  unfold dbor at h
  cases e1 : env[i]? with
  | none => rw [e1] at h; exact h.elim
  | some z =>
    rw [e1] at h
    cases z with
    | un => exact h.elim
    | val d => exact h.elim
    | own ds => exact ⟨_, Qd, fun _ => False, (E.freeze e1).1, h, q, fun _ _ _ _ _ _ z => z.elim⟩
end
end Nb
set_option maxRecDepth 100000
set_option maxHeartbeats 2000000
/-! Nb: lists that are given up and then changed by another def. -/
namespace Nb
open PySem PySem.Spec PyProof.Rows L2
/-- a list that begins with a number -/
def ShV (xs : List V) : Prop := ∃ i r, xs = V.int i :: r
/-- what stands but for lists of another kind -/
structure KeepS (M M' : Addr → Prop) (H H' : Hp) : Prop where
  k : ∀ a o, H a = some o → ¬ M a → (∀ xs, o = .lst xs → ShV xs) → H' a = some o
  m : ∀ a, M' a → M a ∨ H a = none ∨ ∃ xs, H a = some (.lst xs) ∧ ¬ ShV xs
section
variable {R : RC} {M M' : Addr → Prop} {H H' : Hp}
theorem KeepS.not (k : KeepS M M' H H') {a : Addr} {o : HO} (e : H a = some o) (n : ¬ M a) (l : ∀ xs, o = .lst xs → ShV xs) : ¬ M' a := fun z => by
  rcases k.m a z with z | z | ⟨xs, z, z2⟩
  · exact n z
  · rw [e] at z; cases z
  · rw [e] at z
    cases z
    exact z2 (l xs rfl)
end
/-- the promise of a def that spoils a list of flat things -/
def spSp : Sp := fun vs H Q _ => ∃ (p : Addr) (xs : List V) (ds : List D), vs = [.ref p, .int 1] ∧ H p = some (.lst xs) ∧ RepL ⟨default, fun _ => none, none, none⟩ (fun _ => False) H xs ds ∧ (∀ d ∈ ds, d.flat = true) ∧ ds.length ≤ 100000 ∧ ∀ H', (∀ a o, H a = some o → a ≠ p → H' a = some o) → Q .non H'
end Nb
set_option maxRecDepth 100000
set_option maxHeartbeats 2000000
/-! Nb: the call that spoils a list. -/
namespace Nb
open PySem PySem.Spec PyProof.Rows L2
section
variable {R R' : RC} {M M' : Addr → Prop} {H H' : Hp}
theorem Rep.flat {v : V} {d : D} (r : Rep R M H v d) (h : d.flat = true) : Rep R' M' H' v d := by
  cases r <;> first | (cases h; done) | skip
  · exact .non
  · exact .bl _
  · exact .int _
  · exact .str _
theorem RepL.flat : ∀ {v : List V} {d : List D}, RepL R M H v d → (∀ e ∈ d, e.flat = true) → RepL R' M' H' v d
  | _, _, .nil, _ => .nil
  | _, _, .cons a b, h => .cons (a.flat (h _ List.mem_cons_self)) (RepL.flat b fun e he => h e (List.mem_cons_of_mem _ he))
end
/-- the def that spoils -/
structure HasSp (P : Program) (w : World) (K : PySem.W.Frag) (mg : Str → Option Value) (base : Heap) (x : Str) (k : Nat) : Prop where
  ex : ∃ f fd, FnOk P w K mg base (L2N.CX P w) k f fd ["thing", "depth"] spSp ∧ mg x = some (.ref f) ∧ PySem.W.keepIn K (.ref f) = true ∧ Binds K fd ["thing", "depth"] []
end Nb
set_option maxRecDepth 100000
set_option maxHeartbeats 2000000
/-! Nb: rules for the def that spoils. -/
namespace Nb
open PySem PySem.Spec PyProof.Rows L2
section
variable {X : Cx} {A : Act} {W : WX}
def dneverB : DB := fun _ _ _ => False
theorem gt_dead {e : Expr} : GT X A W e dneverB := ⟨⟨fun _ _ _ _ _ _ ⟨_, _, _, _, h, _⟩ => h.elim⟩⟩
/-- xs.reverse() -/
def drev (i : Nat) : DS := fun K env => match env[i]? with
  | some (.own ds) => K.nx (env.set i (.own ds.reverse))
  | _ => False
theorem gs_rev {i : Nat} {o : Expr} {pos cpos apos : Pos} (ho : PE X o (tVar i))
    (hS : PE X o (tVar i) → PS X (.Expr (.Call (.Attribute o "reverse" apos) [] [] cpos) pos) (tDrop (tBM0 X.K "list" rReverse (tVar i))) := by
      exact fun ho => ps_expr (pe_bm0 PySem.F.plainAttrs_list PySem.F.slot_list_reverse PySem.F.type_list_reverse mt_reverse ho)) :
    GS X A W (.Expr (.Call (.Attribute o "reverse" apos) [] [] cpos) pos) (drev i) := by
  refine ⟨ps_imp (hS ho) fun De σ H ⟨env, K, E, h, q1, q2, q3, q4, q5⟩ => ?_⟩
  obtain ⟨ds, e1, h⟩ := own_of h
  obtain ⟨a, vs, h1, h2, h3, h4, h5⟩ := E.own i ds e1
  refine ⟨.ref a, h1, .inl ⟨rfl, _, SqL.of h2⟩, a, vs, rfl, rfl, h2, ?_⟩
  obtain ⟨E2, k2⟩ := E.mut (us := vs) e1 h1 h3.reverse
  exact q1 _ _ _ k2 E2 h
/-- isinstance(e, (list, tuple)) -/
def disi2 (g : DE) : DE := fun env Q Ed => g env (fun x => ∃ t b c, x.tyn = some t ∧ kitB t "list" = some b ∧ kitB t "tuple" = some c ∧ Q (.bl (b || c))) Ed
theorem ge_isi2 {e : Expr} {g : DE} {p ps1 pt1 tpos pos : Pos} {k : Nat} (hK : A.R.K = X.K) (hmS : X.mg "list" = none) (hmT : X.mg "tuple" = none) (hm : X.mg "isinstance" = none) (he : GE X A W e g) (hgS : Gl X "list" := by rfl) (hgT : Gl X "tuple" := by rfl) (hg : Gl X "isinstance" := by rfl)
    (hS : ∀ te, Gl X "isinstance" → X.mg "isinstance" = none → PE X e te → PE X (.Name "list" ps1) (tC (.ty "list")) → PE X (.Name "tuple" pt1) (tC (.ty "tuple")) → PE X (.Call (.Name "isinstance" p) [e, .Tuple [.Name "list" ps1, .Name "tuple" pt1] k tpos] [] pos) (tCB (rIsiT X.K) (tCons te (tCons (tTup (tCons (tC (.ty "list")) (tCons (tC (.ty "tuple")) tNil))) tNil))) := by
      exact fun te hg hm he h1 h2 => pe_callB call_isiT hg hm PyProof.Rows.boot_isinstance (pa_cons he (pa_cons (pe_tup (pa_cons h1 (pa_cons h2 pa_nil))) pa_nil))) :
    GE X A W (.Call (.Name "isinstance" p) [e, .Tuple [.Name "list" ps1, .Name "tuple" pt1] k tpos] [] pos) (disi2 g) := by
  refine ⟨pe_imp (hS _ hg hm he.p (pe_bltn hgS hmS PyProof.Rows.boot_list rfl) (pe_bltn hgT hmT PyProof.Rows.boot_tuple rfl)) fun σ H Q ⟨env, Qd, Ed, E, h, q, x⟩ => ?_⟩
  refine ⟨env, _, Ed, E, h, fun v d H1 s r hd => ?_, x⟩
  obtain ⟨t, b, c, h1, h2, h3, h4⟩ := hd
  refine ⟨by rw [line_is]; show 2 ≤ 16777216; decide, fun T hT => ?_⟩
  have s2 : Stp A.R H1 (upd H1 T (.tup [.ty "list", .ty "tuple"])) := Stp.new hT
  have E1 := E.stp s
  have r2 := r.keep (E1.keep s2)
  refine ⟨v, T, [.ty "list", .ty "tuple"], .type t, [.type "list", .type "tuple"], b || c, rfl, upd_same, .cons (.ty "list") (.cons (.ty "tuple") .nil), by rw [← hK]; exact tyx_of r2 h1, ?_, q _ _ _ (s.trans s2) (.bl _) h4⟩
  refine kitAny_cons (kit_ty h2) (fun e => ?_) fun e => by rw [e]; rfl
  rw [e, Bool.false_or]
  exact kitAny_cons (kit_ty h3) (fun e => by rw [e]; exact kitAny_nil) fun e => e
end
/-- the def that spoils, from the reading of its body: the list stands in slot 0 -/
theorem fn_okSp {P : Program} {w : World} {K : PySem.W.Frag} {mg : Str → Option Value} {base : Heap} {x qual : Str} {st : Stmt} {f : Addr} {fd : FuncData} {N : List Str} {k : Nat} (F : Fun K x qual st f fd) (sc : FnScope N ["thing", "depth"] (defScope st))
    (hb : ∀ (cdv : Value) (Ar : Around) (outer : List Env) (s : Shared) (H : Hp) (E : XK) (A : Act) (ds : List D), Room k (Ar.deeper (envOfC qual (defScope st) s.heap.objs.size f cdv)) → A.R.K = K → A.R.mg = mg → A.R.hx = none → A.fr = false → (∀ d ∈ ds, d.flat = true) → ds.length ≤ 100000 →
      ∃ g, GSs (cxOf (L2N.CX P w) P w K mg base N qual (defScope st) f cdv Ar outer s H E) A (fun cls d _ H => E cls d H) (defBody st) g ∧ g (endD false (fun d => d = .non) fun _ => False) (.own ds :: .val (.int 1) :: List.replicate (N.length - 2) .un)) :
    FnOk P w K mg base (L2N.CX P w) (k + 1) f fd ["thing", "depth"] spSp := by
  refine F.okN sc (fun vs H Q E ⟨p, xs, ds, e, _⟩ => by rw [e]; rfl) fun cdv Ar outer s H vs Q E hr ⟨p, xs, ds, e, hp, r, hf, hl, q⟩ => ?_
  subst e
  obtain ⟨g, G, hg⟩ := hb cdv Ar outer s H E ⟨⟨K, mg, none, none⟩, fun a => if a = p then none else H a, fun _ => False, false⟩ ds hr rfl rfl rfl rfl hf hl
  refine ⟨_, G.p, ?_⟩
  have ok : Act.Ok ⟨⟨K, mg, none, none⟩, fun a => if a = p then none else H a, fun _ => False, false⟩ := ⟨fun a z => (by cases z), fun a z => (by cases z), fun a z => z.elim⟩
  have hst : L2.start N [V.ref p, V.int 1] = some (.ref p) :: some (.int 1) :: List.replicate (N.length - 2) none := by
    unfold L2.start
    rfl
  have E0 : ERep ⟨⟨K, mg, none, none⟩, fun a => if a = p then none else H a, fun _ => False, false⟩ H (L2.start N [V.ref p, V.int 1]) (.own ds :: .val (.int 1) :: List.replicate (N.length - 2) .un) := by
    rw [hst]
    refine ⟨ok, by simp, fun j d z => ?_, fun j es z => ?_, fun i j ds es a z1 z2 z3 z4 => ?_, ⟨fun a o e _ => ?_, fun _ a z => (by cases z)⟩⟩
    · cases j with
      | zero => cases z
      | succ j =>
        cases j with
        | zero =>
          cases z
          exact ⟨_, rfl, .int 1⟩
        | succ j =>
          have z : (List.replicate (N.length - 2) SD.un)[j]? = some (.val d) := z
          rw [List.getElem?_replicate] at z
          split at z <;> cases z
    · cases j with
      | zero =>
        cases z
        exact ⟨p, xs, rfl, hp, r.flat hf, fun z => z, if_pos rfl⟩
      | succ j =>
        cases j with
        | zero => cases z
        | succ j =>
          have z : (List.replicate (N.length - 2) SD.un)[j]? = some (.own es) := z
          rw [List.getElem?_replicate] at z
          split at z <;> cases z
    · have only : ∀ {i : Nat} {es : List D}, ((.own ds :: .val (.int 1) :: List.replicate (N.length - 2) .un : DEnv))[i]? = some (.own es) → i = 0 := fun {i es} z => by
        cases i with
        | zero => rfl
        | succ j =>
          cases j with
          | zero => cases z
          | succ j =>
            have z : (List.replicate (N.length - 2) SD.un)[j]? = some (.own es) := z
            rw [List.getElem?_replicate] at z
            split at z <;> cases z
      have a1 : i = 0 := by
        cases i with
        | zero => rfl
        | succ j =>
          cases j with
          | zero => cases z1
          | succ j =>
            have z : (List.replicate (N.length - 2) SD.un)[j]? = some (.own ds) := z1
            rw [List.getElem?_replicate] at z
            split at z <;> cases z
      have a2 : j = 0 := by
        cases j with
        | zero => rfl
        | succ j =>
          cases j with
          | zero => cases z2
          | succ j =>
            have z : (List.replicate (N.length - 2) SD.un)[j]? = some (.own es) := z2
            rw [List.getElem?_replicate] at z
            split at z <;> cases z
      rw [a1, a2]
    · by_cases c : a = p
      · have e : (if a = p then none else H a) = some o := e
        rw [if_pos c] at e
        cases e
      · have e : (if a = p then none else H a) = some o := e
        rw [if_neg c] at e
        exact e
  have fin : ∀ {σ' : St} {H' : Hp} {env' : DEnv}, ERep ⟨⟨K, mg, none, none⟩, fun a => if a = p then none else H a, fun _ => False, false⟩ H' σ' env' → Q .non H' := fun {σ' H' env'} E' => q H' fun a o e ne => E'.base.k a o (by show (if a = p then none else H a) = some o; rw [if_neg ne]; exact e) fun z => by cases z
  refine ⟨_, endD false (fun d => d = .non) (fun _ => False), E0, hg, fun σ' H' env' _ E' hq => fin E', fun _ _ _ _ _ hq => hq.elim, fun _ _ _ _ _ hq => hq.elim, fun v d σ' H' env' E' rr hq => ?_, fun e cls dd σ' H' env' _ E' rx hq => hq.elim⟩
  have hq : d = .non := hq
  subst hq
  have rr : RetRep ⟨⟨K, mg, none, none⟩, fun a => if a = p then none else H a, fun _ => False, false⟩ H' v .non := rr
  unfold RetRep at rr
  rw [if_neg Bool.false_ne_true] at rr
  cases rr
  exact fin E'
end Nb
set_option maxRecDepth 100000
set_option maxHeartbeats 2000000
/-! Nb: calls that leave a default out; strip; texts compared. -/
namespace Nb
open PySem PySem.Spec PyProof.Rows L2
/-- a def called without its keywords: dd stand for them -/
structure HasD (P : Program) (w : World) (K : PySem.W.Frag) (mg : Str → Option Value) (base : Heap) (x : Str) (k : Nat) (fr : Bool) (dd : List D) (S : DSp) : Prop where
  ex : ∃ f fd ps us dvs, FnOk P w K mg base (L2N.CX P w) k f fd ps (spD K mg fr S) ∧ mg x = some (.ref f) ∧ PySem.W.keepIn K (.ref f) = true ∧ Binds K fd ps us ∧ Vals dvs us ∧ ∀ R M H, RepL R M H dvs dd
section
variable {X : Cx} {A : Act} {W : WX}
structure CallOkD (X : Cx) (W : WX) (x : Str) (fr : Bool) (dd : List D) (S : DSp) : Prop where
  ex : ∃ k f fd ps us dvs, FnOk X.prog X.w X.K X.mg X.base (L2N.CX X.prog X.w) k f fd ps (spD X.K X.mg fr S) ∧ Room k X.A ∧ Gl X x ∧ X.mg x = some (.ref f) ∧ PySem.W.keepIn X.K (.ref f) = true ∧ Binds X.K fd ps us ∧ Vals dvs us ∧ (∀ R M H, RepL R M H dvs dd) ∧ (∀ σ, PassesAt (L2N.CX X.prog X.w) X σ (WE W σ)) ∧ (x == ("__debug__" : Str)) = false
theorem HasD.call {x : Str} {k : Nat} {dd : List D} {fr : Bool} {S : DSp} (h : HasD X.prog X.w X.K X.mg X.base x k fr dd S) (hr : Room k X.A) (tk : Takes X W) (hg : Gl X x := by rfl) (hd : (x == ("__debug__" : Str)) = false := by decide) : CallOkD X W x fr dd S := by
  obtain ⟨f, fd, ps, us, dvs, F, a, b, c, d, e⟩ := h.ex
  exact ⟨k, f, fd, ps, us, dvs, F, hr, hg, a, b, c, d, e, fun σ => L2N.passAt tk σ, hd⟩
/-- text.strip(signs) -/
def fStrip (x y : D) (Q : D → Prop) : Prop := match x, y with
  | .str a, .str b => a.length ≤ LINE ∧ Q (.str (Txt.stripChars a b))
  | _, _ => False
theorem ge_strip {o e : Expr} {apos pos : Pos} {g u : DE} (ho : GE X A W o g) (he : GE X A W e u)
    (hP : ∀ to te, PE X o to → PE X e te → PE X (.Call (.Attribute o "strip" apos) [e] [] pos) (tM1 (fun x xs H Q => ∃ a b, x = .str a ∧ xs = [.str b] ∧ a.length ≤ sizeLine ∧ Q (.str (Txt.stripChars a b)) H) to te) := by exact fun _ _ a b => pe_m1 PySem.F.slot_str_strip PySem.F.type_str_strip mt_stripChars a b) : GE X A W (.Call (.Attribute o "strip" apos) [e] [] pos) (dm1 fStrip g u) := by
  refine ge_m1 hP ?_ ho he
  intro M H x y d e Q Qd hst hf rx ry h k
  match d, e, rx, ry, h with
  | .str a, .str b, .str _, .str _, h => exact ⟨a, b, rfl, rfl, by rw [line_is]; exact h.1, k _ _ H (Stp.refl _ _) (.str _) h.2⟩
end
end Nb
set_option maxRecDepth 100000
set_option maxHeartbeats 2000000
/-! Nb: comprehensions with two walks. -/
namespace Nb
open PySem PySem.Spec PyProof.Rows L2
end Nb
set_option maxRecDepth 100000
set_option maxHeartbeats 4000000
/-! NcI: xs.extend(ys) of an own list. -/
namespace Nb
open PySem PySem.Spec PyProof.Rows L2 TL
end Nb
set_option maxRecDepth 100000
set_option maxHeartbeats 4000000
/-! NcJ: a list is given up where other lists stand, unlike it. -/
namespace Nb
open PySem PySem.Spec PyProof.Rows L2
section
variable {R R2 : RC} {M M' M2 : Addr → Prop} {H H' H2 : Hp} {p : Addr} {xs : List V} {ds : List D}
theorem Rep.one {v : V} {d e : D} (r : Rep R M H v d) (f : Rep R2 M2 H2 v e) (h : e.flat = true) : d = e := by
  cases f <;> first | (cases h; done) | skip
  all_goals
    cases r
    rfl
theorem RepL.one : ∀ {v : List V} {d e : List D}, RepL R M H v d → RepL R2 M2 H2 v e → (∀ x ∈ e, x.flat = true) → d = e
  | _, _, _, .nil, .nil, _ => rfl
  | _, _, _, .cons a b, .cons c d, h => by rw [a.one c (h _ List.mem_cons_self), RepL.one b d fun x hx => h x (List.mem_cons_of_mem _ hx)]
end
end Nb
set_option maxRecDepth 100000
set_option maxHeartbeats 4000000
/-! NcK: a slice of an own list of flat things, a new list; the own list stays. -/
namespace Nb
open PySem PySem.Spec PyProof.Rows L2
end Nb
set_option maxRecDepth 100000
set_option maxHeartbeats 2000000
/-! Nb: comprehensions over range in a def that a suite calls. -/
namespace Nb
open PySem PySem.Spec PyProof.Rows L2
end Nb
set_option maxRecDepth 100000
set_option maxHeartbeats 2000000
/-! Nb: walks over enumerate(list). -/
namespace Nb
open PySem PySem.Spec PyProof.Rows L2
end Nb
set_option maxRecDepth 100000
set_option maxHeartbeats 2000000
/-! Nb: walks over lists, sum, where an exception is at hand. -/
namespace Nb
open PySem PySem.Spec PyProof.Rows L2
end Nb
set_option maxRecDepth 100000
set_option maxHeartbeats 2000000
/-! Nb: what a call of flat arguments hands back is new: it may be spoilt. -/
namespace Nb
open PySem PySem.Spec PyProof.Rows L2
section
variable {X : Cx} {A : Act} {W : WX}
/-- between the call and the spoiling: slot i holds what the call made behind H0 -/
def toN (A : Act) (W : WX) (i : Nat) (s : KEnd → DEnv → D → Prop) : TS := fun De σ H => ∃ (env : DEnv) (K : KEnd) (H0 : Hp) (v : V) (d : D), ERep A H0 σ env ∧ Stp A.R H0 H ∧ env[i]? = some .un ∧ σ[i]? = some (some v) ∧ Rep A.R (fun a => H0 a ≠ none) H v d ∧ s K env d ∧
  (∀ σ' H' env', Keep (MM A σ env) (MM A σ' env') H0 H' → ERep A H' σ' env' → K.nx env' → De.nx σ' H') ∧
  (∀ σ' H' env', Keep (MM A σ env) (MM A σ' env') H0 H' → ERep A H' σ' env' → K.bk env' → De.bk σ' H') ∧
  (∀ σ' H' env', Keep (MM A σ env) (MM A σ' env') H0 H' → ERep A H' σ' env' → K.ct env' → De.ct σ' H') ∧
  (∀ v d σ' H' env', ERep A H' σ' env' → RetRep A H' v d → K.rt d env' → De.rt v H') ∧
  (∀ x cls dd σ' H' env', Keep (MM A σ env) (MM A σ' env') H0 H' → ERep A H' σ' env' → XRep A.R (MM A σ' env') H' cls dd x → K.ex x env' → W cls dd σ' H')
structure GNs (X : Cx) (A : Act) (W : WX) (i : Nat) (st : List Stmt) (s : KEnd → DEnv → D → Prop) : Prop where
  p : PSs X st (toN A W i s)
theorem set_same {σ : L2.St} {i : Nat} {u : Option V} (h : σ[i]? = some u) : σ.set i u = σ := by
  refine List.ext_getElem? fun j => ?_
  rw [get_set]
  by_cases c : i = j ∧ j < σ.length
  · rw [if_pos c, ← c.1, h]
  · rw [if_neg c]
theorem mm_un {σ : L2.St} {env : DEnv} {i : Nat} {u : Option V} (hl : env.length = σ.length) : ∀ a, MM A (σ.set i u) (env.set i .un) a → MM A σ env a := fun a z => by
  rcases z with z | ⟨j, es, z1, z2⟩
  · exact .inl z
  · rw [get_set] at z1 z2
    by_cases c : i = j ∧ j < env.length
    · rw [if_pos c] at z1
      cases z1
    · rw [if_neg c] at z1
      rw [if_neg (by rw [← hl]; exact c)] at z2
      exact .inr ⟨j, es, z1, z2⟩
/-- a slot is forgotten -/
theorem ERep.setUn {H : Hp} {σ : L2.St} {env : DEnv} {i : Nat} {u : Option V} (E : ERep A H σ env) : ERep A H (σ.set i u) (env.set i .un) := by
  have back : ∀ {j : Nat} {s : SD}, (env.set i .un)[j]? = some s → s ≠ .un → env[j]? = some s ∧ (σ.set i u)[j]? = σ[j]? := fun {j s} z hs => by
    rw [get_set] at z ⊢
    by_cases c : i = j ∧ j < env.length
    · rw [if_pos c] at z
      cases z
      exact absurd rfl hs
    · rw [if_neg c] at z
      rw [if_neg (by rw [← E.len]; exact c)]
      exact ⟨z, rfl⟩
  have sub := mm_un (A := A) (σ := σ) (env := env) (i := i) (u := u) E.len
  refine ⟨E.ok, by rw [List.length_set, List.length_set]; exact E.len, fun j e z => ?_, fun j es z => ?_, fun j k es fs a z1 z2 z3 z4 => ?_, E.base⟩
  · obtain ⟨b1, b2⟩ := back z fun z => by cases z
    obtain ⟨v, u1, u2⟩ := E.val j e b1
    exact ⟨v, by rw [b2]; exact u1, u2.keep (keep_sub sub)⟩
  · obtain ⟨b1, b2⟩ := back z fun z => by cases z
    obtain ⟨a, vs, u1, u2, u3, u4, u5⟩ := E.own j es b1
    exact ⟨a, vs, by rw [b2]; exact u1, u2, u3.keep (keep_sub sub), u4, u5⟩
  · obtain ⟨b1, b2⟩ := back z1 fun z => by cases z
    obtain ⟨b3, b4⟩ := back z2 fun z => by cases z
    exact E.one j k es fs a b1 b3 (by rw [← b2]; exact z3) (by rw [← b4]; exact z4)
/-- name = f(..), flat arguments: what comes is new -/
def dnew (i : Nat) (S : DSp) (gs : DL) (s : KEnd → DEnv → D → Prop) : DS := fun K env => gs env (fun ds => i < env.length ∧ (∀ d ∈ ds, d.flat = true) ∧ S ds (fun d => s K (env.set i .un) d) fun _ => False) fun x => K.ex x env
theorem gss_new {i : Nat} {y x : Str} {S : DSp} {e : Expr} {es : List Expr} {gs : DL} {rest : List Stmt} {s : KEnd → DEnv → D → Prop} {p pos py spos : Pos} (c : CallOk X W x false S) (ha : GL X A W (e :: es) gs) (h0 : A.R.hx = none) (h2 : GNs X A W i rest s) (hN : X.N.Nodup) (hi : X.N[i]? = some y) (hx : Loc X.env.scope y) (hK : A.R.K = X.K := by rfl) (hm : A.R.mg = X.mg := by rfl)
    (he : starEach (e :: es) X.env = (false, eval e X.env) :: starEach es X.env := by rfl) (hpl : (backTo pos (starEach es X.env)).any (·.1) = false := by rfl)
    (hs : swapsWith (.Call (.Name x p) (e :: es) [] pos) (some (.Name y py)) spos.line X.env = pure false := by rfl) (hf : X.fn y = true ∨ X.env.scope.names.lookup y = some .local := by first | exact .inl rfl | exact .inr rfl | assumption) :
    GSs X A W (.Assign [.Name y py] (.Call (.Name x p) (e :: es) [] pos) spos :: rest) (dnew i S gs s) := by
  obtain ⟨k, f, fd, ps, F, hr, hg, hmx, hk, hb, hxx, hd⟩ := c.ex
  refine ⟨pss_imp (pss_cons (ps_set hN hi hx (pe_callS F hr hg hmx hk hb hxx ha.p hd he hpl) hs hf) h2.p) fun De σ H ⟨env, K, E, h, q1, q2, q3, q4, q5⟩ => ?_⟩
  refine toL_step E h (xout_of E q5) fun vs ds H1 s1 E1 x1 r ⟨hlt, fl, hS⟩ => ?_
  have kk : ∀ {v : V}, Keep (MM A σ env) (MM A (σ.set i (some v)) (env.set i .un)) H H1 := fun {v} => (E.keep s1).trans (keep_sub (mm_un E.len))
  have sto : ∀ a, A.R.st = some a → H1 a ≠ none := fun a z => by
    obtain ⟨ns, q, _⟩ := E1.inv a z
    rw [q]
    exact fun z => by cases z
  refine ⟨A.R, fun a => H1 a ≠ none, ds, _, _, ⟨hK, hm, h0⟩, E1.inv, sto, fun _ z => z, r.flat fl, hS, fun v d H2 s2 o hq => ?_, fun _ _ _ _ _ _ z => z.elim⟩
  unfold OutRep at o
  rw [if_neg Bool.false_ne_true] at o
  rw [E.len] at hlt
  · refine ⟨env.set i .un, K, H1, v, d, E1.setUn, s2, ?_, ?_, o, hq, fun σ' H' env' k => q1 σ' H' env' (kk.trans k), fun σ' H' env' k => q2 σ' H' env' (kk.trans k), fun σ' H' env' k => q3 σ' H' env' (kk.trans k), q4, fun x cls dd σ' H' env' k => q5 x cls dd σ' H' env' (kk.trans k)⟩
    · rw [List.getElem?_set_self (by rw [E.len]; exact hlt)]
    · rw [List.getElem?_set_self hlt]
/-- if test: what returns; the test raises nothing -/
def dnif (i : Nat) (gc : DB) (b : DS) (s : KEnd → DEnv → D → Prop) : KEnd → DEnv → D → Prop := fun K env d => gc (env.set i (.val d)) (fun t => if t = true then b { nx := fun _ => False, bk := fun _ => False, ct := fun _ => False, rt := K.rt, ex := fun _ _ => False } (env.set i (.val d)) else s K env d) fun _ => False
theorem gns_if {i : Nat} {c : Expr} {body rest : List Stmt} {gc : DB} {b : DS} {s : KEnd → DEnv → D → Prop} {pos : Pos} (hc : GT X A W c gc) (hb : GSs X A W body b) (hr : GNs X A W i rest s) : GNs X A W i (.If c body [] pos :: rest) (dnif i gc b s) := by
  refine ⟨pss_imp (pss_cons (ps_if hc.p hb.p pss_nil) hr.p) fun De σ H ⟨env, K, H0, v, d, E, st, hu, hσ, r, h, q1, q2, q3, q4, q5⟩ => ?_⟩
  have Ec := E.stp st
  have r' : Rep A.R (MM A σ env) H v d := r.keep (keep_sub fun a z => E.mtrk z)
  have Ev : ERep A H σ (env.set i (.val d)) := by
    have z := Ec.set (i := i) r'
    rwa [set_same hσ] at z
  refine ⟨env.set i (.val d), _, _, Ev, h, fun t H1 s1 ht => ?_, fun _ _ _ _ _ _ z => z.elim⟩
  have E1 := Ev.stp s1
  cases t with
  | true =>
    exact ⟨env.set i (.val d), _, E1, ht, fun _ _ _ _ _ z => z.elim, fun _ _ _ _ _ z => z.elim, fun _ _ _ _ _ z => z.elim, q4, fun _ _ _ _ _ _ _ _ _ z => z.elim⟩
  | false =>
    exact ⟨env, K, H0, v, d, E, st.trans s1, hu, hσ, r.keep (Stp.keep s1 fun a z => E.mtrk (E.mst a z)), ht, q1, q2, q3, q4, q5⟩
/-- the new list in the tuple is spoilt -/
def dnspoil (i : Nat) (g : DE) (s : DS) : KEnd → DEnv → D → Prop := fun K env d => g ((List.replicate env.length SD.un).set i (.val d)) (fun l => ∃ ds, l = .lst ds ∧ (∀ e ∈ ds, e.flat = true) ∧ ds.length ≤ 100000 ∧ s K env) fun _ => False
theorem gns_spoil {i : Nat} {x : Str} {k : Nat} {e : Expr} {rest : List Stmt} {g : DE} {s : DS} {p ep pos p1 : Pos} {j : Nat} (h : HasSp X.prog X.w X.K X.mg X.base x k) (hr : Room k X.A) (tk : Takes X W) (he : ∀ B : Act, B.R = A.R → GE X B W0 e g) (h2 : GSs X A W rest s) (hg : Gl X x := by rfl) (hd : (x == ("__debug__" : Str)) = false := by decide)
    (hse : starEach (e :: [Expr.Constant (.int 1) j p1]) X.env = (false, eval e X.env) :: starEach [Expr.Constant (.int 1) j p1] X.env := by rfl) (hpl : (backTo pos (starEach [Expr.Constant (.int 1) j p1] X.env)).any (·.1) = false := by rfl)
    (hsw : swapsWith (.Call (.Name x p) [e, .Constant (.int 1) j p1] [] pos) none ep.line X.env = pure false := by rfl)
    (hs1 : starEach [Expr.Constant (.int 1) j p1] X.env = (false, eval (Expr.Constant (.int 1) j p1) X.env) :: starEach [] X.env := by rfl) :
    GNs X A W i (.Expr (.Call (.Name x p) [e, .Constant (.int 1) j p1] [] pos) ep :: rest) (dnspoil i g s) := by
  obtain ⟨f, fd, F, a, b, c⟩ := h.ex
  have pe : PE X e (fun σ H Q => ∃ B : Act, B.R = A.R ∧ toE B W0 g σ H Q) := ⟨fun pins s' σ H' Q I ⟨B, e, w⟩ => (he B e).p.run pins s' σ H' Q I w⟩
  refine ⟨pss_imp (pss_cons (ps_expr (pe_callS F hr hg a b c (fun σ => L2N.passAt tk σ) (pa_cons pe (pa_cons pe_int pa_nil hs1) hse) hd hse hpl) hsw) h2.p) fun De σ H ⟨env, K, H0, v, d, E, st, hu, hσ, r, hh, q1, q2, q3, q4, q5⟩ => ?_⟩
  have sto : ∀ a, A.R.st = some a → H0 a ≠ none := fun a z => E.mtrk (E.mst a z)
  have hlt : i < env.length := (List.getElem?_eq_some_iff.mp hu).1
  have get : ∀ {j : Nat} {u : SD}, ((List.replicate env.length SD.un).set i (.val d))[j]? = some u → u = .un ∨ (j = i ∧ u = .val d) := fun {j u} z => by
    rw [get_set] at z
    by_cases c : i = j ∧ j < (List.replicate env.length SD.un).length
    · rw [if_pos c] at z
      cases z
      exact .inr ⟨c.1.symm, rfl⟩
    · rw [if_neg c, List.getElem?_replicate] at z
      split at z
      · cases z
        exact .inl rfl
      · cases z
  have EB : ERep ⟨A.R, H0, fun a => H0 a ≠ none, false⟩ H σ ((List.replicate env.length SD.un).set i (.val d)) := by
    refine ⟨⟨E.inv, sto, fun _ z => z⟩, by rw [List.length_set, List.length_replicate]; exact E.len, fun j e z => ?_, fun j es z => ?_, fun j k es fs a z => ?_, st⟩
    · rcases get z with y | ⟨hj, y⟩
      · cases y
      · injection y with y
        subst hj y
        refine ⟨v, hσ, r.keep (keep_sub fun a z => ?_)⟩
        rcases z with z | ⟨j', es, z, _⟩
        · exact z
        · rcases get z with z | ⟨_, z⟩ <;> cases z
    · rcases get z with z | ⟨_, z⟩ <;> cases z
    · rcases get z with z | ⟨_, z⟩ <;> cases z
  refine ⟨⟨A.R, H0, fun a => H0 a ≠ none, false⟩, rfl, _, _, _, EB, hh, fun u l H1 s1 r1 hl => ?_, fun _ _ _ _ _ _ z => z.elim⟩
  obtain ⟨ds, rfl, hf, hlen, hs⟩ := hl
  cases r1 with
  | @lst q xs _ eq n rl =>
    have q0 : H0 q = none := by
      cases z : H0 q with
      | none => rfl
      | some o => exact absurd (.inl (by show H0 q ≠ none; rw [z]; exact fun z => by cases z)) n
    refine ⟨q, xs, ds, rfl, eq, rl.flat hf, hf, hlen, fun H3 h3 => ?_⟩
    have S1 := st.trans s1
    have S3 : Stp A.R H0 H3 := by
      refine ⟨fun a o e na => h3 a o (S1.k a o e na) fun z => ?_, fun _ a z => ?_⟩
      · rw [z, q0] at e
        cases e
      · obtain ⟨ns, e, hi⟩ := S1.s E.inv a z
        exact ⟨ns, h3 a _ e fun y => sto a z (by rw [y]; exact q0), hi⟩
    have E3 := E.stp S3
    have kk := E.keep S3
    exact ⟨env, K, E3, hs, fun σ' H' env' k => q1 σ' H' env' (kk.trans k), fun σ' H' env' k => q2 σ' H' env' (kk.trans k), fun σ' H' env' k => q3 σ' H' env' (kk.trans k), q4, fun x cls dd σ' H' env' k => q5 x cls dd σ' H' env' (kk.trans k)⟩
end
end Nb
set_option maxRecDepth 100000
/-! NcP: zip of two texts. -/
namespace Nb
open PySem PySem.Spec PyProof.Rows L2
end Nb
set_option maxRecDepth 100000
/-! NcQ: a text times a number. -/
namespace Nb
open PySem PySem.Spec PyProof.Rows L2
/-- the text, k times -/
def repS (a : Str) (k : Nat) : Str := ⟨(List.replicate k a.cps).foldl (· ++ ·) #[]⟩
theorem rep_size (xs : Array Nat) : ∀ (k : Nat) (acc : Array Nat), ((List.replicate k xs).foldl (· ++ ·) acc).toList = acc.toList ++ (List.replicate k xs.toList).flatten
  | 0, acc => by simp
  | k + 1, acc => by
    rw [List.replicate_succ, List.foldl_cons, rep_size xs k, List.replicate_succ, List.flatten_cons, Array.toList_append, List.append_assoc]
theorem repS_list (a : Str) (k : Nat) : (repS a k).cps.toList = (List.replicate k a.cps.toList).flatten := by
  show ((List.replicate k a.cps).foldl (· ++ ·) #[]).toList = _
  rw [rep_size]
  rfl
theorem sum_rep (n : Nat) : ∀ k : Nat, (List.replicate k n).sum = n * k
  | 0 => rfl
  | k + 1 => by rw [List.replicate_succ, List.sum_cons, sum_rep n k, Nat.mul_succ, Nat.add_comm]
theorem repS_len (a : Str) (k : Nat) : (repS a k).length = a.length * k := by
  show (repS a k).cps.size = a.cps.size * k
  rw [← Array.length_toList, repS_list, List.length_flatten, List.map_replicate, sum_rep, Array.length_toList]
end Nb
set_option maxRecDepth 100000
/-! NcR: xs.index(text), xs a list of texts. -/
namespace Nb
open PySem PySem.Spec PyProof.Rows L2
end Nb
set_option maxRecDepth 100000
/-! NcS: a text times a number that may be 0 or 1. -/
namespace Nb
open PySem PySem.Spec PyProof.Rows L2
def rRepT : R2 := fun x y H Q => ∃ a k, x = .str a ∧ y = .int k ∧ 0 ≤ k ∧ a.length ≠ 0 ∧ a.length * k.toNat ≤ sizeLine ∧ Q (.str (repS a k.toNat)) H
theorem repS_one (a : Str) : repS a 1 = a := by
  apply Str.ext'
  apply Array.toList_inj.mp
  rw [repS_list]
  simp
section
variable {X : Cx} {A : Act} {W : WX}
theorem op_repT : OpR X (binaryOp .Mult) rRepT := by
  intro pins s σ H x y v u Q I rx ry h
  obtain ⟨a, k, rfl, rfl, hk, ha, hz, q⟩ := h
  obtain ⟨t, rfl⟩ := rx
  obtain ⟨t', rfl⟩ := ry
  have hle : k.toNat ≤ a.length * k.toNat := Nat.le_mul_of_pos_left _ (Nat.pos_of_ne_zero ha)
  have hs : (sizeLine : Nat) < 2 ^ 63 := by decide
  have hkb : k.toNat < 2 ^ 63 := by omega
  refine PySem.P.mul_str ?_ (fun h1 _ => ?_) (fun _ _ => ?_) ?_
  · have h1 : ¬ k < -(2 ^ 63 : Int) := by omega
    have h2 : ¬ k ≥ 2 ^ 63 := by omega
    rw [decide_eq_false h1, decide_eq_false h2]; rfl
  · have e : ((a.length : Int)) * k ≤ 2 ^ 63 - 1 := by
      have : ((a.length * k.toNat : Nat) : Int) = (a.length : Int) * k := by
        rw [Int.natCast_mul, Int.toNat_of_nonneg (by omega)]
      omega
    have := (Int.le_ediv_iff_mul_le (show (0 : Int) < k by omega)).mpr e
    omega
  · show decide (a.length * k.toNat > sizeLine) = false
    exact decide_eq_false (by omega)
  · by_cases h0 : k < 1
    · have e0 : k = 0 := by omega
      subst e0
      rw [if_pos h0]
      exact ⟨by decide, ⟨.str (repS a 0), H, I.tok _, ⟨_, rfl⟩, q⟩⟩
    · rw [if_neg h0]
      by_cases h1 : k = 1
      · subst h1
        rw [if_pos (by rfl)]
        have q' : Q (.str (repS a 1)) H := q
        rw [repS_one] at q'
        exact ⟨.str a, H, I, ⟨_, rfl⟩, q'⟩
      · have hc : (k == 1 || a.length == 0) = false := by
          have h1 : (k == 1) = false := by rw [beq_eq_false_iff_ne]; omega
          have h2 : (a.length == 0) = false := by rw [beq_eq_false_iff_ne]; exact ha
          rw [h1, h2]; rfl
        rw [if_neg (by rw [hc]; exact Bool.false_ne_true)]
        refine ⟨?_, ⟨.str (repS a k.toNat), H, I.tok _, ⟨_, rfl⟩, q⟩⟩
        show (repS a k.toNat).length ≤ sizeLine
        rw [repS_len]
        exact hz
def dMulT (x y : D) (Q : D → Prop) : Prop := match x, y with
  | .str a, .int k => (0 ≤ k ∧ a.length ≠ 0 ∧ a.length * k.toNat ≤ LINE) ∧ Q (.str (repS a k.toNat))
  | x, y => dMul x y Q
theorem op_mulAllT : OpR X (binaryOp .Mult) (fun x y H Q => rMulAll x y H Q ∨ rRepT x y H Q) := op_mulAll.or op_repT
theorem od_mulT : OpD A (fun x y H Q => rMulAll x y H Q ∨ rRepT x y H Q) dMulT := by
  intro M H x y d e Q Qd hst hf rx ry h k
  by_cases hd : ∃ a j, d = .str a ∧ e = .int j
  · obtain ⟨a, j, rfl, rfl⟩ := hd
    cases rx
    cases ry
    exact .inr ⟨a, j, rfl, rfl, h.1.1, h.1.2.1, by rw [line_is]; exact h.1.2.2, k _ _ H (Stp.refl _ _) (.str _) h.2⟩
  · refine .inl (od_mul M H x y d e Q Qd hst hf rx ry ?_ k)
    unfold dMulT at h
    split at h
    · exact absurd ⟨_, _, rfl, rfl⟩ hd
    · exact h
theorem ge_mulT {a b : Expr} {pos} {ga gb : DE} (ha : GE X A W a ga) (hb : GE X A W b gb) : GE X A W (.BinOp a .Mult b pos) (dop dMulT ga gb) := ge_bin op_mulAllT od_mulT ha hb
end
end Nb
set_option maxRecDepth 100000
set_option maxHeartbeats 4000000
namespace LW
open PySem PySem.Spec PyProof.Rows L2 Nb TL
abbrev top (i : Nat) : Stmt := PySem.Challenge.pw_notbehind_k05_names_and_words.main.body.getD i (.Pass ⟨0, 0, 0, 0⟩)
def clsB : Stmt → List Stmt
  | .ClassDef _ _ _ b _ _ _ _ _ _ _ => b
  | _ => []
abbrev init_BadName : Stmt := (clsB (top 6)).getD 0 (.Pass ⟨0, 0, 0, 0⟩)
abbrev init_BadText : Stmt := (clsB (top 7)).getD 0 (.Pass ⟨0, 0, 0, 0⟩)
def okX (n : Str) : Prop := n ∈ (["BadName", "BadText"] : List Str)
structure Txt (P : Program) (K : PySem.W.Frag) (mg : Str → Option Value) : Prop where
  ValueError : mg "ValueError" = none
  abs : mg "abs" = none
  all : mg "all" = none
  bool : mg "bool" = none
  int : mg "int" = none
  isinstance : mg "isinstance" = none
  len : mg "len" = none
  list : mg "list" = none
  range : mg "range" = none
  str : mg "str" = none
  tuple : mg "tuple" = none
  kinds : Kinds K mg okX
  i_BadCount : IsC K mg okX "BadCount" fun n => n == "BadCount"
  i_BadName : IsC K mg okX "BadName" fun n => n == "BadName"
  i_BadNumber : IsC K mg okX "BadNumber" fun n => n == "BadNumber"
  i_BadRow : IsC K mg okX "BadRow" fun n => n == "BadRow"
  i_BadShare : IsC K mg okX "BadShare" fun n => n == "BadShare"
  i_BadSize : IsC K mg okX "BadSize" fun n => n == "BadSize"
  i_BadText : IsC K mg okX "BadText" fun n => n == "BadText"
  i_BadWeight : IsC K mg okX "BadWeight" fun n => n == "BadWeight"
  i_DivisionByZero : IsC K mg okX "DivisionByZero" fun n => n == "DivisionByZero"
  i_GameOver : IsC K mg okX "GameOver" fun n => n == "GameOver"
  i_InUse : IsC K mg okX "InUse" fun n => n == "InUse"
  i_Lacking : IsC K mg okX "Lacking" fun n => n == "Lacking"
  i_Mismatch : IsC K mg okX "Mismatch" fun n => n == "Mismatch"
  i_NoHelper : IsC K mg okX "NoHelper" fun n => n == "NoHelper"
  i_NotExact : IsC K mg okX "NotExact" fun n => n == "NotExact"
  i_NothingToTakeBack : IsC K mg okX "NothingToTakeBack" fun n => n == "NothingToTakeBack"
  i_TakenName : IsC K mg okX "TakenName" fun n => n == "TakenName"
  i_UnknownName : IsC K mg okX "UnknownName" fun n => n == "UnknownName"
  i_WrongKind : IsC K mg okX "WrongKind" fun n => n == "WrongKind"
  f_amount : ∀ n C, okX n → mg n = some (.ref C) → PySem.W.findIn K (.ref C) "amount" = some none
  f_at : ∀ n C, okX n → mg n = some (.ref C) → PySem.W.findIn K (.ref C) "at" = some none
  f_beginning : ∀ n C, okX n → mg n = some (.ref C) → PySem.W.findIn K (.ref C) "beginning" = some none
  f_due : ∀ n C, okX n → mg n = some (.ref C) → PySem.W.findIn K (.ref C) "due" = some none
  f_found : ∀ n C, okX n → mg n = some (.ref C) → PySem.W.findIn K (.ref C) "found" = some none
  f_high : ∀ n C, okX n → mg n = some (.ref C) → PySem.W.findIn K (.ref C) "high" = some none
  f_line : ∀ n C, okX n → mg n = some (.ref C) → PySem.W.findIn K (.ref C) "line" = some none
  f_low : ∀ n C, okX n → mg n = some (.ref C) → PySem.W.findIn K (.ref C) "low" = some none
  f_name : ∀ n C, okX n → mg n = some (.ref C) → PySem.W.findIn K (.ref C) "name" = some none
  f_user : ∀ n C, okX n → mg n = some (.ref C) → PySem.W.findIn K (.ref C) "user" = some none
  v_ValueError : ∀ n C, okX n → mg n = some (.ref C) → PySem.W.kitOne K (.ref C) (.type "ValueError") = some ((fun _ => true) n)
  c_NotBehindError : CatchC K mg okX "NotBehindError"
  r_BadName : RaiN P K mg "BadName" "found" "found" [] init_BadName
  r_BadText : RaiN P K mg "BadText" "line" "line" [] init_BadText
  k_DIGITS : ∃ t, mg "DIGITS" = some (.str "0123456789" t)
  k_LONGEST_NAME : ∃ t, mg "LONGEST_NAME" = some (.int 12 t)
  k_SMALL_LETTERS : ∃ t, mg "SMALL_LETTERS" = some (.str "abcdefghijklmnopqrstuvwxyz" t)
section
variable {P : Program} {w : World} {K : PySem.W.Frag} {mg : Str → Option Value} {base : Heap}
theorem c_DIGITS {X : Cx} {A : Nb.Act} {W : WX} {pos : Pos} (T : Txt X.prog X.K X.mg) (hg : Gl X "DIGITS" := by rfl) : GE X A W (.Name "DIGITS" pos) (dk (.str "0123456789")) := by
  obtain ⟨t, h⟩ := T.k_DIGITS
  exact ge_glob (v := .str "0123456789") hg h ⟨t, rfl⟩ fun _ _ => .str _
theorem c_LONGEST_NAME {X : Cx} {A : Nb.Act} {W : WX} {pos : Pos} (T : Txt X.prog X.K X.mg) (hg : Gl X "LONGEST_NAME" := by rfl) : GE X A W (.Name "LONGEST_NAME" pos) (dk (.int 12)) := by
  obtain ⟨t, h⟩ := T.k_LONGEST_NAME
  exact ge_glob (v := .int 12) hg h ⟨t, rfl⟩ fun _ _ => .int _
theorem c_SMALL_LETTERS {X : Cx} {A : Nb.Act} {W : WX} {pos : Pos} (T : Txt X.prog X.K X.mg) (hg : Gl X "SMALL_LETTERS" := by rfl) : GE X A W (.Name "SMALL_LETTERS" pos) (dk (.str "abcdefghijklmnopqrstuvwxyz")) := by
  obtain ⟨t, h⟩ := T.k_SMALL_LETTERS
  exact ge_glob (v := .str "abcdefghijklmnopqrstuvwxyz") hg h ⟨t, rfl⟩ fun _ _ => .str _
abbrev s__law_mixed : Stmt := top 31
theorem sc__law_mixed : FnScope ["store", "prime", "found"] ["store"] (defScope s__law_mixed) := ⟨rfl, rfl, rfl, by decide +kernel, rfl, by decide +kernel, by decide +kernel⟩
def S__law_mixed : DSp := fun ds Q E => ds = [.sto] ∧ ∀ z, 0 ≤ z → Q (.int z)
theorem len__law_mixed {ds : List D} {Q : D → Prop} {E : Ex → Prop} (h : S__law_mixed ds Q E) : ds.length = 1 := by rw [h.1]; rfl
theorem ok__law_mixed (T : Txt P K mg) {f : Addr} {fd : FuncData} (F : Fun K "_law_mixed" "_law_mixed" s__law_mixed f fd) : FnOk P w K mg base (L2N.CX P w) 1 f fd ["store"] (spD K mg false S__law_mixed) := by
  refine fn_ok F sc__law_mixed (fun ds Qd Ed h => len__law_mixed h) (fun cdv Ar outer s H E R M ds Qd Ed hr hK hm h0 h => ?_)
  subst hK hm
  refine ⟨_, (gss_cons (gs_asg (i := 1) ge_int sc__law_mixed.nd rfl (by first | exact Or.inl rfl | exact Or.inr rfl))
    (gss_cons (gs_setS (k := 3) (pv 0) (ge_add (ge_ixS (k := 3) (pv 0)) ge_int))
    (gss_cons (gs_setS (k := 2) (pv 0) (ge_mod (ge_bltT (b_int) (by rfl) T.int PyProof.Rows.boot_int (gl_cons (ge_add (ge_add (ge_mul (ge_ixS (k := 2) (pv 0)) ge_int) (ge_mul (ge_ixS (k := 3) (pv 0)) ge_int)) ge_int) gl_nil)) (ge_var (pv 1))))
    (gss_cons (gs_asg (i := 2) (ge_mod (ge_bltT (b_int) (by rfl) T.int PyProof.Rows.boot_int (gl_cons (ge_add (ge_mul (ge_ixS (k := 2) (pv 0)) (ge_ixS (k := 2) (pv 0))) (ge_mul (ge_ixS (k := 3) (pv 0)) ge_int)) gl_nil)) ge_int) sc__law_mixed.nd rfl (by first | exact Or.inl rfl | exact Or.inr rfl))
    (gss_one (gs_ret (ge_mod (ge_bltT (b_int) (by rfl) T.int PyProof.Rows.boot_int (gl_cons (ge_add (ge_add (ge_mul (ge_var (pv 2)) ge_int) (ge_fdiv (ge_var (pv 2)) ge_int)) ge_int) gl_nil)) (ge_var (pv 1))))))))), ?_⟩
  obtain ⟨rfl, hq⟩ := h
  have e0 : startD ["store", "prime", "found"] [D.sto] = [.val .sto, .un, .un] := rfl
  simp only [↓reduceIte, disX, dxf, dcallQ, dcallQF, eqv_strs, sgnD_eq, draise1, fAll, diR1, diR2, diL, diT, diS, dname, dapp, dappPop, dlenO, dixO, dretO, dSl, donone, dosome, dyes, dfv, dm1, fJoin, fIndex, fListF, fSortT, dRev, dIn, dNotIn, difE, fMax, fMin, fStr, fList, dseq, dif, dret, dretN, dretF, dretO, dasg, dasgO, dexpr, dnext, dop, dopF, dk, dvar, dcons, dnil, dlst, dflst, dtup, dIx, dI0, dII, dB0, dtest, dtruth, dand, dor, dnot, dcb, dcbF, dcall, dcallF, dixS, dsetS, dinS, difS, fLen, fInt, fAbs, endD, e0, scD, SOK, dEq, dNe, eqv_int, eqv_str, eqv_bl, beq_iff_eq, decide_eq_true_eq, Bool.not_eq_true, Bool.not_eq_true', true_and, and_true, and_self, false_and, and_false, reduceCtorEq, true_or, or_true, true_implies, if_true, if_false, Bool.false_eq_true, not_false_eq_true, dAdd, dMul, dAddF, List.getElem?_cons_zero, List.getElem?_cons_succ, List.set_cons_zero, List.set_cons_succ]
  repeat' (first | exact True.intro | exact rfl | intro _ | refine And.intro ?_ ?_ | split | exact Or.inl (Or.inr ⟨by decide, by decide⟩) | exact Or.inl (Or.inl ⟨by omega, by omega⟩) | exact Or.inl ⟨by omega, by omega⟩ | exact (by decide : (0:Int) < _) | (show (0:Int) < _; omega) | omega | decide | exact hq _ (by omega))
abbrev s__law_take : Stmt := top 32
theorem sc__law_take : FnScope ["store", "many", "cell", "found"] ["store", "many"] (defScope s__law_take) := ⟨rfl, rfl, rfl, by decide +kernel, rfl, by decide +kernel, by decide +kernel⟩
def S__law_take : DSp := fun ds Q E => ∃ m, ds = [.sto, .int m] ∧ m < 10000000000 ∧ ∀ z, 0 ≤ z → (z < m ∨ z = 0) → Q (.int z)
theorem len__law_take {ds : List D} {Q : D → Prop} {E : Ex → Prop} (h : S__law_take ds Q E) : ds.length = 2 := by obtain ⟨m, h, _⟩ := h; rw [h]; rfl
theorem ok__law_take (T : Txt P K mg) (h__law_mixed : Has P w K mg base "_law_mixed" 1 false S__law_mixed) {f : Addr} {fd : FuncData} (F : Fun K "_law_take" "_law_take" s__law_take f fd) : FnOk P w K mg base (L2N.CX P w) 2 f fd ["store", "many"] (spD K mg false S__law_take) := by
  refine fn_ok F sc__law_take (fun ds Qd Ed h => len__law_take h) (fun cdv Ar outer s H E R M ds Qd Ed hr hK hm h0 h => ?_)
  subst hK hm
  refine ⟨_, (gss_cons (gs_if (gt_c cm_lt (ge_var (pv 1)) ge_int) (gss_one (gs_ret ge_int)) gss_nil)
    (gss_cons (gs_ifS (j := 2) (gwf_and (gt_c (cm_eq (room_units hr)) (ge_ixS (k := 1) (pv 0)) ge_int) (gwf_and (gt_c (cm_eq (room_units hr)) (ge_ixS (k := 4) (pv 0)) ge_int) (gwf_in (pv 0) (pv 0) rfl (by rfl) T.len rfl))) (pv 0) (pv 0) rfl (by rfl) T.int sc__law_take.nd rfl (by first | exact Or.inl rfl | exact Or.inr rfl) (gss_cons (gs_setS (k := 0) (pv 0) (ge_add (ge_ixS (k := 0) (pv 0)) ge_int))
    (gss_cons (gs_setS (k := 2) (pv 0) (ge_mod (ge_bltT (b_int) (by rfl) T.int PyProof.Rows.boot_int (gl_cons (ge_add (ge_add (ge_ixS (k := 2) (pv 0)) (ge_mul (ge_var (pv 2)) ge_int)) ge_int) gl_nil)) ge_int))
    (gss_one (gs_if (GW.t (gw_or (gt_c cm_ge (ge_var (pv 2)) (ge_pow ge_int ge_int)) (gw_or1 (gt_c cm_le (ge_var (pv 2)) (ge_subI ge_int (ge_pow ge_int ge_int)))))) (gss_one (gs_setS (k := 1) (pv 0) (ge_blt (b_abs) (by rfl) T.abs (by decide +kernel) (gl_cons (ge_var (pv 2)) gl_nil)))) (gss_one (gs_setS (k := 4) (pv 0) ge_int)))))) gss_nil)
    (gss_cons (gs_if (gt_c cm_gt (ge_ixS (k := 1) (pv 0)) ge_int) (gss_cons (gs_asg (i := 3) (ge_mod (ge_bltT (b_int) (by rfl) T.int PyProof.Rows.boot_int (gl_cons (ge_ixS (k := 1) (pv 0)) gl_nil)) (ge_var (pv 1))) sc__law_take.nd rfl (by first | exact Or.inl rfl | exact Or.inr rfl))
    (gss_cons (gs_setS (k := 1) (pv 0) (ge_fdiv (ge_ixS (k := 1) (pv 0)) (ge_var (pv 1))))
    (gss_one (gs_ret (ge_var (pv 3)))))) gss_nil)
    (gss_cons (gs_if (gt_c cm_gt (ge_ixS (k := 4) (pv 0)) ge_int) (gss_one (gs_setS (k := 4) (pv 0) (ge_subI (ge_ixS (k := 4) (pv 0)) ge_int))) gss_nil)
    (gss_one (gs_ret (ge_mod (ge_bltT (b_int) (by rfl) T.int PyProof.Rows.boot_int (gl_cons (ge_call (Has.call h__law_mixed (hr.mono (by decide)) (L2N.takes_of rfl rfl rfl rfl)) (gl_cons (ge_var (pv 0)) gl_nil) h0) gl_nil)) (ge_var (pv 1))))))))), ?_⟩
  obtain ⟨m, rfl, hm, hq⟩ := h
  have e0 : startD ["store", "many", "cell", "found"] [D.sto, .int m] = [.val .sto, .val (.int m), .un, .un] := rfl
  simp only [S__law_mixed, ↓reduceIte, disX, dxf, dcallQ, dcallQF, eqv_strs, sgnD_eq, draise1, fAll, diR1, diR2, diL, diT, diS, dname, dapp, dappPop, dlenO, dixO, dretO, dSl, donone, dosome, dyes, dfv, dm1, fJoin, fIndex, fListF, fSortT, dRev, dIn, dNotIn, difE, fMax, fMin, fStr, fList, dseq, dif, dret, dretN, dretF, dretO, dasg, dasgO, dexpr, dnext, dop, dopF, dk, dvar, dcons, dnil, dlst, dflst, dtup, dIx, dI0, dII, dB0, dtest, dtruth, dand, dor, dnot, dcb, dcbF, dcall, dcallF, dixS, dsetS, dinS, difS, fLen, fInt, fAbs, endD, e0, scD, SOK, dEq, dNe, eqv_int, eqv_str, eqv_bl, beq_iff_eq, decide_eq_true_eq, Bool.not_eq_true, Bool.not_eq_true', true_and, and_true, and_self, false_and, and_false, reduceCtorEq, true_or, or_true, true_implies, if_true, if_false, Bool.false_eq_true, not_false_eq_true, dAdd, dMul, dAddF, List.getElem?_cons_zero, List.getElem?_cons_succ, List.set_cons_zero, List.set_cons_succ]
  repeat' (first | exact True.intro | exact rfl | intro _ | refine And.intro ?_ ?_ | split | exact Or.inl (Or.inr ⟨by decide, by decide⟩) | exact Or.inl (Or.inl ⟨by omega, by omega⟩) | exact Or.inl ⟨by omega, by omega⟩ | exact (by decide : (0:Int) < _) | (show (0:Int) < _; omega) | omega | decide | exact hq _ (by omega) (by omega) | exact divOk (b := 40) (by omega) (by show _ < 1099511627776; omega) (by decide) | exact Int.ediv_nonneg (by omega) (by omega) | exact hq _ (Int.emod_nonneg _ (by omega)) (.inl (Int.emod_lt_of_pos _ (by omega))))
abbrev s__law_edge : Stmt := top 33
theorem sc__law_edge : FnScope ["store", "many", "kind"] ["store", "many"] (defScope s__law_edge) := ⟨rfl, rfl, rfl, by decide +kernel, rfl, by decide +kernel, by decide +kernel⟩
def S__law_edge : DSp := S__law_take
theorem len__law_edge {ds : List D} {Q : D → Prop} {E : Ex → Prop} (h : S__law_edge ds Q E) : ds.length = 2 := len__law_take h
theorem ok__law_edge (T : Txt P K mg) (h__law_take : Has P w K mg base "_law_take" 2 false S__law_take) {f : Addr} {fd : FuncData} (F : Fun K "_law_edge" "_law_edge" s__law_edge f fd) : FnOk P w K mg base (L2N.CX P w) 3 f fd ["store", "many"] (spD K mg false S__law_edge) := by
  refine fn_ok F sc__law_edge (fun ds Qd Ed h => len__law_edge h) (fun cdv Ar outer s H E R M ds Qd Ed hr hK hm h0 h => ?_)
  subst hK hm
  refine ⟨_, (gss_cons (gs_if (gt_c cm_lt (ge_var (pv 1)) ge_int) (gss_one (gs_ret ge_int)) gss_nil)
    (gss_cons (gs_asg (i := 2) (ge_call (Has.call h__law_take (hr.mono (by decide)) (L2N.takes_of rfl rfl rfl rfl)) (gl_cons (ge_var (pv 0)) (gl_cons ge_int gl_nil)) h0) sc__law_edge.nd rfl (by first | exact Or.inl rfl | exact Or.inr rfl))
    (gss_cons (gs_if (gt_c (cm_eq (room_units hr)) (ge_var (pv 2)) ge_int) (gss_one (gs_ret ge_int)) gss_nil)
    (gss_cons (gs_if (gt_c (cm_eq (room_units hr)) (ge_var (pv 2)) ge_int) (gss_one (gs_ret (ge_subI (ge_var (pv 1)) ge_int))) gss_nil)
    (gss_one (gs_ret (ge_call (Has.call h__law_take (hr.mono (by decide)) (L2N.takes_of rfl rfl rfl rfl)) (gl_cons (ge_var (pv 0)) (gl_cons (ge_var (pv 1)) gl_nil)) h0))))))), ?_⟩
  obtain ⟨m, rfl, hm, hq⟩ := h
  have e0 : startD ["store", "many", "kind"] [D.sto, .int m] = [.val .sto, .val (.int m), .un] := rfl
  simp only [S__law_take, ↓reduceIte, disX, dxf, dcallQ, dcallQF, eqv_strs, sgnD_eq, draise1, fAll, diR1, diR2, diL, diT, diS, dname, dapp, dappPop, dlenO, dixO, dretO, dSl, donone, dosome, dyes, dfv, dm1, fJoin, fIndex, fListF, fSortT, dRev, dIn, dNotIn, difE, fMax, fMin, fStr, fList, dseq, dif, dret, dretN, dretF, dretO, dasg, dasgO, dexpr, dnext, dop, dopF, dk, dvar, dcons, dnil, dlst, dflst, dtup, dIx, dI0, dII, dB0, dtest, dtruth, dand, dor, dnot, dcb, dcbF, dcall, dcallF, dixS, dsetS, dinS, difS, fLen, fInt, fAbs, endD, e0, scD, SOK, dEq, dNe, eqv_int, eqv_str, eqv_bl, beq_iff_eq, decide_eq_true_eq, Bool.not_eq_true, Bool.not_eq_true', true_and, and_true, and_self, false_and, and_false, reduceCtorEq, true_or, or_true, true_implies, if_true, if_false, Bool.false_eq_true, not_false_eq_true, dAdd, dMul, dAddF, List.getElem?_cons_zero, List.getElem?_cons_succ, List.set_cons_zero, List.set_cons_succ]
  by_cases c : m < 2
  · rw [if_pos c]
    exact hq 0 (by omega) (by omega)
  · rw [if_neg c]
    refine ⟨6, rfl, by decide, fun z h1 h2 => ?_⟩
    repeat' (first | exact True.intro | exact rfl | intro _ | refine And.intro ?_ ?_ | split | exact Or.inl (Or.inr ⟨by decide, by decide⟩) | exact Or.inl (Or.inl ⟨by omega, by omega⟩) | exact Or.inl ⟨by omega, by omega⟩ | exact (by decide : (0:Int) < _) | (show (0:Int) < _; omega) | omega | decide | exact hq _ (by omega) (by omega) | exact ⟨m, rfl, hm, hq⟩)
/-! ### fractions -/
def numD : D → Option Rat
  | .int n => some (n : Rat)
  | .tup [.int a, .int b] => if 1 ≤ b then some (Rat.divInt a b) else none
  | _ => none
/-- data that may be asked: its kinds are known, sizes fit -/
def KndOk (d : D) : Prop := ∃ t, d.tyn = some t
def ChkOk (d : D) : Prop := KndOk d ∧ ∀ x y, d = .tup [x, y] → KndOk x ∧ KndOk y ∧ ∀ a b, x = .int a → y = .int b → 1 ≤ b → Nat.gcd a.natAbs b.natAbs < 2 ^ 8999
theorem numD_two (a b : Int) : numD (.tup [.int a, .int b]) = if 1 ≤ b then some (Rat.divInt a b) else none := rfl
theorem size_cast {i n : Nat} (h : i < 2 ^ n) : ((i : Nat) : Int).natAbs < 2 ^ n := by rw [Int.natAbs_natCast]; exact h
end
end LW
set_option maxRecDepth 100000
set_option maxHeartbeats 4000000
namespace LW
open PySem PySem.Spec PyProof.Rows L2 Nb TL
section
variable {P : Program} {w : World} {K : PySem.W.Frag} {mg : Str → Option Value} {base : Heap}
def sumQ : List Rat → Rat
  | [] => 0
  | x :: l => x + sumQ l
theorem Sz.zero (n : Nat) : Sz (n + 1) 0 := by
  refine ⟨Nat.two_pow_pos _, ?_⟩
  show 1 < 2 ^ (n + 1)
  exact Nat.one_lt_two_pow (Nat.succ_ne_zero n)
theorem Sz.sum {n : Nat} : ∀ {l : List Rat}, (∀ q ∈ l, Sz n q) → Sz ((n + 2) * (l.length + 1)) (sumQ l)
  | [], _ => (Sz.zero 0).mono (by simp)
  | x :: l, h => by
    have h1 := h x List.mem_cons_self
    have h2 := Sz.sum (l := l) fun q hq => h q (List.mem_cons_of_mem _ hq)
    refine (h1.add h2).mono ?_
    rw [List.length_cons, Nat.mul_add (n + 2) (l.length + 1) 1]
    omega
theorem Sz.one (n : Nat) : Sz (n + 1) 1 := by
  have := Nat.one_lt_two_pow (Nat.succ_ne_zero n)
  exact ⟨this, this⟩
end
end LW
set_option maxRecDepth 100000
set_option maxHeartbeats 4000000
namespace LW
open PySem PySem.Spec PyProof.Rows L2 Nb TL
section
variable {P : Program} {w : World} {K : PySem.W.Frag} {mg : Str → Option Value} {base : Heap}
theorem gsml {a b : Int} {n : Nat} (h : b.natAbs < 2 ^ n) (h0 : b ≠ 0) (hn : n ≤ 8999) : Nat.gcd a.natAbs b.natAbs < 2 ^ 8999 :=
  Nat.lt_of_le_of_lt (Nat.gcd_le_right _ (by omega)) (Nat.lt_of_lt_of_le h (Nat.pow_le_pow_right (by decide) hn))
/-! ### numbers in any form -/
/-- d is a number equal to q, its parts below 2 ^ n -/
def Num (n : Nat) (d : D) (q : Rat) : Prop := (∃ z : Int, d = .int z ∧ z.natAbs < 2 ^ n ∧ q = (z : Rat)) ∨ ∃ a b : Int, d = .tup [.int a, .int b] ∧ 0 < b ∧ a.natAbs < 2 ^ n ∧ b.natAbs < 2 ^ n ∧ q = Rat.divInt a b
theorem Num.num {n : Nat} {d : D} {q : Rat} (h : Num n d q) : numD d = some q := by
  rcases h with ⟨z, rfl, _, rfl⟩ | ⟨a, b, rfl, h0, _, _, rfl⟩
  · rfl
  · rw [numD_two, if_pos (by omega)]
theorem Num.chk {n : Nat} {d : D} {q : Rat} (h : Num n d q) (hn : n ≤ 8999) : ChkOk d := by
  rcases h with ⟨z, rfl, _, rfl⟩ | ⟨a, b, rfl, h0, h1, h2, rfl⟩
  · exact ⟨⟨_, rfl⟩, fun x y e => by cases e⟩
  · refine ⟨⟨_, rfl⟩, fun x y e => ?_⟩
    injection e with e
    injection e with e1 e2
    injection e2 with e2 _
    subst e1 e2
    refine ⟨⟨_, rfl⟩, ⟨_, rfl⟩, fun a' b' e1 e2 h => ?_⟩
    cases e1
    cases e2
    exact gsml h2 (by omega) hn
theorem Num.fr {n : Nat} {q : Rat} (h : Sz n q) : Num n (fr q) q := .inr ⟨q.num, q.den, rfl, by have := q.den_pos; omega, h.1, size_cast h.2, (Rat.num_divInt_den q).symm⟩
theorem Num.mono {n m : Nat} {d : D} {q : Rat} (h : Num n d q) (k : n ≤ m) : Num m d q := by
  have p := Nat.pow_le_pow_right (show 0 < 2 by decide) k
  rcases h with ⟨z, rfl, h, rfl⟩ | ⟨a, b, rfl, h0, h1, h2, rfl⟩
  · exact .inl ⟨z, rfl, Nat.lt_of_lt_of_le h p, rfl⟩
  · exact .inr ⟨a, b, rfl, h0, Nat.lt_of_lt_of_le h1 p, Nat.lt_of_lt_of_le h2 p, rfl⟩
/-- numbers in any form, one by one -/
def Nums (n : Nat) (ds : List D) (qs : List Rat) : Prop := ds.length = qs.length ∧ ∀ (i : Nat) (d : D) (q : Rat), ds[i]? = some d → qs[i]? = some q → Num n d q
theorem Nums.nil (n : Nat) : Nums n [] [] := ⟨rfl, fun i d q h => by simp at h⟩
theorem Nums.map {n : Nat} {ds : List D} {qs : List Rat} (h : Nums n ds qs) : ds.map numD = qs.map some := by
  refine List.ext_getElem? fun i => ?_
  rw [List.getElem?_map, List.getElem?_map]
  cases e : ds[i]? with
  | none =>
    have : qs[i]? = none := by
      rw [List.getElem?_eq_none_iff] at e ⊢
      rw [← h.1]
      exact e
    rw [this]
    rfl
  | some d =>
    have hi := (List.getElem?_eq_some_iff.mp e).1
    have hq : qs[i]? = some (qs[i]'(by rw [← h.1]; exact hi)) := List.getElem?_eq_getElem _
    rw [hq]
    show some (numD d) = some (some _)
    rw [(h.2 i d _ e hq).num]
theorem Nums.chk {n : Nat} {ds : List D} {qs : List Rat} (h : Nums n ds qs) (hn : n ≤ 8999) : ∀ x ∈ ds, ChkOk x := fun x hx => by
  obtain ⟨i, hi, e⟩ := List.mem_iff_getElem.mp hx
  have e' : ds[i]? = some x := by rw [List.getElem?_eq_getElem hi, e]
  exact (h.2 i x _ e' (List.getElem?_eq_getElem (by rw [← h.1]; exact hi))).chk hn
/-! ### plain data -/
def flatD : D → Bool
  | .non | .bl _ | .int _ | .str _ => true
  | _ => false
/-- plain data, nested at most n deep -/
def Pl : Nat → D → Prop
  | 0, d => flatD d = true
  | n + 1, d => flatD d = true ∨ ∃ es, (d = .tup es ∨ d = .lst es) ∧ es.length ≤ 1000000 ∧ ∀ e ∈ es, Pl n e
theorem flat_kinds {d : D} (h : flatD d = true) : d = .non ∨ (∃ b, d = .bl b) ∨ (∃ i, d = .int i) ∨ ∃ z, d = .str z := by
  cases d <;> first | exact .inl rfl | exact .inr (.inl ⟨_, rfl⟩) | exact .inr (.inr (.inl ⟨_, rfl⟩)) | exact .inr (.inr (.inr ⟨_, rfl⟩)) | cases h
abbrev s__law_same : Stmt := top 34
theorem sc__law_same : FnScope ["actual", "due", "k"] ["actual", "due"] (defScope s__law_same) := ⟨rfl, rfl, rfl, by decide +kernel, rfl, by decide +kernel, by decide +kernel⟩
def R__law_same : Nat → DSp
  | 0 => fun _ _ _ => False
  | n + 1 => fun ds Q E => ∃ d, ds = [d, d] ∧ Pl n d ∧ Q (.bl true)
theorem lenR__law_same {n : Nat} {ds : List D} {Q : D → Prop} {E : Ex → Prop} (h : R__law_same n ds Q E) : ds.length = 2 := by
  cases n with
  | zero => exact h.elim
  | succ n =>
    obtain ⟨d, h, _⟩ := h
    rw [h]
    rfl
theorem ok__law_same (T : Txt P K mg) {n k : Nat} (h__law_same : Has P w K mg base "_law_same" k false (R__law_same n)) {f : Addr} {fd : FuncData} (F : Fun K "_law_same" "_law_same" s__law_same f fd) : FnOk P w K mg base (L2N.CX P w) (k + 1) f fd ["actual", "due"] (spD K mg false (R__law_same (n + 1))) := by
  refine fn_ok F sc__law_same (fun ds Qd Ed h => lenR__law_same h) (fun cdv Ar outer s H E R M ds Qd Ed hr hK hm h0 h => ?_)
  subst hK hm
  refine ⟨_, (gss_cons (gs_if (gt_c cm_isN (ge_var (pv 1)) ge_non) (gss_one (gs_ret (ge_c cm_isN (ge_var (pv 0)) ge_non))) gss_nil)
    (gss_cons (gs_if (gt_val (ge_blt (b_isi) (by rfl) T.isinstance PyProof.Rows.boot_isinstance (gl_cons (ge_var (pv 1)) (gl_cons (ge_tyc (n := "bool") (by rfl) T.bool) gl_nil)))) (gss_one (gs_ret (ge_and (ge_blt (b_isi) (by rfl) T.isinstance PyProof.Rows.boot_isinstance (gl_cons (ge_var (pv 0)) (gl_cons (ge_tyc (n := "bool") (by rfl) T.bool) gl_nil))) (ge_one (ge_c (cm_eq (room_units hr)) (ge_var (pv 0)) (ge_var (pv 1))))))) gss_nil)
    (gss_cons (gs_if (gt_val (ge_blt (b_isi) (by rfl) T.isinstance PyProof.Rows.boot_isinstance (gl_cons (ge_var (pv 1)) (gl_cons (ge_tyc (n := "int") (by rfl) T.int) gl_nil)))) (gss_one (gs_ret (ge_and (ge_blt (b_isi) (by rfl) T.isinstance PyProof.Rows.boot_isinstance (gl_cons (ge_var (pv 0)) (gl_cons (ge_tyc (n := "int") (by rfl) T.int) gl_nil))) (ge_and (ge_not (ge_blt (b_isi) (by rfl) T.isinstance PyProof.Rows.boot_isinstance (gl_cons (ge_var (pv 0)) (gl_cons (ge_tyc (n := "bool") (by rfl) T.bool) gl_nil)))) (ge_one (ge_c (cm_eq (room_units hr)) (ge_var (pv 0)) (ge_var (pv 1)))))))) gss_nil)
    (gss_cons (gs_if (gt_val (ge_blt (b_isi) (by rfl) T.isinstance PyProof.Rows.boot_isinstance (gl_cons (ge_var (pv 1)) (gl_cons (ge_tyc (n := "str") (by rfl) T.str) gl_nil)))) (gss_one (gs_ret (ge_and (ge_blt (b_isi) (by rfl) T.isinstance PyProof.Rows.boot_isinstance (gl_cons (ge_var (pv 0)) (gl_cons (ge_tyc (n := "str") (by rfl) T.str) gl_nil))) (ge_one (ge_c (cm_eq (room_units hr)) (ge_var (pv 0)) (ge_var (pv 1))))))) gss_nil)
    (gss_cons (gs_if (gt_val (ge_blt (b_isi) (by rfl) T.isinstance PyProof.Rows.boot_isinstance (gl_cons (ge_var (pv 1)) (gl_cons (ge_tyc (n := "tuple") (by rfl) T.tuple) gl_nil)))) (gss_one (gs_if (gt_not (gt_val (ge_blt (b_isi) (by rfl) T.isinstance PyProof.Rows.boot_isinstance (gl_cons (ge_var (pv 0)) (gl_cons (ge_tyc (n := "tuple") (by rfl) T.tuple) gl_nil))))) (gss_one (gs_ret ge_bl)) gss_nil)) (gss_one (gs_if (gt_not (gt_val (ge_blt (b_isi) (by rfl) T.isinstance PyProof.Rows.boot_isinstance (gl_cons (ge_var (pv 0)) (gl_cons (ge_tyc (n := "list") (by rfl) T.list) gl_nil))))) (gss_one (gs_ret ge_bl)) gss_nil)))
    (gss_cons (gs_if (gt_c (cm_ne (room_units hr)) (ge_blt (b_len) (by rfl) T.len PySem.boot_len (gl_cons (ge_var (pv 0)) gl_nil)) (ge_blt (b_len) (by rfl) T.len PySem.boot_len (gl_cons (ge_var (pv 1)) gl_nil))) (gss_one (gs_ret ge_bl)) gss_nil)
    (gss_cons (gs_for (passes_of rfl) (by rfl) (gi_rng1 (by rfl) T.range (gl_cons (ge_blt (b_len) (by rfl) T.len PySem.boot_len (gl_cons (ge_var (pv 1)) gl_nil)) gl_nil)) (gg_name (i := 2) sc__law_same.nd rfl (by first | exact Or.inl rfl | exact Or.inr rfl)) (gss_one (gs_if (gt_not (gt_val (ge_call (Has.call h__law_same hr (L2N.takes_of rfl rfl rfl rfl)) (gl_cons (ge_ix (ge_var (pv 0)) (ge_var (pv 2))) (gl_cons (ge_ix (ge_var (pv 1)) (ge_var (pv 2))) gl_nil)) h0))) (gss_one (gs_ret ge_bl)) gss_nil)))
    (gss_one (gs_ret ge_bl))))))))), ?_⟩
  obtain ⟨d, rfl, hd, hq⟩ := h
  cases n with
  | zero =>
    rcases flat_kinds hd with rfl | ⟨b, rfl⟩ | ⟨i, rfl⟩ | ⟨z, rfl⟩
    all_goals
      simp only [beq_self_eq_true, Bool.not_true, ↓reduceIte, disX, dxf, dcallQ, dcallQF, eqv_strs, sgnD_eq, draise1, fAll, diR1, diR2, diL, diT, diS, dname, dapp, dappPop, dlenO, dixO, dretO, dSl, donone, dosome, dyes, dfv, dm1, fJoin, fIndex, fListF, fSortT, dRev, dIn, dNotIn, difE, fMax, fMin, fStr, fList, dseq, dif, dret, dretN, dretF, dretO, dasg, dasgO, dexpr, dnext, dop, dopF, dk, dvar, dcons, dnil, dlst, dflst, dtup, dIx, dI0, dII, dB0, dtest, dtruth, dand, dor, dnot, dcb, dcbF, dcall, dcallF, dixS, dsetS, dinS, difS, fLen, fInt, fAbs, endD, scD, SOK, dEq, dNe, eqv_int, eqv_str, eqv_bl, beq_iff_eq, decide_eq_true_eq, Bool.not_eq_true, Bool.not_eq_true', true_and, and_true, and_self, false_and, and_false, reduceCtorEq, true_or, or_true, true_implies, if_true, if_false, Bool.false_eq_true, not_false_eq_true, dAdd, dMul, dAddF, List.getElem?_cons_zero, List.getElem?_cons_succ, List.set_cons_zero, List.set_cons_succ, eq_self, draise0, draiseN, ddead, fGcd, fSum, diV, dgtup, dgcons, dgnil, dasgG, dNeg, dmut, dseti, dlenO, dixO, difE, dandV, dorV, dnotV, dchain, dIsN, dNotN, dMul, dAdd, start_def, List.map_cons, List.map_nil, List.length_cons, List.length_nil, List.replicate_succ, List.replicate_zero, List.cons_append, List.nil_append, Nat.reduceAdd, Nat.reduceSub, Nat.reduceLeDiff, Nb.LINE, isi_non_int, isi_non_bool, isi_non_str, isi_non_tuple, isi_non_list, isi_bl_int, isi_bl_bool, isi_bl_str, isi_bl_tuple, isi_bl_list, isi_int_int, isi_int_bool, isi_int_str, isi_int_tuple, isi_int_list, isi_str_int, isi_str_bool, isi_str_str, isi_str_tuple, isi_str_list, isi_tup_int, isi_tup_bool, isi_tup_str, isi_tup_tuple, isi_tup_list, isi_lst_int, isi_lst_bool, isi_lst_str, isi_lst_tuple, isi_lst_list, isi_dct_int, isi_dct_bool, isi_dct_str, isi_dct_tuple, isi_dct_list, ddct0, dint, fTuple, fListF, fList, pow10_iff, Int.reduceLE, Int.reduceLT, Int.reduceToNat]
      exact hq
  | succ n =>
    rcases hd with hf | ⟨es, he, hl, hes⟩
    · rcases flat_kinds hf with rfl | ⟨b, rfl⟩ | ⟨i, rfl⟩ | ⟨z, rfl⟩
      all_goals
        simp only [beq_self_eq_true, Bool.not_true, ↓reduceIte, disX, dxf, dcallQ, dcallQF, eqv_strs, sgnD_eq, draise1, fAll, diR1, diR2, diL, diT, diS, dname, dapp, dappPop, dlenO, dixO, dretO, dSl, donone, dosome, dyes, dfv, dm1, fJoin, fIndex, fListF, fSortT, dRev, dIn, dNotIn, difE, fMax, fMin, fStr, fList, dseq, dif, dret, dretN, dretF, dretO, dasg, dasgO, dexpr, dnext, dop, dopF, dk, dvar, dcons, dnil, dlst, dflst, dtup, dIx, dI0, dII, dB0, dtest, dtruth, dand, dor, dnot, dcb, dcbF, dcall, dcallF, dixS, dsetS, dinS, difS, fLen, fInt, fAbs, endD, scD, SOK, dEq, dNe, eqv_int, eqv_str, eqv_bl, beq_iff_eq, decide_eq_true_eq, Bool.not_eq_true, Bool.not_eq_true', true_and, and_true, and_self, false_and, and_false, reduceCtorEq, true_or, or_true, true_implies, if_true, if_false, Bool.false_eq_true, not_false_eq_true, dAdd, dMul, dAddF, List.getElem?_cons_zero, List.getElem?_cons_succ, List.set_cons_zero, List.set_cons_succ, eq_self, draise0, draiseN, ddead, fGcd, fSum, diV, dgtup, dgcons, dgnil, dasgG, dNeg, dmut, dseti, dlenO, dixO, difE, dandV, dorV, dnotV, dchain, dIsN, dNotN, dMul, dAdd, start_def, List.map_cons, List.map_nil, List.length_cons, List.length_nil, List.replicate_succ, List.replicate_zero, List.cons_append, List.nil_append, Nat.reduceAdd, Nat.reduceSub, Nat.reduceLeDiff, Nb.LINE, isi_non_int, isi_non_bool, isi_non_str, isi_non_tuple, isi_non_list, isi_bl_int, isi_bl_bool, isi_bl_str, isi_bl_tuple, isi_bl_list, isi_int_int, isi_int_bool, isi_int_str, isi_int_tuple, isi_int_list, isi_str_int, isi_str_bool, isi_str_str, isi_str_tuple, isi_str_list, isi_tup_int, isi_tup_bool, isi_tup_str, isi_tup_tuple, isi_tup_list, isi_lst_int, isi_lst_bool, isi_lst_str, isi_lst_tuple, isi_lst_list, isi_dct_int, isi_dct_bool, isi_dct_str, isi_dct_tuple, isi_dct_list, ddct0, dint, fTuple, fListF, fList, pow10_iff, Int.reduceLE, Int.reduceLT, Int.reduceToNat]
        exact hq
    · rcases he with rfl | rfl
      all_goals
        simp only [beq_self_eq_true, Bool.not_true, ↓reduceIte, disX, dxf, dcallQ, dcallQF, eqv_strs, sgnD_eq, draise1, fAll, diR1, diR2, diL, diT, diS, dname, dapp, dappPop, dlenO, dixO, dretO, dSl, donone, dosome, dyes, dfv, dm1, fJoin, fIndex, fListF, fSortT, dRev, dIn, dNotIn, difE, fMax, fMin, fStr, fList, dseq, dif, dret, dretN, dretF, dretO, dasg, dasgO, dexpr, dnext, dop, dopF, dk, dvar, dcons, dnil, dlst, dflst, dtup, dIx, dI0, dII, dB0, dtest, dtruth, dand, dor, dnot, dcb, dcbF, dcall, dcallF, dixS, dsetS, dinS, difS, fLen, fInt, fAbs, endD, scD, SOK, dEq, dNe, eqv_int, eqv_str, eqv_bl, beq_iff_eq, decide_eq_true_eq, Bool.not_eq_true, Bool.not_eq_true', true_and, and_true, and_self, false_and, and_false, reduceCtorEq, true_or, or_true, true_implies, if_true, if_false, Bool.false_eq_true, not_false_eq_true, dAdd, dMul, dAddF, List.getElem?_cons_zero, List.getElem?_cons_succ, List.set_cons_zero, List.set_cons_succ, eq_self, draise0, draiseN, ddead, fGcd, fSum, diV, dgtup, dgcons, dgnil, dasgG, dNeg, dmut, dseti, dlenO, dixO, difE, dandV, dorV, dnotV, dchain, dIsN, dNotN, dMul, dAdd, start_def, List.map_cons, List.map_nil, List.length_cons, List.length_nil, List.replicate_succ, List.replicate_zero, List.cons_append, List.nil_append, Nat.reduceAdd, Nat.reduceSub, Nat.reduceLeDiff, Nb.LINE, isi_non_int, isi_non_bool, isi_non_str, isi_non_tuple, isi_non_list, isi_bl_int, isi_bl_bool, isi_bl_str, isi_bl_tuple, isi_bl_list, isi_int_int, isi_int_bool, isi_int_str, isi_int_tuple, isi_int_list, isi_str_int, isi_str_bool, isi_str_str, isi_str_tuple, isi_str_list, isi_tup_int, isi_tup_bool, isi_tup_str, isi_tup_tuple, isi_tup_list, isi_lst_int, isi_lst_bool, isi_lst_str, isi_lst_tuple, isi_lst_list, isi_dct_int, isi_dct_bool, isi_dct_str, isi_dct_tuple, isi_dct_list, ddct0, dint, fTuple, fListF, fList, pow10_iff, Int.reduceLE, Int.reduceLT, Int.reduceToNat]
        refine for_r1 (n := es.length) (fun i env => ∃ a b x, env = [.val a, .val b, x] ∧ (a = .tup es ∨ a = .lst es) ∧ a = b) (by exact fun _ _ h => h) (by omega) (by omega) ⟨_, _, _, rfl, by simp, rfl⟩ ?_ ?_
        · rintro i env' hi ⟨a, b, x, rfl, ha, rfl⟩
          have hi2 : i < es.length := by omega
          rcases ha with rfl | rfl
          · simp only [↓reduceIte, disX, dxf, dcallQ, dcallQF, eqv_strs, sgnD_eq, draise1, fAll, diR1, diR2, diL, diT, diS, dname, dapp, dappPop, dlenO, dixO, dretO, dSl, donone, dosome, dyes, dfv, dm1, fJoin, fIndex, fListF, fSortT, dRev, dIn, dNotIn, difE, fMax, fMin, fStr, fList, dseq, dif, dret, dretN, dretF, dretO, dasg, dasgO, dexpr, dnext, dop, dopF, dk, dvar, dcons, dnil, dlst, dflst, dtup, dIx, dI0, dII, dB0, dtest, dtruth, dand, dor, dnot, dcb, dcbF, dcall, dcallF, dixS, dsetS, dinS, difS, fLen, fInt, fAbs, endD, scD, SOK, dEq, dNe, eqv_int, eqv_str, eqv_bl, beq_iff_eq, decide_eq_true_eq, Bool.not_eq_true, Bool.not_eq_true', true_and, and_true, and_self, false_and, and_false, reduceCtorEq, true_or, or_true, true_implies, if_true, if_false, Bool.false_eq_true, not_false_eq_true, dAdd, dMul, dAddF, List.getElem?_cons_zero, List.getElem?_cons_succ, List.set_cons_zero, List.set_cons_succ, eq_self, draise0, draiseN, ddead, fGcd, fSum, diV, dgtup, dgcons, dgnil, dasgG, dNeg, dmut, dseti, dlenO, dixO, difE, dandV, dorV, dnotV, dchain, dIsN, dNotN, dMul, dAdd, start_def, List.map_cons, List.map_nil, List.length_cons, List.length_nil, List.replicate_succ, List.replicate_zero, List.cons_append, List.nil_append, Nat.reduceAdd, Nat.reduceSub, Nat.reduceLeDiff, Nb.LINE, isi_non_int, isi_non_bool, isi_non_str, isi_non_tuple, isi_non_list, isi_bl_int, isi_bl_bool, isi_bl_str, isi_bl_tuple, isi_bl_list, isi_int_int, isi_int_bool, isi_int_str, isi_int_tuple, isi_int_list, isi_str_int, isi_str_bool, isi_str_str, isi_str_tuple, isi_str_list, isi_tup_int, isi_tup_bool, isi_tup_str, isi_tup_tuple, isi_tup_list, isi_lst_int, isi_lst_bool, isi_lst_str, isi_lst_tuple, isi_lst_list, isi_dct_int, isi_dct_bool, isi_dct_str, isi_dct_tuple, isi_dct_list, ddct0, dint, fTuple, fListF, fList, pow10_iff, Int.reduceLE, Int.reduceLT, Int.reduceToNat]
            exact ⟨es[i], Nb.atI_nat hi2, es[i], Nb.atI_nat hi2, es[i], rfl, hes _ (List.getElem_mem hi2), _, _, _, rfl, .inl rfl, rfl⟩
          · simp only [↓reduceIte, disX, dxf, dcallQ, dcallQF, eqv_strs, sgnD_eq, draise1, fAll, diR1, diR2, diL, diT, diS, dname, dapp, dappPop, dlenO, dixO, dretO, dSl, donone, dosome, dyes, dfv, dm1, fJoin, fIndex, fListF, fSortT, dRev, dIn, dNotIn, difE, fMax, fMin, fStr, fList, dseq, dif, dret, dretN, dretF, dretO, dasg, dasgO, dexpr, dnext, dop, dopF, dk, dvar, dcons, dnil, dlst, dflst, dtup, dIx, dI0, dII, dB0, dtest, dtruth, dand, dor, dnot, dcb, dcbF, dcall, dcallF, dixS, dsetS, dinS, difS, fLen, fInt, fAbs, endD, scD, SOK, dEq, dNe, eqv_int, eqv_str, eqv_bl, beq_iff_eq, decide_eq_true_eq, Bool.not_eq_true, Bool.not_eq_true', true_and, and_true, and_self, false_and, and_false, reduceCtorEq, true_or, or_true, true_implies, if_true, if_false, Bool.false_eq_true, not_false_eq_true, dAdd, dMul, dAddF, List.getElem?_cons_zero, List.getElem?_cons_succ, List.set_cons_zero, List.set_cons_succ, eq_self, draise0, draiseN, ddead, fGcd, fSum, diV, dgtup, dgcons, dgnil, dasgG, dNeg, dmut, dseti, dlenO, dixO, difE, dandV, dorV, dnotV, dchain, dIsN, dNotN, dMul, dAdd, start_def, List.map_cons, List.map_nil, List.length_cons, List.length_nil, List.replicate_succ, List.replicate_zero, List.cons_append, List.nil_append, Nat.reduceAdd, Nat.reduceSub, Nat.reduceLeDiff, Nb.LINE, isi_non_int, isi_non_bool, isi_non_str, isi_non_tuple, isi_non_list, isi_bl_int, isi_bl_bool, isi_bl_str, isi_bl_tuple, isi_bl_list, isi_int_int, isi_int_bool, isi_int_str, isi_int_tuple, isi_int_list, isi_str_int, isi_str_bool, isi_str_str, isi_str_tuple, isi_str_list, isi_tup_int, isi_tup_bool, isi_tup_str, isi_tup_tuple, isi_tup_list, isi_lst_int, isi_lst_bool, isi_lst_str, isi_lst_tuple, isi_lst_list, isi_dct_int, isi_dct_bool, isi_dct_str, isi_dct_tuple, isi_dct_list, ddct0, dint, fTuple, fListF, fList, pow10_iff, Int.reduceLE, Int.reduceLT, Int.reduceToNat]
            exact ⟨es[i], Nb.atI_nat hi2, es[i], Nb.atI_nat hi2, es[i], rfl, hes _ (List.getElem_mem hi2), _, _, _, rfl, .inr rfl, rfl⟩
        · rintro env' ⟨a, b, x, rfl, ha, rfl⟩
          exact hq
@[irreducible] def S__law_same : DSp := R__law_same 4
theorem same_of {d : D} {Q : D → Prop} {E : Ex → Prop} (h : Pl 3 d) (hq : Q (.bl true)) : S__law_same [d, d] Q E := by
  unfold S__law_same
  exact ⟨d, rfl, h, hq⟩
theorem Pl.mono {n : Nat} : ∀ {d : D}, Pl n d → Pl (n + 1) d := by
  induction n with
  | zero => exact fun h => .inl h
  | succ n ih =>
    intro d h
    rcases h with h | ⟨es, h1, h2, h3⟩
    · exact .inl h
    · exact .inr ⟨es, h1, h2, fun e he => ih (h3 e he)⟩
theorem Pl.flat {n : Nat} {d : D} (h : flatD d = true) : Pl n d := by
  cases n with
  | zero => exact h
  | succ n => exact .inl h
theorem Pl.tup {n : Nat} {es : List D} (hl : es.length ≤ 1000000) (h : ∀ e ∈ es, Pl n e) : Pl (n + 1) (.tup es) := .inr ⟨es, .inl rfl, hl, h⟩
theorem Pl.lst {n : Nat} {es : List D} (hl : es.length ≤ 1000000) (h : ∀ e ∈ es, Pl n e) : Pl (n + 1) (.lst es) := .inr ⟨es, .inr rfl, hl, h⟩
theorem Pl.fr (n : Nat) (q : Rat) : Pl (n + 1) (Nb.fr q) := Pl.tup (by show 2 ≤ 1000000; decide) fun e he => by
  rcases List.mem_cons.mp he with rfl | he
  · exact Pl.flat rfl
  · rw [List.mem_singleton.mp he]
    exact Pl.flat rfl
end
end LW
set_option maxRecDepth 100000
set_option maxHeartbeats 4000000
namespace LW
open PySem PySem.Spec PyProof.Rows L2 Nb TL
section
variable {P : Program} {w : World} {K : PySem.W.Frag} {mg : Str → Option Value} {base : Heap}
/-- what is no number, as these laws draw it -/
structure NoNum (d : D) : Prop where
  chk : ChkOk d
  num : numD d = none
  pl : Pl 2 d
end
end LW
set_option maxRecDepth 100000
set_option maxHeartbeats 4000000
namespace LW
open PySem PySem.Spec PyProof.Rows L2 Nb TL
section
variable {P : Program} {w : World} {K : PySem.W.Frag} {mg : Str → Option Value} {base : Heap}
theorem ifn {c : Prop} {i : Decidable c} {a b : Prop} (h : ¬c) (k : b) : @ite Prop c i a b := by rw [if_neg h]; exact k
theorem ifp {c : Prop} {i : Decidable c} {a b : Prop} (h : c) (k : a) : @ite Prop c i a b := by rw [if_pos h]; exact k
/-! ### answers and numbers in any form -/
/-- the integers below and above -/
def lo (q : Rat) : Int := q.num / (q.den : Int)
def hi (q : Rat) : Int := -(-q.num / (q.den : Int))
/-- what is no number -/
structure NoN (d : D) : Prop where
  chk : ChkOk d
  num : numD d = none
theorem NoNum.non {d : D} (h : NoNum d) : NoN d := ⟨h.chk, h.num⟩
end
end LW
set_option maxRecDepth 100000
set_option maxHeartbeats 4000000
namespace LW
open PySem PySem.Spec PyProof.Rows L2 Nb TL
section
variable {P : Program} {w : World} {K : PySem.W.Frag} {mg : Str → Option Value} {base : Heap}
abbrev s__law_spoil : Stmt := top 35
theorem sc__law_spoil : FnScope ["thing", "depth", "k"] ["thing", "depth"] (defScope s__law_spoil) := ⟨rfl, rfl, rfl, by decide +kernel, rfl, by decide +kernel, by decide +kernel⟩
/-- a flat thing is left as it is -/
def S__law_spoil : DSp := fun ds Q E => ∃ d, ds = [d, .int 0] ∧ d.flat = true ∧ Q .non
theorem len__law_spoil {ds : List D} {Q : D → Prop} {E : Ex → Prop} (h : S__law_spoil ds Q E) : ds.length = 2 := by obtain ⟨n, h, _⟩ := h; rw [h]; rfl
theorem ok__law_spoil0 (T : Txt P K mg) {f : Addr} {fd : FuncData} (F : Fun K "_law_spoil" "_law_spoil" s__law_spoil f fd) : FnOk P w K mg base (L2N.CX P w) 1 f fd ["thing", "depth"] (spD K mg false S__law_spoil) := by
  refine fn_ok F sc__law_spoil (fun ds Qd Ed h => len__law_spoil h) (fun cdv Ar outer s H E R M ds Qd Ed hr hK hm h0 h => ?_)
  subst hK hm
  refine ⟨_, (gss_cons (gs_if (GW.t (gw_and (gt_c cm_gt (ge_var (pv 1)) ge_int) (gw_and1 gt_dead))) (gss_one gs_dead) gss_nil)
    (gss_one (gs_if (gt_val (ge_blt (b_isi) (by rfl) T.isinstance PyProof.Rows.boot_isinstance (gl_cons (ge_var (pv 0)) (gl_cons (ge_tyc (n := "list") (by rfl) T.list) gl_nil)))) (gss_cons gs_dead (gss_one gs_dead)) gss_nil))), ?_⟩
  obtain ⟨d, rfl, hf, hq⟩ := h
  cases d <;> first | (cases hf; done) | skip
  all_goals
    simp (decide := true) only [↓reduceIte, disX, dxf, dcallQ, dcallQF, eqv_strs, sgnD_eq, draise1, fAll, diR1, diR2, diL, diT, diS, dname, dapp, dappPop, dlenO, dixO, dretO, dSl, donone, dosome, dyes, dfv, dm1, fJoin, fIndex, fListF, fSortT, dRev, dIn, dNotIn, difE, fMax, fMin, fStr, fList, dseq, dif, dret, dretN, dretF, dretO, dasg, dasgO, dexpr, dnext, dop, dopF, dk, dvar, dcons, dnil, dlst, dflst, dtup, dIx, dI0, dII, dB0, dtest, dtruth, dand, dor, dnot, dcb, dcbF, dcall, dcallF, dixS, dsetS, dinS, difS, fLen, fInt, fAbs, endD, scD, SOK, dEq, dNe, eqv_int, eqv_str, eqv_bl, beq_iff_eq, decide_eq_true_eq, Bool.not_eq_true, Bool.not_eq_true', true_and, and_true, and_self, false_and, and_false, reduceCtorEq, true_or, or_true, true_implies, if_true, if_false, Bool.false_eq_true, not_false_eq_true, dAdd, dMul, dAddF, List.getElem?_cons_zero, List.getElem?_cons_succ, List.set_cons_zero, List.set_cons_succ, eq_self, draise0, draiseN, ddead, fGcd, fSum, diV, dgtup, dgcons, dgnil, dasgG, dNeg, dmut, dseti, dlenO, dixO, difE, dandV, dorV, dnotV, dchain, dIsN, dNotN, dMul, dAdd, start_def, List.map_cons, List.map_nil, List.length_cons, List.length_nil, List.replicate_succ, List.replicate_zero, List.cons_append, List.nil_append, Nat.reduceAdd, Nat.reduceSub, Nat.reduceLeDiff, Nb.LINE, isi_non_int, isi_non_bool, isi_non_str, isi_non_tuple, isi_non_list, isi_bl_int, isi_bl_bool, isi_bl_str, isi_bl_tuple, isi_bl_list, isi_int_int, isi_int_bool, isi_int_str, isi_int_tuple, isi_int_list, isi_str_int, isi_str_bool, isi_str_str, isi_str_tuple, isi_str_list, isi_tup_int, isi_tup_bool, isi_tup_str, isi_tup_tuple, isi_tup_list, isi_lst_int, isi_lst_bool, isi_lst_str, isi_lst_tuple, isi_lst_list, isi_dct_int, isi_dct_bool, isi_dct_str, isi_dct_tuple, isi_dct_list, ddct0, dint, fTuple, fListF, fList, pow10_iff, Int.reduceLE, Int.reduceLT, Int.reduceToNat]
    exact hq
theorem ok__law_spoil (T : Txt P K mg) (h0 : Has P w K mg base "_law_spoil" 1 false S__law_spoil) {f : Addr} {fd : FuncData} (F : Fun K "_law_spoil" "_law_spoil" s__law_spoil f fd) : FnOk P w K mg base (L2N.CX P w) 2 f fd ["thing", "depth"] spSp := by
  refine fn_okSp F sc__law_spoil (fun cdv Ar outer s H E A ds hr hK hm hx0 hfr hf hl => ?_)
  refine ⟨_, (gss_cons (gs_if (gt_bor (i := 0) (GW.t (gw_and (gt_c cm_gt (ge_var (pv 1)) ge_int) (gw_and1 (gt_val (ge_isi2 hK T.list T.tuple T.isinstance (ge_var (pv 0)))))))) (gss_one (gs_for (passes_of rfl) (by rfl) (gi_rng1 (by rfl) T.range (gl_cons (ge_lenO (pv 0) (by rfl) T.len) gl_nil)) (gg_name (i := 2) sc__law_spoil.nd rfl (by first | exact Or.inl rfl | exact Or.inr rfl)) (gss_one (gs_expr (ge_call (Has.call h0 (hr.mono (by decide)) (L2N.takes_of rfl rfl rfl rfl)) (gl_cons (ge_ixO (pv 0) (ge_var (pv 2))) (gl_cons (ge_subI (ge_var (pv 1)) ge_int) gl_nil)) hx0 (hK := hK) (hm := hm)))))) gss_nil)
    (gss_one (gs_if (gt_bor (i := 0) (gt_val (ge_blt (b_isi (hK := hK)) (by rfl) T.isinstance PyProof.Rows.boot_isinstance (gl_cons (ge_var (pv 0)) (gl_cons (ge_tyc (n := "list") (by rfl) T.list) gl_nil))))) (gss_cons (gs_rev (pv 0)) (gss_one (gs_app (pv 0) ge_non))) gss_nil))), ?_⟩
  have hL : (LINE : Nat) = 16777216 := rfl
  have e1 : kitB "list" "list" = some true := by decide +kernel
  have e2 : kitB "list" "tuple" = some false := by decide +kernel
  simp (decide := true) only [dbor, disi2, D.tyn, Option.some.injEq, exists_eq_left', e1, e2, Bool.true_or, ↓reduceIte, disX, dxf, dcallQ, dcallQF, eqv_strs, sgnD_eq, draise1, fAll, diR1, diR2, diL, diT, diS, dname, dapp, dappPop, dlenO, dixO, dretO, dSl, donone, dosome, dyes, dfv, dm1, fJoin, fIndex, fListF, fSortT, dRev, dIn, dNotIn, difE, fMax, fMin, fStr, fList, dseq, dif, dret, dretN, dretF, dretO, dasg, dasgO, dexpr, dnext, dop, dopF, dk, dvar, dcons, dnil, dlst, dflst, dtup, dIx, dI0, dII, dB0, dtest, dtruth, dand, dor, dnot, dcb, dcbF, dcall, dcallF, dixS, dsetS, dinS, difS, fLen, fInt, fAbs, endD, scD, SOK, dEq, dNe, eqv_int, eqv_str, eqv_bl, beq_iff_eq, decide_eq_true_eq, Bool.not_eq_true, Bool.not_eq_true', true_and, and_true, and_self, false_and, and_false, reduceCtorEq, true_or, or_true, true_implies, if_true, if_false, Bool.false_eq_true, not_false_eq_true, dAdd, dMul, dAddF, List.getElem?_cons_zero, List.getElem?_cons_succ, List.set_cons_zero, List.set_cons_succ, eq_self, draise0, draiseN, ddead, fGcd, fSum, diV, dgtup, dgcons, dgnil, dasgG, dNeg, dmut, dseti, dlenO, dixO, difE, dandV, dorV, dnotV, dchain, dIsN, dNotN, dMul, dAdd, start_def, List.map_cons, List.map_nil, List.length_cons, List.length_nil, List.replicate_succ, List.replicate_zero, List.cons_append, List.nil_append, Nat.reduceAdd, Nat.reduceSub, Nat.reduceLeDiff, Nb.LINE, isi_non_int, isi_non_bool, isi_non_str, isi_non_tuple, isi_non_list, isi_bl_int, isi_bl_bool, isi_bl_str, isi_bl_tuple, isi_bl_list, isi_int_int, isi_int_bool, isi_int_str, isi_int_tuple, isi_int_list, isi_str_int, isi_str_bool, isi_str_str, isi_str_tuple, isi_str_list, isi_tup_int, isi_tup_bool, isi_tup_str, isi_tup_tuple, isi_tup_list, isi_lst_int, isi_lst_bool, isi_lst_str, isi_lst_tuple, isi_lst_list, isi_dct_int, isi_dct_bool, isi_dct_str, isi_dct_tuple, isi_dct_list, ddct0, dint, fTuple, fListF, fList, pow10_iff, Int.reduceLE, Int.reduceLT, Int.reduceToNat]
  refine ⟨"list", true, false, rfl, e1, e2, ifp rfl ?_⟩
  refine for_r1 (n := ds.length) (fun _ env => ∃ x, env = [.own ds, .val (.int 1), x]) (by exact fun _ _ h => h) (by omega) (by omega) ⟨.un, rfl⟩ ?_ ?_
  · rintro i env' hi ⟨x, rfl⟩
    have hi : i < ds.length := by omega
    exact ⟨ds[i], Nb.atI_nat hi, ds[i], rfl, hf _ (List.getElem_mem hi), _, rfl⟩
  · rintro env' ⟨x, rfl⟩
    refine ⟨"list", true, rfl, e1, ifp rfl ?_⟩
    show ds.reverse.length < 16777216
    rw [List.length_reverse]
    omega
end
end LW
set_option maxRecDepth 100000
set_option maxHeartbeats 4000000
namespace LW
open PySem PySem.Spec PyProof.Rows L2 Nb TL
section
variable {P : Program} {w : World} {K : PySem.W.Frag} {mg : Str → Option Value} {base : Heap}
/-- b: at the start, or behind a blank -/
def gl : Bool → List Nat → Bool
  | b, [] => !b
  | b, c :: l => if c = 32 then !b && gl true l else gl false l
theorem gl_free : ∀ (p r : List Nat) (b : Bool), 32 ∉ p → gl b (p ++ r) = gl (if p.isEmpty = true then b else false) r
  | [], r, b, _ => rfl
  | c :: p, r, b, h => by
    have hc : c ≠ 32 := fun z => h (by rw [z]; exact List.mem_cons_self ..)
    show (if c = 32 then _ else gl false (p ++ r)) = _
    rw [if_neg hc, gl_free p r false fun z => h (List.mem_cons_of_mem _ z)]
    show gl (if p.isEmpty = true then false else false) r = gl false r
    split <;> rfl
theorem gl_join : ∀ (ps : List (List Nat)), ps ≠ [] → (∀ p ∈ ps, 32 ∉ p) → (gl true (joinL [32] ps) = true ↔ ([] : List Nat) ∉ ps)
  | [], h, _ => absurd rfl h
  | [p], _, hf => by
    have e := gl_free p [] true (hf p (List.mem_singleton.mpr rfl))
    rw [List.append_nil] at e
    show gl true p = true ↔ _
    rw [e]
    cases p with
    | nil => exact ⟨fun z => (by cases z), fun z => absurd (List.mem_singleton.mpr rfl) z⟩
    | cons c p => exact ⟨fun _ z => (by cases List.mem_singleton.mp z), fun _ => rfl⟩
  | p :: q :: r, _, hf => by
    show gl true (p ++ (32 :: joinL [32] (q :: r))) = true ↔ _
    rw [gl_free p _ true (hf p (List.mem_cons_self ..))]
    have ih := gl_join (q :: r) (by simp) fun z hz => hf z (List.mem_cons_of_mem _ hz)
    cases p with
    | nil => exact ⟨fun z => (by cases z), fun z => absurd (List.mem_cons_self ..) z⟩
    | cons c p =>
      show gl true (joinL [32] (q :: r)) = true ↔ _
      rw [ih]
      constructor
      · intro h z
        rcases List.mem_cons.mp z with z | z
        · cases z
        · exact h z
      · exact fun h z => h (List.mem_cons_of_mem _ z)
theorem spc : (" " : Str) = ⟨#[32]⟩ := by decide +kernel
theorem tl_spc : tl (" " : Str) = [32] := by rw [spc]
theorem split_ne (t : Str) : Txt.split t " " ≠ [] := fun z => by
  have := PyProof.Rows.split_pos t " "
  rw [z] at this
  exact absurd this (by decide)
theorem split_gl (t : Str) : gl true (tl t) = true ↔ ("" : Str) ∉ Txt.split t " " := by
  have e1 : tl t = joinL [32] ((Txt.split t " ").map tl) := by
    have := congrArg tl (StrLaws.join_split t " ")
    rw [tl_join, tl_spc] at this
    exact this.symm
  have e2 := gl_join ((Txt.split t " ").map tl) (fun z => split_ne t (List.map_eq_nil_iff.mp z)) fun p hp => by
    obtain ⟨x, hx, rfl⟩ := List.mem_map.mp hp
    rw [spc] at hx
    exact StrLaws.split_free t 32 x hx
  rw [← e1] at e2
  rw [e2]
  constructor
  · exact fun h z => h (List.mem_map.mpr ⟨"", z, tl_nil⟩)
  · intro h z
    obtain ⟨x, hx, ex⟩ := List.mem_map.mp z
    have : x = "" := ext_tl (by rw [ex, tl_nil])
    rw [this] at hx
    exact h hx
/-- the other reading of a bad line -/
theorem gl_iff : ∀ (l : List Nat) (b : Bool), gl b l = true ↔ (¬ (b = true ∧ l = []) ∧ ¬ (b = true ∧ l[0]? = some 32) ∧ ¬ l.getLast? = some 32 ∧ ¬ ∃ i, l[i]? = some 32 ∧ l[i + 1]? = some 32)
  | [], b => by cases b <;> simp [gl]
  | c :: l, b => by
    unfold gl
    by_cases hc : c = 32
    · subst hc
      rw [if_pos rfl, Bool.and_eq_true, gl_iff l true]
      constructor
      · rintro ⟨hb, h1, h2, h3, h4⟩
        have hb : b = false := by cases b with
          | false => rfl
          | true => cases hb
        subst hb
        refine ⟨by simp, by simp, ?_, ?_⟩
        · cases l with
          | nil => exact absurd ⟨rfl, rfl⟩ h1
          | cons d m => rw [List.getLast?_cons_cons]; exact h3
        · rintro ⟨i, i1, i2⟩
          match i with
          | 0 => exact h2 ⟨rfl, i2⟩
          | i + 1 => exact h4 ⟨i, i1, i2⟩
      · rintro ⟨h1, h2, h3, h4⟩
        have hb : b = false := by
          cases b with
          | false => rfl
          | true => exact absurd ⟨rfl, rfl⟩ h2
        subst hb
        refine ⟨rfl, fun z => ?_, fun z => h4 ⟨0, rfl, z.2⟩, fun z => ?_, fun ⟨i, i1, i2⟩ => h4 ⟨i + 1, i1, i2⟩⟩
        · rw [z.2] at h3
          exact h3 rfl
        · cases l with
          | nil => cases z
          | cons d m => exact h3 (by rw [List.getLast?_cons_cons]; exact z)
    · rw [if_neg hc, gl_iff l false]
      constructor
      · rintro ⟨h1, h2, h3, h4⟩
        refine ⟨by simp, fun z => hc (by simpa using z.2), ?_, ?_⟩
        · cases l with
          | nil => intro z; exact hc (by simpa using z)
          | cons d m => rw [List.getLast?_cons_cons]; exact h3
        · rintro ⟨i, i1, i2⟩
          match i with
          | 0 => exact hc (by simpa using i1)
          | i + 1 => exact h4 ⟨i, i1, i2⟩
      · rintro ⟨h1, h2, h3, h4⟩
        refine ⟨by simp, by simp, fun z => ?_, fun ⟨i, i1, i2⟩ => h4 ⟨i + 1, i1, i2⟩⟩
        cases l with
        | nil => cases z
        | cons d m => exact h3 (by rw [List.getLast?_cons_cons]; exact z)
/-- two blanks -/
theorem two_spc (t : Str) : hasS "  " t = true ↔ ∃ i, (tl t)[i]? = some 32 ∧ (tl t)[i + 1]? = some 32 := by
  have e2 : tl ("  " : Str) = [32, 32] := by rw [show ("  " : Str) = ⟨#[32, 32]⟩ by decide +kernel]
  have key := PySem.StrLaws.found_iff t "  "
  show (!(Builtin.Str.occurrences t "  " 0 t.length 1).isEmpty) = true ↔ _
  rw [key]
  have pr : ∀ i, pre [32, 32] ((tl t).drop i) = true ↔ (tl t)[i]? = some 32 ∧ (tl t)[i + 1]? = some 32 := fun i => by
    have d0 : (tl t)[i]? = ((tl t).drop i)[0]? := by rw [List.getElem?_drop]; rfl
    have d1 : (tl t)[i + 1]? = ((tl t).drop i)[1]? := by rw [List.getElem?_drop]
    rw [d0, d1]
    show ((((tl t).drop i).take 2 == [32, 32]) = true) ↔ _
    rw [beq_iff_eq]
    match (tl t).drop i with
    | [] => simp
    | [a] => simp
    | a :: b :: l => simp
  constructor
  · rintro ⟨i, h1, h2⟩
    have := (at_iff (x := t) (y := "  ") (by rw [e2]; simp) i).mp ⟨h1, h2⟩
    rw [e2] at this
    exact ⟨i, (pr i).mp this⟩
  · rintro ⟨i, h⟩
    have h := (pr i).mpr h
    rw [← e2] at h
    obtain ⟨h1, h2⟩ := (at_iff (x := t) (y := "  ") (by rw [e2]; simp) i).mpr h
    exact ⟨i, h1, h2⟩
/-- strip -/
theorem strip_nil (a b : Str) : Txt.stripChars a b = "" ↔ ∀ c ∈ tl a, c ∈ tl b := by
  have lo := PyProof.Rows.lo_facts b.cps.contains a
  have hi := PyProof.Rows.hi_facts b.cps.contains a (stripLo b.cps.contains true a) lo.1
  have e : Txt.stripChars a b = Builtin.Str.strSub a (stripLo b.cps.contains true a) (stripHi b.cps.contains true a (stripLo b.cps.contains true a)) := PyProof.Rows.stripBy_eq _ _ _ _
  rw [e]
  generalize stripHi b.cps.contains true a (stripLo b.cps.contains true a) = y at hi ⊢
  generalize stripLo b.cps.contains true a = x at lo hi ⊢
  obtain ⟨l1, l2, l3⟩ := lo
  obtain ⟨g1, g2, g3, g4⟩ := hi
  have la := len_tl a
  have at_ : ∀ k (h : k < (tl a).length), (b.cps.contains (a.cps.getD k 0) = true ↔ (tl a)[k] ∈ tl b) := fun k h => by
    have h' : k < a.cps.size := by rw [← la] at h; exact h
    have e1 : a.cps.getD k 0 = (tl a)[k] := by simp [Array.getD, h']
    rw [e1]
    simp
  have em : Builtin.Str.strSub a x y = "" ↔ y ≤ x := by
    constructor
    · intro z
      have z := congrArg (fun s => (tl s).length) z
      simp only [tl_strSub, tl_nil, List.length_take, List.length_drop, List.length_nil] at z
      omega
    · intro z
      refine ext_tl ?_
      rw [tl_strSub, tl_nil, show y - x = 0 by omega, List.take_zero]
  rw [em]
  constructor
  · intro z c hc
    obtain ⟨k, hk, rfl⟩ := List.mem_iff_getElem.mp hc
    by_cases q : k < x
    · exact (at_ k hk).mp (l2 k q)
    · exact (at_ k hk).mp (g3 k (by omega) (by rw [la]; exact hk))
  · intro h
    rcases l3 with l3 | l3
    · omega
    · by_cases q : x < (tl a).length
      · rw [(at_ x q).mpr (h _ (List.getElem_mem q))] at l3
        cases l3
      · omega
theorem okX_cases {n : Str} (h : okX n) : n = "BadName" ∨ n = "BadText" := by
  unfold okX at h
  simpa using h
abbrev s__law_bare : Stmt := top 37
theorem sc__law_bare : FnScope ["e", "found"] ["e"] (defScope s__law_bare) := ⟨rfl, rfl, rfl, by decide +kernel, rfl, by decide +kernel, by decide +kernel⟩
def S__law_bare : DSp := fun ds Q E => ∃ n fs, ds = [.exc n fs] ∧ okX n ∧ Q (.lst [])
theorem len__law_bare {ds : List D} {Q : D → Prop} {E : Ex → Prop} (h : S__law_bare ds Q E) : ds.length = 1 := by obtain ⟨g, _, h, _⟩ := h; rw [h]; rfl
theorem ok__law_bare (T : Txt P K mg) {f : Addr} {fd : FuncData} (F : Fun K "_law_bare" "_law_bare" s__law_bare f fd) : FnQ P w K mg base 1 f fd ["e"] true S__law_bare := by
  refine fnq_ok F sc__law_bare (fun ds Qd Ed h => len__law_bare h) (fun cdv Ar outer s H E R M ds Qd p C d hr hK hm hx hz hw hh h => ?_)
  subst hK hm
  refine ⟨_, (gss_cons (gs_asgO (i := 1) (gf_lst gl_nil) sc__law_bare.nd rfl (by first | exact Or.inl rfl | exact Or.inr rfl))
    (gss_cons (gs_if (gt_val (ge_isC hx (ExcAt.pin hz hw hh) T.kinds T.i_BadNumber T.isinstance (ge_var (pv 0)))) (gss_one (gs_app (pv 1) (ge_tup (gl_cons ge_str gl_nil)))) gss_nil)
    (gss_cons (gs_if (gt_val (ge_isC hx (ExcAt.pin hz hw hh) T.kinds T.i_DivisionByZero T.isinstance (ge_var (pv 0)))) (gss_one (gs_app (pv 1) (ge_tup (gl_cons ge_str gl_nil)))) gss_nil)
    (gss_cons (gs_if (gt_val (ge_isC hx (ExcAt.pin hz hw hh) T.kinds T.i_BadWeight T.isinstance (ge_var (pv 0)))) (gss_one (gs_app (pv 1) (ge_tup (gl_cons ge_str gl_nil)))) gss_nil)
    (gss_cons (gs_if (gt_val (ge_isC hx (ExcAt.pin hz hw hh) T.kinds T.i_Mismatch T.isinstance (ge_var (pv 0)))) (gss_one (gs_app (pv 1) (ge_tup (gl_cons ge_str gl_nil)))) gss_nil)
    (gss_cons (gs_if (gt_val (ge_isC hx (ExcAt.pin hz hw hh) T.kinds T.i_NoHelper T.isinstance (ge_var (pv 0)))) (gss_one (gs_app (pv 1) (ge_tup (gl_cons ge_str gl_nil)))) gss_nil)
    (gss_cons (gs_if (gt_val (ge_isC hx (ExcAt.pin hz hw hh) T.kinds T.i_GameOver T.isinstance (ge_var (pv 0)))) (gss_one (gs_app (pv 1) (ge_tup (gl_cons ge_str gl_nil)))) gss_nil)
    (gss_cons (gs_if (gt_val (ge_isC hx (ExcAt.pin hz hw hh) T.kinds T.i_NothingToTakeBack T.isinstance (ge_var (pv 0)))) (gss_one (gs_app (pv 1) (ge_tup (gl_cons ge_str gl_nil)))) gss_nil)
    (gss_one (gs_retO (pv 1))))))))))), ?_⟩
  obtain ⟨n, fs, rfl, hn, hq⟩ := h
  have hok := hn
  rcases okX_cases hn with rfl | rfl
  all_goals
    simp (decide := true) only [hok, disX, dxf, dapp, ↓reduceIte, disX, dxf, dcallQ, dcallQF, eqv_strs, sgnD_eq, draise1, fAll, diR1, diR2, diL, diT, diS, dname, dapp, dappPop, dlenO, dixO, dretO, dSl, donone, dosome, dyes, dfv, dm1, fJoin, fIndex, fListF, fSortT, dRev, dIn, dNotIn, difE, fMax, fMin, fStr, fList, dseq, dif, dret, dretN, dretF, dretO, dasg, dasgO, dexpr, dnext, dop, dopF, dk, dvar, dcons, dnil, dlst, dflst, dtup, dIx, dI0, dII, dB0, dtest, dtruth, dand, dor, dnot, dcb, dcbF, dcall, dcallF, dixS, dsetS, dinS, difS, fLen, fInt, fAbs, endD, scD, SOK, dEq, dNe, eqv_int, eqv_str, eqv_bl, beq_iff_eq, decide_eq_true_eq, Bool.not_eq_true, Bool.not_eq_true', true_and, and_true, and_self, false_and, and_false, reduceCtorEq, true_or, or_true, true_implies, if_true, if_false, Bool.false_eq_true, not_false_eq_true, dAdd, dMul, dAddF, List.getElem?_cons_zero, List.getElem?_cons_succ, List.set_cons_zero, List.set_cons_succ, eq_self, draise0, draiseN, ddead, fGcd, fSum, diV, dgtup, dgcons, dgnil, dasgG, dNeg, dmut, dseti, dlenO, dixO, difE, dandV, dorV, dnotV, dchain, dIsN, dNotN, dMul, dAdd, start_def, List.map_cons, List.map_nil, List.length_cons, List.length_nil, List.replicate_succ, List.replicate_zero, List.cons_append, List.nil_append, Nat.reduceAdd, Nat.reduceSub, Nat.reduceLeDiff, Nb.LINE, isi_non_int, isi_non_bool, isi_non_str, isi_non_tuple, isi_non_list, isi_bl_int, isi_bl_bool, isi_bl_str, isi_bl_tuple, isi_bl_list, isi_int_int, isi_int_bool, isi_int_str, isi_int_tuple, isi_int_list, isi_str_int, isi_str_bool, isi_str_str, isi_str_tuple, isi_str_list, isi_tup_int, isi_tup_bool, isi_tup_str, isi_tup_tuple, isi_tup_list, isi_lst_int, isi_lst_bool, isi_lst_str, isi_lst_tuple, isi_lst_list, isi_dct_int, isi_dct_bool, isi_dct_str, isi_dct_tuple, isi_dct_list, ddct0, dint, fTuple, fListF, fList, pow10_iff, Int.reduceLE, Int.reduceLT, Int.reduceToNat] at hq ⊢
    exact hq
/-- what the law's refusal makes of an exception -/
def RefX (n : Str) (fs : List (Str × D)) (r : D) : Prop := (∃ b, n = "BadName" ∧ fs = ([("found", b)] : List (Str × D)) ∧ r = .tup [.str "BadName", b]) ∨ ∃ b, n = "BadText" ∧ fs = ([("line", b)] : List (Str × D)) ∧ r = .tup [.str "BadText", b]
abbrev s__law_refusal : Stmt := top 36
theorem sc__law_refusal : FnScope ["e", "found"] ["e"] (defScope s__law_refusal) := ⟨rfl, rfl, rfl, by decide +kernel, rfl, by decide +kernel, by decide +kernel⟩
def S__law_refusal : DSp := fun ds Q E => ∃ n fs r, ds = [.exc n fs] ∧ RefX n fs r ∧ Q r
theorem len__law_refusal {ds : List D} {Q : D → Prop} {E : Ex → Prop} (h : S__law_refusal ds Q E) : ds.length = 1 := by obtain ⟨g, _, _, h, _⟩ := h; rw [h]; rfl
theorem ok__law_refusal (T : Txt P K mg) (hq__law_bare : HasQ P w K mg base "_law_bare" 1 true S__law_bare) {f : Addr} {fd : FuncData} (F : Fun K "_law_refusal" "_law_refusal" s__law_refusal f fd) : FnQ P w K mg base 2 f fd ["e"] false S__law_refusal := by
  refine fnq_ok F sc__law_refusal (fun ds Qd Ed h => len__law_refusal h) (fun cdv Ar outer s H E R M ds Qd p C d hr hK hm hx hz hw hh h => ?_)
  subst hK hm
  refine ⟨_, (gss_cons (gs_asgO (i := 1) (gf_callQ hq__law_bare (L2H.RoomH.mono hr (by decide)) hx (ExcAt.pin hz hw hh) (gl_cons (ge_var (pv 0)) gl_nil)) sc__law_refusal.nd rfl (by first | exact Or.inl rfl | exact Or.inr rfl))
    (gss_cons (gs_if (gt_val (ge_isC hx (ExcAt.pin hz hw hh) T.kinds T.i_BadCount T.isinstance (ge_var (pv 0)))) (gss_one (gs_app (pv 1) (ge_tup (gl_cons ge_str (gl_cons (ge_fld hx (ExcAt.pin hz hw hh) T.kinds T.f_found (ge_var (pv 0))) (gl_cons (ge_fld hx (ExcAt.pin hz hw hh) T.kinds T.f_low (ge_var (pv 0))) (gl_cons (ge_fld hx (ExcAt.pin hz hw hh) T.kinds T.f_high (ge_var (pv 0))) gl_nil))))))) gss_nil)
    (gss_cons (gs_if (gt_val (ge_isC hx (ExcAt.pin hz hw hh) T.kinds T.i_BadSize T.isinstance (ge_var (pv 0)))) (gss_one (gs_app (pv 1) (ge_tup (gl_cons ge_str (gl_cons (ge_fld hx (ExcAt.pin hz hw hh) T.kinds T.f_found (ge_var (pv 0))) (gl_cons (ge_fld hx (ExcAt.pin hz hw hh) T.kinds T.f_due (ge_var (pv 0))) gl_nil)))))) gss_nil)
    (gss_cons (gs_if (gt_val (ge_isC hx (ExcAt.pin hz hw hh) T.kinds T.i_BadName T.isinstance (ge_var (pv 0)))) (gss_one (gs_app (pv 1) (ge_tup (gl_cons ge_str (gl_cons (ge_fld hx (ExcAt.pin hz hw hh) T.kinds T.f_found (ge_var (pv 0))) gl_nil))))) gss_nil)
    (gss_cons (gs_if (gt_val (ge_isC hx (ExcAt.pin hz hw hh) T.kinds T.i_BadText T.isinstance (ge_var (pv 0)))) (gss_one (gs_app (pv 1) (ge_tup (gl_cons ge_str (gl_cons (ge_fld hx (ExcAt.pin hz hw hh) T.kinds T.f_line (ge_var (pv 0))) gl_nil))))) gss_nil)
    (gss_cons (gs_if (gt_val (ge_isC hx (ExcAt.pin hz hw hh) T.kinds T.i_BadRow T.isinstance (ge_var (pv 0)))) (gss_one (gs_app (pv 1) (ge_tup (gl_cons ge_str (gl_cons (ge_fld hx (ExcAt.pin hz hw hh) T.kinds T.f_found (ge_var (pv 0))) gl_nil))))) gss_nil)
    (gss_cons (gs_if (gt_val (ge_isC hx (ExcAt.pin hz hw hh) T.kinds T.i_BadShare T.isinstance (ge_var (pv 0)))) (gss_one (gs_app (pv 1) (ge_tup (gl_cons ge_str (gl_cons (ge_fld hx (ExcAt.pin hz hw hh) T.kinds T.f_at (ge_var (pv 0))) gl_nil))))) gss_nil)
    (gss_cons (gs_if (gt_val (ge_isC hx (ExcAt.pin hz hw hh) T.kinds T.i_NotExact T.isinstance (ge_var (pv 0)))) (gss_one (gs_app (pv 1) (ge_tup (gl_cons ge_str (gl_cons (ge_fld hx (ExcAt.pin hz hw hh) T.kinds T.f_beginning (ge_var (pv 0))) gl_nil))))) gss_nil)
    (gss_cons (gs_if (gt_val (ge_isC hx (ExcAt.pin hz hw hh) T.kinds T.i_Lacking T.isinstance (ge_var (pv 0)))) (gss_one (gs_app (pv 1) (ge_tup (gl_cons ge_str (gl_cons (ge_fld hx (ExcAt.pin hz hw hh) T.kinds T.f_amount (ge_var (pv 0))) gl_nil))))) gss_nil)
    (gss_cons (gs_if (gt_val (ge_isC hx (ExcAt.pin hz hw hh) T.kinds T.i_UnknownName T.isinstance (ge_var (pv 0)))) (gss_one (gs_app (pv 1) (ge_tup (gl_cons ge_str (gl_cons (ge_fld hx (ExcAt.pin hz hw hh) T.kinds T.f_name (ge_var (pv 0))) gl_nil))))) gss_nil)
    (gss_cons (gs_if (gt_val (ge_isC hx (ExcAt.pin hz hw hh) T.kinds T.i_TakenName T.isinstance (ge_var (pv 0)))) (gss_one (gs_app (pv 1) (ge_tup (gl_cons ge_str (gl_cons (ge_fld hx (ExcAt.pin hz hw hh) T.kinds T.f_name (ge_var (pv 0))) gl_nil))))) gss_nil)
    (gss_cons (gs_if (gt_val (ge_isC hx (ExcAt.pin hz hw hh) T.kinds T.i_WrongKind T.isinstance (ge_var (pv 0)))) (gss_one (gs_app (pv 1) (ge_tup (gl_cons ge_str (gl_cons (ge_fld hx (ExcAt.pin hz hw hh) T.kinds T.f_name (ge_var (pv 0))) gl_nil))))) gss_nil)
    (gss_cons (gs_if (gt_val (ge_isC hx (ExcAt.pin hz hw hh) T.kinds T.i_InUse T.isinstance (ge_var (pv 0)))) (gss_one (gs_app (pv 1) (ge_tup (gl_cons ge_str (gl_cons (ge_fld hx (ExcAt.pin hz hw hh) T.kinds T.f_name (ge_var (pv 0))) (gl_cons (ge_fld hx (ExcAt.pin hz hw hh) T.kinds T.f_user (ge_var (pv 0))) gl_nil)))))) gss_nil)
    (gss_cons (gs_if (GW.t (gw_or (gt_c (cm_ne (room_unitsH hr)) (ge_lenO (pv 1) (by rfl) T.len) ge_int) (gw_or1 (gt_not (gt_val (ge_isV hx (ExcAt.pin hz hw hh) T.kinds T.v_ValueError T.isinstance T.ValueError (ge_var (pv 0)) (by decide +kernel))))))) (gss_one (gs_ret (ge_tup (gl_cons ge_str (gl_cons (ge_lenO (pv 1) (by rfl) T.len) gl_nil))))) gss_nil)
    (gss_one (gs_ret (ge_ixO (pv 1) ge_int))))))))))))))))), ?_⟩
  obtain ⟨n, fs, r, rfl, hr, hq⟩ := h
  have k2 : okX "BadName" := by unfold okX; decide
  have k3 : okX "BadText" := by unfold okX; decide
  rcases hr with ⟨b, rfl, rfl, rfl⟩ | ⟨b, rfl, rfl, rfl⟩
  all_goals
    refine ⟨_, _, rfl, by assumption, ?_⟩
    simp (decide := true) only [k2, k3, List.lookup, Option.some.injEq, exists_eq_left', ↓reduceIte, disX, dxf, dcallQ, dcallQF, eqv_strs, sgnD_eq, draise1, fAll, diR1, diR2, diL, diT, diS, dname, dapp, dappPop, dlenO, dixO, dretO, dSl, donone, dosome, dyes, dfv, dm1, fJoin, fIndex, fListF, fSortT, dRev, dIn, dNotIn, difE, fMax, fMin, fStr, fList, dseq, dif, dret, dretN, dretF, dretO, dasg, dasgO, dexpr, dnext, dop, dopF, dk, dvar, dcons, dnil, dlst, dflst, dtup, dIx, dI0, dII, dB0, dtest, dtruth, dand, dor, dnot, dcb, dcbF, dcall, dcallF, dixS, dsetS, dinS, difS, fLen, fInt, fAbs, endD, scD, SOK, dEq, dNe, eqv_int, eqv_str, eqv_bl, beq_iff_eq, decide_eq_true_eq, Bool.not_eq_true, Bool.not_eq_true', true_and, and_true, and_self, false_and, and_false, reduceCtorEq, true_or, or_true, true_implies, if_true, if_false, Bool.false_eq_true, not_false_eq_true, dAdd, dMul, dAddF, List.getElem?_cons_zero, List.getElem?_cons_succ, List.set_cons_zero, List.set_cons_succ, eq_self, draise0, draiseN, ddead, fGcd, fSum, diV, dgtup, dgcons, dgnil, dasgG, dNeg, dmut, dseti, dlenO, dixO, difE, dandV, dorV, dnotV, dchain, dIsN, dNotN, dMul, dAdd, start_def, List.map_cons, List.map_nil, List.length_cons, List.length_nil, List.replicate_succ, List.replicate_zero, List.cons_append, List.nil_append, Nat.reduceAdd, Nat.reduceSub, Nat.reduceLeDiff, Nb.LINE, isi_non_int, isi_non_bool, isi_non_str, isi_non_tuple, isi_non_list, isi_bl_int, isi_bl_bool, isi_bl_str, isi_bl_tuple, isi_bl_list, isi_int_int, isi_int_bool, isi_int_str, isi_int_tuple, isi_int_list, isi_str_int, isi_str_bool, isi_str_str, isi_str_tuple, isi_str_list, isi_tup_int, isi_tup_bool, isi_tup_str, isi_tup_tuple, isi_tup_list, isi_lst_int, isi_lst_bool, isi_lst_str, isi_lst_tuple, isi_lst_list, isi_dct_int, isi_dct_bool, isi_dct_str, isi_dct_tuple, isi_dct_list, ddct0, dint, fTuple, fListF, fList, pow10_iff, Int.reduceLE, Int.reduceLT, Int.reduceToNat]
    exact ⟨b, rfl, _, rfl, hq⟩
abbrev s__law_free : Stmt := top 38
theorem sc__law_free : FnScope ["store", "signs", "size", "found", "k"] ["store", "signs", "size"] (defScope s__law_free) := ⟨rfl, rfl, rfl, by decide +kernel, rfl, by decide +kernel, by decide +kernel⟩
def S__law_free : DSp := fun ds Q E => ∃ (g : Str) (n : Int), ds = [.sto, .str g, .int n] ∧ 0 < g.length ∧ g.length ≤ 1000 ∧ (-1000 ≤ n ∧ n ≤ 1000) ∧ ∀ t : Str, t.length = n.toNat → (∀ c ∈ tl t, c ∈ tl g) → Q (.str t)
theorem len__law_free {ds : List D} {Q : D → Prop} {E : Ex → Prop} (h : S__law_free ds Q E) : ds.length = 3 := by obtain ⟨g, n, h, _⟩ := h; rw [h]; rfl
theorem ok__law_free (T : Txt P K mg) (h__law_take : Has P w K mg base "_law_take" 2 false S__law_take) {f : Addr} {fd : FuncData} (F : Fun K "_law_free" "_law_free" s__law_free f fd) : FnOk P w K mg base (L2N.CX P w) 3 f fd ["store", "signs", "size"] (spD K mg false S__law_free) := by
  refine fn_ok F sc__law_free (fun ds Qd Ed h => len__law_free h) (fun cdv Ar outer s H E R M ds Qd Ed hr hK hm h0 h => ?_)
  subst hK hm
  refine ⟨_, (gss_cons (gs_asg (i := 3) ge_str sc__law_free.nd rfl (by first | exact Or.inl rfl | exact Or.inr rfl))
    (gss_cons (gs_for (passes_of rfl) (by rfl) (gi_rng1 (by rfl) T.range (gl_cons (ge_var (pv 2)) gl_nil)) (gg_name (i := 4) sc__law_free.nd rfl (by first | exact Or.inl rfl | exact Or.inr rfl)) (gss_one (gs_asg (i := 3) (ge_add (ge_var (pv 3)) (ge_ix (ge_var (pv 1)) (ge_call (Has.call h__law_take (hr.mono (by decide)) (L2N.takes_of rfl rfl rfl rfl)) (gl_cons (ge_var (pv 0)) (gl_cons (ge_blt (b_len) (by rfl) T.len PySem.boot_len (gl_cons (ge_var (pv 1)) gl_nil)) gl_nil)) h0))) sc__law_free.nd rfl (by first | exact Or.inl rfl | exact Or.inr rfl))))
    (gss_one (gs_ret (ge_var (pv 3)))))), ?_⟩
  obtain ⟨g, n, rfl, h1, h2, h3, hq⟩ := h
  have hL : (LINE : Nat) = 16777216 := rfl
  have e0 : startD ["store", "signs", "size", "found", "k"] [D.sto, .str g, .int n] = [.val .sto, .val (.str g), .val (.int n), .un, .un] := rfl
  refine for_r1 (n := n) (fun i env => ∃ (t : Str) (x : SD), env = [.val .sto, .val (.str g), .val (.int n), .val (.str t), x] ∧ t.length = i ∧ ∀ c ∈ tl t, c ∈ tl g) (by exact fun _ _ h => h) (by omega) (by omega) ⟨"", .un, rfl, rfl, fun c h => (by rw [tl_nil] at h; cases h)⟩ ?_ ?_
  · rintro i env' hi ⟨t, x, rfl, ht, hc⟩
    simp only [S__law_take, ↓reduceIte, disX, dxf, dcallQ, dcallQF, eqv_strs, sgnD_eq, draise1, fAll, diR1, diR2, diL, diT, diS, dname, dapp, dappPop, dlenO, dixO, dretO, dSl, donone, dosome, dyes, dfv, dm1, fJoin, fIndex, fListF, fSortT, dRev, dIn, dNotIn, difE, fMax, fMin, fStr, fList, dseq, dif, dret, dretN, dretF, dretO, dasg, dasgO, dexpr, dnext, dop, dopF, dk, dvar, dcons, dnil, dlst, dflst, dtup, dIx, dI0, dII, dB0, dtest, dtruth, dand, dor, dnot, dcb, dcbF, dcall, dcallF, dixS, dsetS, dinS, difS, fLen, fInt, fAbs, endD, e0, scD, SOK, dEq, dNe, eqv_int, eqv_str, eqv_bl, beq_iff_eq, decide_eq_true_eq, Bool.not_eq_true, Bool.not_eq_true', true_and, and_true, and_self, false_and, and_false, reduceCtorEq, true_or, or_true, true_implies, if_true, if_false, Bool.false_eq_true, not_false_eq_true, dAdd, dMul, dAddF, List.getElem?_cons_zero, List.getElem?_cons_succ, List.set_cons_zero, List.set_cons_succ]
    refine ⟨by omega, _, rfl, by omega, fun z hz1 hz2 => ⟨by omega, ?_⟩⟩
    obtain ⟨c, c1, c2, _⟩ := atI_int (l := tl g) (i := z) hz1 (by rw [← len_tl]; omega)
    refine ⟨c, c1, by rw [ht, len_one]; omega, _, _, rfl, by rw [len_app, ht, len_one], fun y hy => ?_⟩
    rw [tl_append, List.mem_append] at hy
    rcases hy with hy | hy
    · exact hc y hy
    · rw [tl_one, List.mem_singleton] at hy
      rw [hy]
      exact c2
  · rintro env' ⟨t, x, rfl, ht, hc⟩
    exact hq t ht hc
def SM : List Nat := (List.range 26).map fun i => 97 + i
def DGl : List Nat := (List.range 10).map fun i => 48 + i
theorem tl_sm : tl ("abcdefghijklmnopqrstuvwxyz" : Str) = SM := by rw [tl_ofString]; rfl
theorem tl_dg : tl ("0123456789" : Str) = DGl := by rw [tl_ofString]; rfl
def nmB (t : Str) : Bool := decide (1 ≤ t.length ∧ t.length ≤ 12 ∧ (tl t).getD 0 0 ∈ SM ∧ ∀ c ∈ tl t, c ∈ SM ++ DGl)
abbrev s_is_name : Stmt := top 25
theorem sc_is_name : FnScope ["text", "letter"] ["text"] (defScope s_is_name) := ⟨rfl, rfl, rfl, by decide +kernel, rfl, by decide +kernel, by decide +kernel⟩
def S_is_name : DSp := fun ds Q E => ∃ t : Str, ds = [.str t] ∧ t.length ≤ 1000000 ∧ Q (.bl (nmB t))
theorem len_is_name {ds : List D} {Q : D → Prop} {E : Ex → Prop} (h : S_is_name ds Q E) : ds.length = 1 := by obtain ⟨g, h, _⟩ := h; rw [h]; rfl
theorem ok_is_name (T : Txt P K mg) {f : Addr} {fd : FuncData} (F : Fun K "is_name" "is_name" s_is_name f fd) : FnOk P w K mg base (L2N.CX P w) 1 f fd ["text"] (spD K mg false S_is_name) := by
  refine fn_ok F sc_is_name (fun ds Qd Ed h => len_is_name h) (fun cdv Ar outer s H E R M ds Qd Ed hr hK hm h0 h => ?_)
  subst hK hm
  refine ⟨_, (gss_cons (gs_if (GW.t (gw_or (gt_c cm_lt (ge_blt (b_len) (by rfl) T.len PySem.boot_len (gl_cons (ge_var (pv 0)) gl_nil)) ge_int) (gw_or1 (gt_c cm_gt (ge_blt (b_len) (by rfl) T.len PySem.boot_len (gl_cons (ge_var (pv 0)) gl_nil)) (c_LONGEST_NAME T))))) (gss_one (gs_ret ge_bl)) gss_nil)
    (gss_one (gs_ret (ge_and (ge_c cm_in (ge_ix (ge_var (pv 0)) ge_int) (c_SMALL_LETTERS T)) (ge_one (ge_blt (b_all (by rfl)) (by rfl) T.all (by decide +kernel) (gl_cons (GF.e (gf_lc (own := [("letter", 1)]) (js := [1]) (by rfl) sc_is_name.nd (gi_str (ge_var (pv 0))) (by show blkC ["text", "letter"] (defScope s_is_name) _ _ = true; decide +kernel) (by decide) (fun B hB _ _ _ _ _ => gg_name (i := 1) sc_is_name.nd rfl (by first | exact Or.inl rfl | exact Or.inr rfl)) (fun B hB _ _ _ _ _ => gts_nil) (fun B hB _ _ _ _ _ => (ge_c (cm_in (hK := congrArg RC.K hB)) (ge_var (pv 1)) (ge_add (c_SMALL_LETTERS T) (c_DIGITS T) (hK := congrArg RC.K hB)))))) gl_nil))))))), ?_⟩
  obtain ⟨t, rfl, hl, hq⟩ := h
  have hL : (LINE : Nat) = 16777216 := rfl
  have lt := len_tl t
  simp only [↓reduceIte, disX, dxf, dcallQ, dcallQF, eqv_strs, sgnD_eq, draise1, fAll, diR1, diR2, diL, diT, diS, dname, dapp, dappPop, dlenO, dixO, dretO, dSl, donone, dosome, dyes, dfv, dm1, fJoin, fIndex, fListF, fSortT, dRev, dIn, dNotIn, difE, fMax, fMin, fStr, fList, dseq, dif, dret, dretN, dretF, dretO, dasg, dasgO, dexpr, dnext, dop, dopF, dk, dvar, dcons, dnil, dlst, dflst, dtup, dIx, dI0, dII, dB0, dtest, dtruth, dand, dor, dnot, dcb, dcbF, dcall, dcallF, dixS, dsetS, dinS, difS, fLen, fInt, fAbs, endD, scD, SOK, dEq, dNe, eqv_int, eqv_str, eqv_bl, beq_iff_eq, decide_eq_true_eq, Bool.not_eq_true, Bool.not_eq_true', true_and, and_true, and_self, false_and, and_false, reduceCtorEq, true_or, or_true, true_implies, if_true, if_false, Bool.false_eq_true, not_false_eq_true, dAdd, dMul, dAddF, List.getElem?_cons_zero, List.getElem?_cons_succ, List.set_cons_zero, List.set_cons_succ, eq_self, draise0, draiseN, ddead, fGcd, fSum, diV, dgtup, dgcons, dgnil, dasgG, dNeg, dmut, dseti, dlenO, dixO, difE, dandV, dorV, dnotV, dchain, dIsN, dNotN, dMul, dAdd, start_def, List.map_cons, List.map_nil, List.length_cons, List.length_nil, List.replicate_succ, List.replicate_zero, List.cons_append, List.nil_append, Nat.reduceAdd, Nat.reduceSub, Nat.reduceLeDiff, Nb.LINE, isi_non_int, isi_non_bool, isi_non_str, isi_non_tuple, isi_non_list, isi_bl_int, isi_bl_bool, isi_bl_str, isi_bl_tuple, isi_bl_list, isi_int_int, isi_int_bool, isi_int_str, isi_int_tuple, isi_int_list, isi_str_int, isi_str_bool, isi_str_str, isi_str_tuple, isi_str_list, isi_tup_int, isi_tup_bool, isi_tup_str, isi_tup_tuple, isi_tup_list, isi_lst_int, isi_lst_bool, isi_lst_str, isi_lst_tuple, isi_lst_list, isi_dct_int, isi_dct_bool, isi_dct_str, isi_dct_tuple, isi_dct_list, ddct0, dint, fTuple, fListF, fList, pow10_iff, Int.reduceLE, Int.reduceLT, Int.reduceToNat]
  refine ⟨by omega, ?_⟩
  by_cases c1 : (t.length : Int) < 1
  · rw [if_pos c1]
    have : nmB t = false := decide_eq_false fun z => by omega
    rw [← this]
    exact hq
  · rw [if_neg c1]
    refine ⟨by omega, ?_⟩
    by_cases c2 : 12 < (t.length : Int)
    · rw [if_pos c2]
      have : nmB t = false := decide_eq_false fun z => by omega
      rw [← this]
      exact hq
    · rw [if_neg c2]
      have hk : 0 < (tl t).length := by omega
      have g0 : (tl t).getD 0 0 = (tl t)[0] := by rw [List.getD_eq_getElem?_getD, List.getElem?_eq_getElem hk]; rfl
      refine ⟨by omega, (tl t)[0], ?_, ?_⟩
      · have := atI_nat (l := tl t) (k := 0) hk
        exact this
      · rw [hasS_one, tl_sm]
        by_cases c3 : (tl t)[0] ∈ SM
        · rw [decide_eq_true c3, if_pos rfl]
          refine dlc_map (ds := sgnD t) (fun d => match d with
            | .str x => .bl (hasS x ("abcdefghijklmnopqrstuvwxyz" ++ "0123456789"))
            | d => d) (by exact fun _ h => h) (by rw [sgnD_eq, List.length_map]; show (List.map _ (tl t)).length ≤ _; rw [List.length_map]; omega) (fun d hd Q' h => ?_) ?_
          · rw [sgnD_eq] at hd
            obtain ⟨x, _, rfl⟩ := List.mem_map.mp hd
            exact ⟨by show _ ≤ 16777216; decide +kernel, h⟩
          · refine ⟨(tl t).map fun c => decide (c ∈ SM ++ DGl), ?_, ?_⟩
            · rw [sgnD_eq]
              unfold signsS
              rw [List.map_map, List.map_map, List.map_map]
              refine List.map_congr_left fun c _ => ?_
              show D.bl (hasS ⟨#[c]⟩ ("abcdefghijklmnopqrstuvwxyz" ++ "0123456789")) = D.bl (decide (c ∈ SM ++ DGl))
              rw [hasS_one, tl_append, tl_sm, tl_dg]
            · have e : ((tl t).map fun c => decide (c ∈ SM ++ DGl)).all id = nmB t := by
                unfold nmB
                rw [g0, List.all_map, Bool.eq_iff_iff, decide_eq_true_eq, List.all_eq_true]
                constructor
                · exact fun h => ⟨by omega, by omega, c3, fun c hc => of_decide_eq_true (h c hc)⟩
                · exact fun h c hc => decide_eq_true (h.2.2.2 c hc)
              rw [e]
              exact hq
        · rw [decide_eq_false c3, if_neg (by decide)]
          have : nmB t = false := decide_eq_false fun z => c3 (by rw [← g0]; exact z.2.2.1)
          rw [← this]
          exact hq
abbrev s_check_name : Stmt := top 26
theorem sc_check_name : FnScope ["text"] ["text"] (defScope s_check_name) := ⟨rfl, rfl, rfl, by decide +kernel, rfl, by decide +kernel, by decide +kernel⟩
def S_check_name : DSp := fun ds Q E => ∃ t : Str, ds = [.str t] ∧ t.length ≤ 1000000 ∧ (nmB t = true → Q (.str t)) ∧ (nmB t = false → E ("BadName", [("found", .str t)]))
theorem len_check_name {ds : List D} {Q : D → Prop} {E : Ex → Prop} (h : S_check_name ds Q E) : ds.length = 1 := by obtain ⟨g, h, _⟩ := h; rw [h]; rfl
theorem ok_check_name (T : Txt P K mg) (h_is_name : Has P w K mg base "is_name" 1 false S_is_name) {f : Addr} {fd : FuncData} (F : Fun K "check_name" "check_name" s_check_name f fd) : FnOk P w K mg base (L2N.CX P w) 2 f fd ["text"] (spD K mg false S_check_name) := by
  refine fn_ok F sc_check_name (fun ds Qd Ed h => len_check_name h) (fun cdv Ar outer s H E R M ds Qd Ed hr hK hm h0 h => ?_)
  subst hK hm
  refine ⟨_, (gss_cons (gs_if (gt_not (gt_val (ge_call (Has.call h_is_name (hr.mono (by decide)) (L2N.takes_of rfl rfl rfl rfl)) (gl_cons (ge_var (pv 0)) gl_nil) h0))) (gss_one (gs_raiN (k := 1) T.r_BadName (hr.mono (by decide)) (L2N.takes_of rfl rfl rfl rfl) (gl_cons (ge_var (pv 0)) gl_nil))) gss_nil)
    (gss_one (gs_ret (ge_var (pv 0))))), ?_⟩
  obtain ⟨t, rfl, hl, h1, h2⟩ := h
  refine ⟨t, rfl, hl, ?_⟩
  cases hb : nmB t with
  | true =>
    simp only [↓reduceIte, disX, dxf, dcallQ, dcallQF, eqv_strs, sgnD_eq, draise1, fAll, diR1, diR2, diL, diT, diS, dname, dapp, dappPop, dlenO, dixO, dretO, dSl, donone, dosome, dyes, dfv, dm1, fJoin, fIndex, fListF, fSortT, dRev, dIn, dNotIn, difE, fMax, fMin, fStr, fList, dseq, dif, dret, dretN, dretF, dretO, dasg, dasgO, dexpr, dnext, dop, dopF, dk, dvar, dcons, dnil, dlst, dflst, dtup, dIx, dI0, dII, dB0, dtest, dtruth, dand, dor, dnot, dcb, dcbF, dcall, dcallF, dixS, dsetS, dinS, difS, fLen, fInt, fAbs, endD, scD, SOK, dEq, dNe, eqv_int, eqv_str, eqv_bl, beq_iff_eq, decide_eq_true_eq, Bool.not_eq_true, Bool.not_eq_true', true_and, and_true, and_self, false_and, and_false, reduceCtorEq, true_or, or_true, true_implies, if_true, if_false, Bool.false_eq_true, not_false_eq_true, dAdd, dMul, dAddF, List.getElem?_cons_zero, List.getElem?_cons_succ, List.set_cons_zero, List.set_cons_succ, eq_self, draise0, draiseN, ddead, fGcd, fSum, diV, dgtup, dgcons, dgnil, dasgG, dNeg, dmut, dseti, dlenO, dixO, difE, dandV, dorV, dnotV, dchain, dIsN, dNotN, dMul, dAdd, start_def, List.map_cons, List.map_nil, List.length_cons, List.length_nil, List.replicate_succ, List.replicate_zero, List.cons_append, List.nil_append, Nat.reduceAdd, Nat.reduceSub, Nat.reduceLeDiff, Nb.LINE, isi_non_int, isi_non_bool, isi_non_str, isi_non_tuple, isi_non_list, isi_bl_int, isi_bl_bool, isi_bl_str, isi_bl_tuple, isi_bl_list, isi_int_int, isi_int_bool, isi_int_str, isi_int_tuple, isi_int_list, isi_str_int, isi_str_bool, isi_str_str, isi_str_tuple, isi_str_list, isi_tup_int, isi_tup_bool, isi_tup_str, isi_tup_tuple, isi_tup_list, isi_lst_int, isi_lst_bool, isi_lst_str, isi_lst_tuple, isi_lst_list, isi_dct_int, isi_dct_bool, isi_dct_str, isi_dct_tuple, isi_dct_list, ddct0, dint, fTuple, fListF, fList, pow10_iff, Int.reduceLE, Int.reduceLT, Int.reduceToNat]
    exact h1 hb
  | false =>
    simp only [↓reduceIte, disX, dxf, dcallQ, dcallQF, eqv_strs, sgnD_eq, draise1, fAll, diR1, diR2, diL, diT, diS, dname, dapp, dappPop, dlenO, dixO, dretO, dSl, donone, dosome, dyes, dfv, dm1, fJoin, fIndex, fListF, fSortT, dRev, dIn, dNotIn, difE, fMax, fMin, fStr, fList, dseq, dif, dret, dretN, dretF, dretO, dasg, dasgO, dexpr, dnext, dop, dopF, dk, dvar, dcons, dnil, dlst, dflst, dtup, dIx, dI0, dII, dB0, dtest, dtruth, dand, dor, dnot, dcb, dcbF, dcall, dcallF, dixS, dsetS, dinS, difS, fLen, fInt, fAbs, endD, scD, SOK, dEq, dNe, eqv_int, eqv_str, eqv_bl, beq_iff_eq, decide_eq_true_eq, Bool.not_eq_true, Bool.not_eq_true', true_and, and_true, and_self, false_and, and_false, reduceCtorEq, true_or, or_true, true_implies, if_true, if_false, Bool.false_eq_true, not_false_eq_true, dAdd, dMul, dAddF, List.getElem?_cons_zero, List.getElem?_cons_succ, List.set_cons_zero, List.set_cons_succ, eq_self, draise0, draiseN, ddead, fGcd, fSum, diV, dgtup, dgcons, dgnil, dasgG, dNeg, dmut, dseti, dlenO, dixO, difE, dandV, dorV, dnotV, dchain, dIsN, dNotN, dMul, dAdd, start_def, List.map_cons, List.map_nil, List.length_cons, List.length_nil, List.replicate_succ, List.replicate_zero, List.cons_append, List.nil_append, Nat.reduceAdd, Nat.reduceSub, Nat.reduceLeDiff, Nb.LINE, isi_non_int, isi_non_bool, isi_non_str, isi_non_tuple, isi_non_list, isi_bl_int, isi_bl_bool, isi_bl_str, isi_bl_tuple, isi_bl_list, isi_int_int, isi_int_bool, isi_int_str, isi_int_tuple, isi_int_list, isi_str_int, isi_str_bool, isi_str_str, isi_str_tuple, isi_str_list, isi_tup_int, isi_tup_bool, isi_tup_str, isi_tup_tuple, isi_tup_list, isi_lst_int, isi_lst_bool, isi_lst_str, isi_lst_tuple, isi_lst_list, isi_dct_int, isi_dct_bool, isi_dct_str, isi_dct_tuple, isi_dct_list, ddct0, dint, fTuple, fListF, fList, pow10_iff, Int.reduceLE, Int.reduceLT, Int.reduceToNat]
    exact h2 hb
abbrev s_split_line : Stmt := top 27
theorem sc_split_line : FnScope ["line", "words"] ["line"] (defScope s_split_line) := ⟨rfl, rfl, rfl, by decide +kernel, rfl, by decide +kernel, by decide +kernel⟩
def S_split_line : DSp := fun ds Q E => ∃ t : Str, ds = [.str t] ∧ t.length ≤ 1000000 ∧ (t = "" → Q (.lst [])) ∧ (t ≠ "" → gl true (tl t) = true → Q (.lst ((Txt.split t " ").map D.str))) ∧ (t ≠ "" → gl true (tl t) = false → E ("BadText", [("line", .int 1)]))
theorem len_split_line {ds : List D} {Q : D → Prop} {E : Ex → Prop} (h : S_split_line ds Q E) : ds.length = 1 := by obtain ⟨g, h, _⟩ := h; rw [h]; rfl
theorem ok_split_line (T : Txt P K mg) {f : Addr} {fd : FuncData} (F : Fun K "split_line" "split_line" s_split_line f fd) : FnOk P w K mg base (L2N.CX P w) 2 f fd ["line"] (spD K mg false S_split_line) := by
  refine fn_ok F sc_split_line (fun ds Qd Ed h => len_split_line h) (fun cdv Ar outer s H E R M ds Qd Ed hr hK hm h0 h => ?_)
  subst hK hm
  refine ⟨_, (gss_cons (gs_if (gt_c (cm_eq (room_units hr)) (ge_var (pv 0)) ge_str) (gss_one (gs_ret (ge_lst gl_nil))) gss_nil)
    (gss_cons (gs_asg (i := 1) (ge_split (ge_var (pv 0)) ge_str) sc_split_line.nd rfl (by first | exact Or.inl rfl | exact Or.inr rfl))
    (gss_cons (gs_if (gt_c cm_in ge_str (ge_var (pv 1))) (gss_one (gs_raiN (k := 1) T.r_BadText (hr.mono (by decide)) (L2N.takes_of rfl rfl rfl rfl) (gl_cons ge_int gl_nil))) gss_nil)
    (gss_one (gs_ret (ge_var (pv 1))))))), ?_⟩
  obtain ⟨t, rfl, hl, h0, h1, h2⟩ := h
  have hL : (LINE : Nat) = 16777216 := rfl
  simp only [↓reduceIte, disX, dxf, dcallQ, dcallQF, eqv_strs, sgnD_eq, draise1, fAll, diR1, diR2, diL, diT, diS, dname, dapp, dappPop, dlenO, dixO, dretO, dSl, donone, dosome, dyes, dfv, dm1, fJoin, fIndex, fListF, fSortT, dRev, dIn, dNotIn, difE, fMax, fMin, fStr, fList, dseq, dif, dret, dretN, dretF, dretO, dasg, dasgO, dexpr, dnext, dop, dopF, dk, dvar, dcons, dnil, dlst, dflst, dtup, dIx, dI0, dII, dB0, dtest, dtruth, dand, dor, dnot, dcb, dcbF, dcall, dcallF, dixS, dsetS, dinS, difS, fLen, fInt, fAbs, endD, scD, SOK, dEq, dNe, eqv_int, eqv_str, eqv_bl, beq_iff_eq, decide_eq_true_eq, Bool.not_eq_true, Bool.not_eq_true', true_and, and_true, and_self, false_and, and_false, reduceCtorEq, true_or, or_true, true_implies, if_true, if_false, Bool.false_eq_true, not_false_eq_true, dAdd, dMul, dAddF, List.getElem?_cons_zero, List.getElem?_cons_succ, List.set_cons_zero, List.set_cons_succ, eq_self, draise0, draiseN, ddead, fGcd, fSum, diV, dgtup, dgcons, dgnil, dasgG, dNeg, dmut, dseti, dlenO, dixO, difE, dandV, dorV, dnotV, dchain, dIsN, dNotN, dMul, dAdd, start_def, List.map_cons, List.map_nil, List.length_cons, List.length_nil, List.replicate_succ, List.replicate_zero, List.cons_append, List.nil_append, Nat.reduceAdd, Nat.reduceSub, Nat.reduceLeDiff, Nb.LINE, isi_non_int, isi_non_bool, isi_non_str, isi_non_tuple, isi_non_list, isi_bl_int, isi_bl_bool, isi_bl_str, isi_bl_tuple, isi_bl_list, isi_int_int, isi_int_bool, isi_int_str, isi_int_tuple, isi_int_list, isi_str_int, isi_str_bool, isi_str_str, isi_str_tuple, isi_str_list, isi_tup_int, isi_tup_bool, isi_tup_str, isi_tup_tuple, isi_tup_list, isi_lst_int, isi_lst_bool, isi_lst_str, isi_lst_tuple, isi_lst_list, isi_dct_int, isi_dct_bool, isi_dct_str, isi_dct_tuple, isi_dct_list, ddct0, dint, fTuple, fListF, fList, pow10_iff, Int.reduceLE, Int.reduceLT, Int.reduceToNat]
  by_cases c : t = ""
  · rw [if_pos c]
    exact h0 c
  · rw [if_neg c]
    have hin : D.inl (.str "") ((Txt.split t " ").map D.str) = !gl true (tl t) := by
      have e : D.inl (.str "") ((Txt.split t " ").map D.str) = decide (("" : Str) ∈ Txt.split t " ") := by
        unfold D.inl
        rw [Bool.eq_iff_iff, List.any_eq_true, decide_eq_true_eq]
        constructor
        · rintro ⟨d, hd, he⟩
          obtain ⟨x, hx, rfl⟩ := List.mem_map.mp hd
          have he : (x == "") = true := he
          rw [← beq_iff_eq.mp he]
          exact hx
        · exact fun h => ⟨_, List.mem_map.mpr ⟨_, h, rfl⟩, by show (("" : Str) == "") = true; exact beq_self_eq_true _⟩
      rw [e]
      cases hg : gl true (tl t) with
      | true => exact decide_eq_false ((split_gl t).mp hg)
      | false => exact decide_eq_true (Classical.byContradiction fun z => by rw [(split_gl t).mpr z] at hg; cases hg)
    refine ⟨by decide +kernel, by omega, ⟨rfl, ?_⟩, ?_⟩
    · rw [List.all_map, List.all_eq_true]
      exact fun _ _ => rfl
    · rw [hin]
      cases hg : gl true (tl t) with
      | true => exact ifn (by decide) (h1 c hg)
      | false => exact ifp rfl (h2 c hg)
def goodW (w : Str) : Prop := w ≠ "" ∧ 32 ∉ tl w
instance (w : Str) : Decidable (goodW w) := by unfold goodW; infer_instance
abbrev s_join_words : Stmt := top 28
theorem sc_join_words : FnScope ["words", "word"] ["words"] (defScope s_join_words) := ⟨rfl, rfl, rfl, by decide +kernel, rfl, by decide +kernel, by decide +kernel⟩
def S_join_words : DSp := fun ds Q E => ∃ ws : List Str, (ds = [.lst (ws.map D.str)] ∨ ds = [.tup (ws.map D.str)]) ∧ (ws.map (·.length)).sum + ws.length ≤ 1000000 ∧ ((∀ w ∈ ws, goodW w) → Q (.str (Txt.join " " ws))) ∧ ((¬ ∀ w ∈ ws, goodW w) → E ("BadText", [("line", .int 1)]))
theorem len_join_words {ds : List D} {Q : D → Prop} {E : Ex → Prop} (h : S_join_words ds Q E) : ds.length = 1 := by obtain ⟨g, h | h, _⟩ := h <;> (rw [h]; rfl)
theorem ok_join_words (T : Txt P K mg) {f : Addr} {fd : FuncData} (F : Fun K "join_words" "join_words" s_join_words f fd) : FnOk P w K mg base (L2N.CX P w) 2 f fd ["words"] (spD K mg false S_join_words) := by
  refine fn_ok F sc_join_words (fun ds Qd Ed h => len_join_words h) (fun cdv Ar outer s H E R M ds Qd Ed hr hK hm h0 h => ?_)
  subst hK hm
  refine ⟨_, (gss_cons (gs_for (passes_of rfl) (by rfl) (gi_V (pv 0)) (gg_name (i := 1) sc_join_words.nd rfl (by first | exact Or.inl rfl | exact Or.inr rfl)) (gss_one (gs_if (GW.t (gw_or (gt_c (cm_eq (room_units hr)) (ge_var (pv 1)) ge_str) (gw_or1 (gt_c cm_in ge_str (ge_var (pv 1)))))) (gss_one (gs_raiN (k := 1) T.r_BadText (hr.mono (by decide)) (L2N.takes_of rfl rfl rfl rfl) (gl_cons ge_int gl_nil))) gss_nil)))
    (gss_one (gs_ret (ge_join ge_str (ge_var (pv 0)))))), ?_⟩
  obtain ⟨ws, hd, hl, h1, h2⟩ := h
  have hL : (LINE : Nat) = 16777216 := rfl
  have spl : (" " : Str).length = 1 := by decide +kernel
  have step : ∀ (d : D), (d = .lst (ws.map D.str) ∨ d = .tup (ws.map D.str)) → dfor (diV 0) (dname 1)
    (dif
      (dor (dtest (dop dEq (dvar 1) (dk (D.str (Str.ofString "")))))
        (dtest (dop dIn (dk (D.str (Str.ofString " "))) (dvar 1))))
      (draiseN (Str.ofString "BadText") [Str.ofString "line"] (dcons (dk (D.int 1)) dnil)) dnext)
    { nx := fun env' => dret (dm1 fJoin (dk (D.str " ")) (dvar 0)) (endD false Qd Ed) env', rt := (endD false Qd Ed).rt, bk := (endD false Qd Ed).bk, ct := (endD false Qd Ed).ct, ex := (endD false Qd Ed).ex }
    [SD.val d, SD.un] := by
    intro d hd
    refine for_l (ds := ws.map D.str) (fun i env => (∀ w ∈ ws.take i, goodW w) ∧ ∃ x, env = [.val d, x]) (fun Q' E' h => by rcases hd with rfl | rfl <;> exact h) ⟨fun w h => (by cases h), .un, rfl⟩ ?_ ?_
    · rintro i e env' ex ⟨hg, x, rfl⟩
      rw [List.getElem?_map] at ex
      obtain ⟨w, hw, rfl⟩ := Option.map_eq_some_iff.mp ex
      have hm := List.mem_of_getElem? hw
      have bad : ¬ goodW w → Ed ("BadText", [("line", .int 1)]) := fun n => h2 fun z => n (z w hm)
      refine ⟨.inl rfl, ?_⟩
      have e1 : D.eqv (.str w) (.str "") = decide (w = "") := by
        show (w == "") = _
        by_cases c : w = ""
        · rw [c, decide_eq_true rfl]; exact beq_self_eq_true _
        · rw [decide_eq_false c]; exact beq_eq_false_iff_ne.mpr c
      show if D.eqv (.str w) (.str "") = true then _ else _
      rw [e1]
      by_cases c1 : w = ""
      · refine ifp (decide_eq_true c1) ?_
        simp only [↓reduceIte, disX, dxf, dcallQ, dcallQF, eqv_strs, sgnD_eq, draise1, fAll, diR1, diR2, diL, diT, diS, dname, dapp, dappPop, dlenO, dixO, dretO, dSl, donone, dosome, dyes, dfv, dm1, fJoin, fIndex, fListF, fSortT, dRev, dIn, dNotIn, difE, fMax, fMin, fStr, fList, dseq, dif, dret, dretN, dretF, dretO, dasg, dasgO, dexpr, dnext, dop, dopF, dk, dvar, dcons, dnil, dlst, dflst, dtup, dIx, dI0, dII, dB0, dtest, dtruth, dand, dor, dnot, dcb, dcbF, dcall, dcallF, dixS, dsetS, dinS, difS, fLen, fInt, fAbs, endD, scD, SOK, dEq, dNe, eqv_int, eqv_str, eqv_bl, beq_iff_eq, decide_eq_true_eq, Bool.not_eq_true, Bool.not_eq_true', true_and, and_true, and_self, false_and, and_false, reduceCtorEq, true_or, or_true, true_implies, if_true, if_false, Bool.false_eq_true, not_false_eq_true, dAdd, dMul, dAddF, List.getElem?_cons_zero, List.getElem?_cons_succ, List.set_cons_zero, List.set_cons_succ, eq_self, draise0, draiseN, ddead, fGcd, fSum, diV, dgtup, dgcons, dgnil, dasgG, dNeg, dmut, dseti, dlenO, dixO, difE, dandV, dorV, dnotV, dchain, dIsN, dNotN, dMul, dAdd, start_def, List.map_cons, List.map_nil, List.length_cons, List.length_nil, List.replicate_succ, List.replicate_zero, List.cons_append, List.nil_append, Nat.reduceAdd, Nat.reduceSub, Nat.reduceLeDiff, Nb.LINE, isi_non_int, isi_non_bool, isi_non_str, isi_non_tuple, isi_non_list, isi_bl_int, isi_bl_bool, isi_bl_str, isi_bl_tuple, isi_bl_list, isi_int_int, isi_int_bool, isi_int_str, isi_int_tuple, isi_int_list, isi_str_int, isi_str_bool, isi_str_str, isi_str_tuple, isi_str_list, isi_tup_int, isi_tup_bool, isi_tup_str, isi_tup_tuple, isi_tup_list, isi_lst_int, isi_lst_bool, isi_lst_str, isi_lst_tuple, isi_lst_list, isi_dct_int, isi_dct_bool, isi_dct_str, isi_dct_tuple, isi_dct_list, ddct0, dint, fTuple, fListF, fList, pow10_iff, Int.reduceLE, Int.reduceLT, Int.reduceToNat]
        exact bad fun z => z.1 c1
      · refine ifn (fun z => c1 (of_decide_eq_true z)) ?_
        have e2 : hasS " " w = decide (32 ∈ tl w) := by rw [spc]; exact hasS_one w 32
        show if hasS " " w = true then _ else _
        rw [e2]
        by_cases c2 : 32 ∈ tl w
        · refine ifp (decide_eq_true c2) ?_
          simp only [↓reduceIte, disX, dxf, dcallQ, dcallQF, eqv_strs, sgnD_eq, draise1, fAll, diR1, diR2, diL, diT, diS, dname, dapp, dappPop, dlenO, dixO, dretO, dSl, donone, dosome, dyes, dfv, dm1, fJoin, fIndex, fListF, fSortT, dRev, dIn, dNotIn, difE, fMax, fMin, fStr, fList, dseq, dif, dret, dretN, dretF, dretO, dasg, dasgO, dexpr, dnext, dop, dopF, dk, dvar, dcons, dnil, dlst, dflst, dtup, dIx, dI0, dII, dB0, dtest, dtruth, dand, dor, dnot, dcb, dcbF, dcall, dcallF, dixS, dsetS, dinS, difS, fLen, fInt, fAbs, endD, scD, SOK, dEq, dNe, eqv_int, eqv_str, eqv_bl, beq_iff_eq, decide_eq_true_eq, Bool.not_eq_true, Bool.not_eq_true', true_and, and_true, and_self, false_and, and_false, reduceCtorEq, true_or, or_true, true_implies, if_true, if_false, Bool.false_eq_true, not_false_eq_true, dAdd, dMul, dAddF, List.getElem?_cons_zero, List.getElem?_cons_succ, List.set_cons_zero, List.set_cons_succ, eq_self, draise0, draiseN, ddead, fGcd, fSum, diV, dgtup, dgcons, dgnil, dasgG, dNeg, dmut, dseti, dlenO, dixO, difE, dandV, dorV, dnotV, dchain, dIsN, dNotN, dMul, dAdd, start_def, List.map_cons, List.map_nil, List.length_cons, List.length_nil, List.replicate_succ, List.replicate_zero, List.cons_append, List.nil_append, Nat.reduceAdd, Nat.reduceSub, Nat.reduceLeDiff, Nb.LINE, isi_non_int, isi_non_bool, isi_non_str, isi_non_tuple, isi_non_list, isi_bl_int, isi_bl_bool, isi_bl_str, isi_bl_tuple, isi_bl_list, isi_int_int, isi_int_bool, isi_int_str, isi_int_tuple, isi_int_list, isi_str_int, isi_str_bool, isi_str_str, isi_str_tuple, isi_str_list, isi_tup_int, isi_tup_bool, isi_tup_str, isi_tup_tuple, isi_tup_list, isi_lst_int, isi_lst_bool, isi_lst_str, isi_lst_tuple, isi_lst_list, isi_dct_int, isi_dct_bool, isi_dct_str, isi_dct_tuple, isi_dct_list, ddct0, dint, fTuple, fListF, fList, pow10_iff, Int.reduceLE, Int.reduceLT, Int.reduceToNat]
          exact bad fun z => z.2 c2
        · refine ifn (fun z => c2 (of_decide_eq_true z)) ⟨fun v hv => ?_, _, rfl⟩
          rw [List.take_add_one, hw] at hv
          rcases List.mem_append.mp hv with hv | hv
          · exact hg v hv
          · have : v = w := by simpa using hv
            rw [this]
            exact ⟨c1, c2⟩
    · rintro env' ⟨hg, x, rfl⟩
      rw [List.length_map, List.take_length] at hg
      rcases hd with rfl | rfl <;> exact ⟨ws, rfl, by rw [spl]; omega, h1 hg⟩
  rcases hd with rfl | rfl
  · exact step _ (.inl rfl)
  · exact step _ (.inr rfl)
end
end LW
set_option maxRecDepth 100000
set_option maxHeartbeats 4000000
namespace LW
open PySem PySem.Spec PyProof.Rows L2 Nb TL
section
variable {P : Program} {w : World} {K : PySem.W.Frag} {mg : Str → Option Value} {base : Heap}
theorem at_sign {g : Str} {z : Int} (h0 : 0 ≤ z) (h : z < (g.length : Int)) : ∃ c, L2.atI g.cps.toList z = some c ∧ c ∈ tl g := by
  obtain ⟨c, c1, c2, _⟩ := atI_int (l := tl g) (i := z) h0 (by rw [← len_tl]; exact h)
  exact ⟨c, c1, c2⟩
theorem for_rx {gs : DL} {s : DS} {K : KEnd} {env : DEnv} {j : Nat} {lo hi : Int} (I : Nat → DEnv → Prop) (hg : ∀ (Q : List D → Prop) (Ed : Ex → Prop), (∀ n, lo ≤ n → n ≤ hi → Q [.int n]) → gs env Q Ed) (h1 : -(2 ^ 62) ≤ lo) (h2 : hi < 2 ^ 62) (h0 : I 0 env)
    (step : ∀ (i : Nat) (env' : DEnv), (i : Int) < hi → I i env' → s { K with nx := I (i + 1), ct := I (i + 1), bk := K.nx } (env'.set j (.val (.int (i : Nat))))) (fin : ∀ (n : Nat) (env' : DEnv), (∃ m : Int, lo ≤ m ∧ m ≤ hi ∧ n = m.toNat) → I n env' → K.nx env') : dfor (diR1 gs) (dname j) s K env := by
  unfold dfor
  refine hg _ _ fun n n1 n2 => ⟨by omega, by omega, I, h0, fun i d env' e hi => ?_, fun env' hi => ?_⟩
  · rw [rngD_get] at e
    by_cases c : i < n.toNat
    · rw [if_pos c] at e
      cases e
      rw [Int.zero_add]
      exact step i env' (by omega) hi
    · rw [if_neg c] at e; cases e
  · rw [rngD_len] at hi
    exact fin _ env' ⟨n, n1, n2, rfl⟩ hi
theorem tl_sd : tl ("abcdefghijklmnopqrstuvwxyz0123456789" : Str) = SM ++ DGl := by rw [tl_ofString]; rfl
abbrev s__law_name : Stmt := top 39
theorem sc__law_name : FnScope ["store", "signs", "found", "k"] ["store"] (defScope s__law_name) := ⟨rfl, rfl, rfl, by decide +kernel, rfl, by decide +kernel, by decide +kernel⟩
def S__law_name : DSp := fun ds Q E => ds = [.sto] ∧ ∀ t : Str, 1 ≤ t.length → t.length ≤ 12 → (∀ c ∈ tl t, c ∈ SM ++ DGl) → Q (.str t)
theorem len__law_name {ds : List D} {Q : D → Prop} {E : Ex → Prop} (h : S__law_name ds Q E) : ds.length = 1 := by obtain ⟨h, _⟩ := h; rw [h]; rfl
theorem ok__law_name (T : Txt P K mg) (h__law_edge : Has P w K mg base "_law_edge" 3 false S__law_edge) (h__law_take : Has P w K mg base "_law_take" 2 false S__law_take) {f : Addr} {fd : FuncData} (F : Fun K "_law_name" "_law_name" s__law_name f fd) : FnOk P w K mg base (L2N.CX P w) 4 f fd ["store"] (spD K mg false S__law_name) := by
  refine fn_ok F sc__law_name (fun ds Qd Ed h => len__law_name h) (fun cdv Ar outer s H E R M ds Qd Ed hr hK hm h0 h => ?_)
  subst hK hm
  refine ⟨_, (gss_cons (gs_asg (i := 1) ge_str sc__law_name.nd rfl (by first | exact Or.inl rfl | exact Or.inr rfl))
    (gss_cons (gs_asg (i := 2) (ge_ix (ge_var (pv 1)) (ge_call (Has.call h__law_take (hr.mono (by decide)) (L2N.takes_of rfl rfl rfl rfl)) (gl_cons (ge_var (pv 0)) (gl_cons ge_int gl_nil)) h0)) sc__law_name.nd rfl (by first | exact Or.inl rfl | exact Or.inr rfl))
    (gss_cons (gs_for (passes_of rfl) (by rfl) (gi_rng1 (by rfl) T.range (gl_cons (ge_call (Has.call h__law_edge (hr.mono (by decide)) (L2N.takes_of rfl rfl rfl rfl)) (gl_cons (ge_var (pv 0)) (gl_cons ge_int gl_nil)) h0) gl_nil)) (gg_name (i := 3) sc__law_name.nd rfl (by first | exact Or.inl rfl | exact Or.inr rfl)) (gss_one (gs_asg (i := 2) (ge_add (ge_var (pv 2)) (ge_ix (ge_var (pv 1)) (ge_call (Has.call h__law_take (hr.mono (by decide)) (L2N.takes_of rfl rfl rfl rfl)) (gl_cons (ge_var (pv 0)) (gl_cons ge_int gl_nil)) h0))) sc__law_name.nd rfl (by first | exact Or.inl rfl | exact Or.inr rfl))))
    (gss_one (gs_ret (ge_var (pv 2))))))), ?_⟩
  obtain ⟨rfl, hq⟩ := h
  have hL : (LINE : Nat) = 16777216 := rfl
  have lg : ("abcdefghijklmnopqrstuvwxyz0123456789" : Str).length = 36 := by rw [len_tl, tl_sd]; rfl
  refine ⟨26, rfl, by decide, fun z z1 z2 => ?_⟩
  obtain ⟨c, c1, c2⟩ := at_sign (g := "abcdefghijklmnopqrstuvwxyz0123456789") z1 (by rw [lg]; omega)
  rw [tl_sd] at c2
  refine ⟨by omega, c, c1, ?_⟩
  refine for_rx (lo := 0) (hi := 11) (fun i env => ∃ (t : Str) (x : SD), env = [.val .sto, .val (.str "abcdefghijklmnopqrstuvwxyz0123456789"), .val (.str t), x] ∧ t.length = i + 1 ∧ ∀ c ∈ tl t, c ∈ SM ++ DGl) (fun Q' E' h => ⟨12, rfl, by decide, fun n n1 n2 => h n n1 (by omega)⟩) (by decide) (by decide) ⟨⟨#[c]⟩, .un, rfl, rfl, fun d hd => by rw [tl_one, List.mem_singleton] at hd; rw [hd]; exact c2⟩ ?_ ?_
  · rintro i env' hi ⟨t, x, rfl, ht, hc⟩
    refine ⟨36, rfl, by decide, fun z z1 z2 => ?_⟩
    obtain ⟨c, c1, c2⟩ := at_sign (g := "abcdefghijklmnopqrstuvwxyz0123456789") z1 (by rw [lg]; omega)
    rw [tl_sd] at c2
    refine ⟨by omega, c, c1, by rw [ht, len_one]; omega, _, _, rfl, by rw [len_app, ht, len_one], fun y hy => ?_⟩
    rw [tl_append, List.mem_append] at hy
    rcases hy with hy | hy
    · exact hc y hy
    · rw [tl_one, List.mem_singleton] at hy
      rw [hy]
      exact c2
  · rintro n env' ⟨m, hn, hn2, rfl⟩ ⟨t, x, rfl, ht, hc⟩
    exact hq t (by omega) (by omega) hc
abbrev s__law_word : Stmt := top 41
theorem sc__law_word : FnScope ["store", "signs", "found", "k"] ["store"] (defScope s__law_word) := ⟨rfl, rfl, rfl, by decide +kernel, rfl, by decide +kernel, by decide +kernel⟩
def S__law_word : DSp := fun ds Q E => ds = [.sto] ∧ ∀ t : Str, goodW t → t.length ≤ 7 → Q (.str t)
theorem len__law_word {ds : List D} {Q : D → Prop} {E : Ex → Prop} (h : S__law_word ds Q E) : ds.length = 1 := by obtain ⟨h, _⟩ := h; rw [h]; rfl
theorem ok__law_word (T : Txt P K mg) (h__law_take : Has P w K mg base "_law_take" 2 false S__law_take) {f : Addr} {fd : FuncData} (F : Fun K "_law_word" "_law_word" s__law_word f fd) : FnOk P w K mg base (L2N.CX P w) 3 f fd ["store"] (spD K mg false S__law_word) := by
  refine fn_ok F sc__law_word (fun ds Qd Ed h => len__law_word h) (fun cdv Ar outer s H E R M ds Qd Ed hr hK hm h0 h => ?_)
  subst hK hm
  refine ⟨_, (gss_cons (gs_asg (i := 1) ge_str sc__law_word.nd rfl (by first | exact Or.inl rfl | exact Or.inr rfl))
    (gss_cons (gs_asg (i := 2) ge_str sc__law_word.nd rfl (by first | exact Or.inl rfl | exact Or.inr rfl))
    (gss_cons (gs_for (passes_of rfl) (by rfl) (gi_rng1 (by rfl) T.range (gl_cons (ge_add ge_int (ge_call (Has.call h__law_take (hr.mono (by decide)) (L2N.takes_of rfl rfl rfl rfl)) (gl_cons (ge_var (pv 0)) (gl_cons ge_int gl_nil)) h0)) gl_nil)) (gg_name (i := 3) sc__law_word.nd rfl (by first | exact Or.inl rfl | exact Or.inr rfl)) (gss_one (gs_asg (i := 2) (ge_add (ge_var (pv 2)) (ge_ix (ge_var (pv 1)) (ge_call (Has.call h__law_take (hr.mono (by decide)) (L2N.takes_of rfl rfl rfl rfl)) (gl_cons (ge_var (pv 0)) (gl_cons (ge_blt (b_len) (by rfl) T.len PySem.boot_len (gl_cons (ge_var (pv 1)) gl_nil)) gl_nil)) h0))) sc__law_word.nd rfl (by first | exact Or.inl rfl | exact Or.inr rfl))))
    (gss_one (gs_ret (ge_var (pv 2))))))), ?_⟩
  obtain ⟨rfl, hq⟩ := h
  have hL : (LINE : Nat) = 16777216 := rfl
  obtain ⟨g, hg⟩ : ∃ g : Str, g = "!\"#$&'()*+,-./0123456789:;<=>?\x40ABCDEFGHIJKLMNOPQRSTUVWXYZ[\\]^_`abcdefghijklmnopqrstuvwxyz{|}~" := ⟨_, rfl⟩
  have lg : g.length = 93 ∨ g.length = 92 := by rw [hg, len_tl, tl_ofString]; decide +kernel
  have g32 : 32 ∉ tl g := by rw [hg, tl_ofString]; decide +kernel
  simp only [↓reduceIte, disX, dxf, dcallQ, dcallQF, eqv_strs, sgnD_eq, draise1, fAll, diR1, diR2, diL, diT, diS, dname, dapp, dappPop, dlenO, dixO, dretO, dSl, donone, dosome, dyes, dfv, dm1, fJoin, fIndex, fListF, fSortT, dRev, dIn, dNotIn, difE, fMax, fMin, fStr, fList, dseq, dif, dret, dretN, dretF, dretO, dasg, dasgO, dexpr, dnext, dop, dopF, dk, dvar, dcons, dnil, dlst, dflst, dtup, dIx, dI0, dII, dB0, dtest, dtruth, dand, dor, dnot, dcb, dcbF, dcall, dcallF, dixS, dsetS, dinS, difS, fLen, fInt, fAbs, endD, scD, SOK, dEq, dNe, eqv_int, eqv_str, eqv_bl, beq_iff_eq, decide_eq_true_eq, Bool.not_eq_true, Bool.not_eq_true', true_and, and_true, and_self, false_and, and_false, reduceCtorEq, true_or, or_true, true_implies, if_true, if_false, Bool.false_eq_true, not_false_eq_true, dAdd, dMul, dAddF, List.getElem?_cons_zero, List.getElem?_cons_succ, List.set_cons_zero, List.set_cons_succ, eq_self, draise0, draiseN, ddead, fGcd, fSum, diV, dgtup, dgcons, dgnil, dasgG, dNeg, dmut, dseti, dlenO, dixO, difE, dandV, dorV, dnotV, dchain, dIsN, dNotN, dMul, dAdd, start_def, List.map_cons, List.map_nil, List.length_cons, List.length_nil, List.replicate_succ, List.replicate_zero, List.cons_append, List.nil_append, Nat.reduceAdd, Nat.reduceSub, Nat.reduceLeDiff, Nb.LINE, isi_non_int, isi_non_bool, isi_non_str, isi_non_tuple, isi_non_list, isi_bl_int, isi_bl_bool, isi_bl_str, isi_bl_tuple, isi_bl_list, isi_int_int, isi_int_bool, isi_int_str, isi_int_tuple, isi_int_list, isi_str_int, isi_str_bool, isi_str_str, isi_str_tuple, isi_str_list, isi_tup_int, isi_tup_bool, isi_tup_str, isi_tup_tuple, isi_tup_list, isi_lst_int, isi_lst_bool, isi_lst_str, isi_lst_tuple, isi_lst_list, isi_dct_int, isi_dct_bool, isi_dct_str, isi_dct_tuple, isi_dct_list, ddct0, dint, fTuple, fListF, fList, pow10_iff, Int.reduceLE, Int.reduceLT, Int.reduceToNat]
  rw [← hg]
  refine for_rx (lo := 1) (hi := 7) (fun i env => ∃ (t : Str) (x : SD), env = [.val .sto, .val (.str g), .val (.str t), x] ∧ t.length = i ∧ 32 ∉ tl t) (fun Q' E' h => ⟨7, rfl, by decide, fun n n1 n2 => h _ (by omega) (by omega)⟩) (by decide) (by decide) ⟨"", .un, rfl, rfl, fun h => by rw [tl_nil] at h; cases h⟩ ?_ ?_
  · rintro i env' hi ⟨t, x, rfl, ht, hc⟩
    refine ⟨by omega, _, rfl, by omega, fun z z1 z2 => ?_⟩
    obtain ⟨c, c1, c2⟩ := at_sign (g := g) z1 (by omega)
    refine ⟨by omega, c, c1, by rw [ht, len_one]; omega, _, _, rfl, by rw [len_app, ht, len_one], fun hy => ?_⟩
    rw [tl_append, List.mem_append] at hy
    rcases hy with hy | hy
    · exact hc hy
    · rw [tl_one, List.mem_singleton] at hy
      rw [hy] at g32
      exact g32 c2
  · rintro n env' ⟨m, hn, hn2, rfl⟩ ⟨t, x, rfl, ht, hc⟩
    exact hq t ⟨fun z => by rw [z] at ht; have ht : 0 = m.toNat := ht; omega, hc⟩ (by omega)
abbrev s__law_is_named : Stmt := top 46
theorem sc__law_is_named : FnScope ["text", "signs"] ["text"] (defScope s__law_is_named) := ⟨rfl, rfl, rfl, by decide +kernel, rfl, by decide +kernel, by decide +kernel⟩
def S__law_is_named : DSp := fun ds Q E => ∃ t : Str, ds = [.str t] ∧ t.length ≤ 1000000 ∧ Q (.bl (nmB t))
theorem len__law_is_named {ds : List D} {Q : D → Prop} {E : Ex → Prop} (h : S__law_is_named ds Q E) : ds.length = 1 := by obtain ⟨g, h, _⟩ := h; rw [h]; rfl
theorem ok__law_is_named (T : Txt P K mg) {f : Addr} {fd : FuncData} (F : Fun K "_law_is_named" "_law_is_named" s__law_is_named f fd) : FnOk P w K mg base (L2N.CX P w) 1 f fd ["text"] (spD K mg false S__law_is_named) := by
  refine fn_ok F sc__law_is_named (fun ds Qd Ed h => len__law_is_named h) (fun cdv Ar outer s H E R M ds Qd Ed hr hK hm h0 h => ?_)
  subst hK hm
  refine ⟨_, (gss_cons (gs_asg (i := 1) ge_str sc__law_is_named.nd rfl (by first | exact Or.inl rfl | exact Or.inr rfl))
    (gss_cons (gs_if (GW.t (gw_or (gt_c cm_lt (ge_blt (b_len) (by rfl) T.len PySem.boot_len (gl_cons (ge_var (pv 0)) gl_nil)) ge_int) (gw_or (gt_c cm_gt (ge_blt (b_len) (by rfl) T.len PySem.boot_len (gl_cons (ge_var (pv 0)) gl_nil)) ge_int) (gw_or1 (gt_c cm_notIn (ge_ix (ge_var (pv 0)) ge_int) (ge_var (pv 1))))))) (gss_one (gs_ret ge_bl)) gss_nil)
    (gss_one (gs_ret (ge_and (ge_c (cm_eq (room_units hr)) (ge_strip (ge_var (pv 0)) (ge_add (ge_var (pv 1)) ge_str)) ge_str) (ge_one (ge_c cm_notIn ge_str (ge_var (pv 0))))))))), ?_⟩
  obtain ⟨t, rfl, hl, hq⟩ := h
  have hL : (LINE : Nat) = 16777216 := rfl
  have lt := len_tl t
  simp only [↓reduceIte, disX, dxf, dcallQ, dcallQF, eqv_strs, sgnD_eq, draise1, fAll, diR1, diR2, diL, diT, diS, dname, dapp, dappPop, dlenO, dixO, dretO, dSl, donone, dosome, dyes, dfv, dm1, fJoin, fIndex, fListF, fSortT, dRev, dIn, dNotIn, difE, fMax, fMin, fStr, fList, dseq, dif, dret, dretN, dretF, dretO, dasg, dasgO, dexpr, dnext, dop, dopF, dk, dvar, dcons, dnil, dlst, dflst, dtup, dIx, dI0, dII, dB0, dtest, dtruth, dand, dor, dnot, dcb, dcbF, dcall, dcallF, dixS, dsetS, dinS, difS, fLen, fInt, fAbs, endD, scD, SOK, dEq, dNe, eqv_int, eqv_str, eqv_bl, beq_iff_eq, decide_eq_true_eq, Bool.not_eq_true, Bool.not_eq_true', true_and, and_true, and_self, false_and, and_false, reduceCtorEq, true_or, or_true, true_implies, if_true, if_false, Bool.false_eq_true, not_false_eq_true, dAdd, dMul, dAddF, List.getElem?_cons_zero, List.getElem?_cons_succ, List.set_cons_zero, List.set_cons_succ, eq_self, draise0, draiseN, ddead, fGcd, fSum, diV, dgtup, dgcons, dgnil, dasgG, dNeg, dmut, dseti, dlenO, dixO, difE, dandV, dorV, dnotV, dchain, dIsN, dNotN, dMul, dAdd, start_def, List.map_cons, List.map_nil, List.length_cons, List.length_nil, List.replicate_succ, List.replicate_zero, List.cons_append, List.nil_append, Nat.reduceAdd, Nat.reduceSub, Nat.reduceLeDiff, Nb.LINE, isi_non_int, isi_non_bool, isi_non_str, isi_non_tuple, isi_non_list, isi_bl_int, isi_bl_bool, isi_bl_str, isi_bl_tuple, isi_bl_list, isi_int_int, isi_int_bool, isi_int_str, isi_int_tuple, isi_int_list, isi_str_int, isi_str_bool, isi_str_str, isi_str_tuple, isi_str_list, isi_tup_int, isi_tup_bool, isi_tup_str, isi_tup_tuple, isi_tup_list, isi_lst_int, isi_lst_bool, isi_lst_str, isi_lst_tuple, isi_lst_list, isi_dct_int, isi_dct_bool, isi_dct_str, isi_dct_tuple, isi_dct_list, ddct0, dint, fTuple, fListF, fList, pow10_iff, Int.reduceLE, Int.reduceLT, Int.reduceToNat]
  refine ⟨by omega, ?_⟩
  by_cases c1 : (t.length : Int) < 1
  · rw [if_pos c1]
    have : nmB t = false := decide_eq_false fun z => by omega
    rw [← this]
    exact hq
  · rw [if_neg c1]
    refine ⟨by omega, ?_⟩
    by_cases c2 : 12 < (t.length : Int)
    · rw [if_pos c2]
      have : nmB t = false := decide_eq_false fun z => by omega
      rw [← this]
      exact hq
    · rw [if_neg c2]
      have hk : 0 < (tl t).length := by omega
      have g0 : (tl t).getD 0 0 = (tl t)[0] := by rw [List.getD_eq_getElem?_getD, List.getElem?_eq_getElem hk]; rfl
      refine ⟨by omega, (tl t)[0], ?_, ?_⟩
      · have := atI_nat (l := tl t) (k := 0) hk
        exact this
      · rw [hasS_one, tl_sm]
        by_cases c3 : (tl t)[0] ∈ SM
        · rw [decide_eq_true c3, if_neg (by decide)]
          refine ⟨by decide +kernel, by omega, .inl rfl, ?_⟩
          have e1 : D.eqv (.str (Txt.stripChars t ("abcdefghijklmnopqrstuvwxyz" ++ "0123456789"))) (.str "") = decide (∀ c ∈ tl t, c ∈ SM ++ DGl) := by
            show (Txt.stripChars t ("abcdefghijklmnopqrstuvwxyz" ++ "0123456789") == "") = _
            have k := strip_nil t ("abcdefghijklmnopqrstuvwxyz" ++ "0123456789")
            rw [tl_append, tl_sm, tl_dg] at k
            rw [Bool.eq_iff_iff, beq_iff_eq, k, decide_eq_true_eq]
          rw [e1]
          by_cases c4 : ∀ c ∈ tl t, c ∈ SM ++ DGl
          · rw [decide_eq_true c4, if_pos rfl]
            have e2 : hasS " " t = false := by
              rw [spc, hasS_one]
              refine decide_eq_false fun z => ?_
              have := c4 32 z
              revert this
              decide
            rw [e2]
            have : nmB t = true := decide_eq_true ⟨by omega, by omega, by rw [g0]; exact c3, c4⟩
            rw [this] at hq
            exact hq
          · rw [decide_eq_false c4, if_neg (by decide)]
            have : nmB t = false := decide_eq_false fun z => c4 z.2.2.2
            rw [← this]
            exact hq
        · rw [decide_eq_false c3, if_pos rfl]
          have : nmB t = false := decide_eq_false fun z => c3 (by rw [← g0]; exact z.2.2.1)
          rw [← this]
          exact hq
abbrev s__law_parted : Stmt := top 47
theorem sc__law_parted : FnScope ["line"] ["line"] (defScope s__law_parted) := ⟨rfl, rfl, rfl, by decide +kernel, rfl, by decide +kernel, by decide +kernel⟩
@[irreducible] def S__law_parted : DSp := fun ds Q E => ∃ t : Str, ds = [.str t] ∧ t.length ≤ 1000000 ∧ (t = "" → Q (.lst [])) ∧ (t ≠ "" → gl true (tl t) = true → Q (.lst ((Txt.split t " ").map D.str))) ∧ (t ≠ "" → gl true (tl t) = false → Q .non)
theorem len__law_parted {ds : List D} {Q : D → Prop} {E : Ex → Prop} (h : S__law_parted ds Q E) : ds.length = 1 := by unfold S__law_parted at h; obtain ⟨g, h, _⟩ := h; rw [h]; rfl
theorem ok__law_parted (T : Txt P K mg) {f : Addr} {fd : FuncData} (F : Fun K "_law_parted" "_law_parted" s__law_parted f fd) : FnOk P w K mg base (L2N.CX P w) 1 f fd ["line"] (spD K mg false S__law_parted) := by
  refine fn_ok F sc__law_parted (fun ds Qd Ed h => len__law_parted h) (fun cdv Ar outer s H E R M ds Qd Ed hr hK hm h0 h => ?_)
  subst hK hm
  refine ⟨_, (gss_cons (gs_if (gt_c (cm_eq (room_units hr)) (ge_var (pv 0)) ge_str) (gss_one (gs_ret (ge_lst gl_nil))) gss_nil)
    (gss_cons (gs_if (GW.t (gw_or (gt_c (cm_eq (room_units hr)) (ge_ix (ge_var (pv 0)) ge_int) ge_str) (gw_or (gt_c (cm_eq (room_units hr)) (ge_ix (ge_var (pv 0)) (ge_subI (ge_blt (b_len) (by rfl) T.len PySem.boot_len (gl_cons (ge_var (pv 0)) gl_nil)) ge_int)) ge_str) (gw_or1 (gt_c cm_in ge_str (ge_var (pv 0))))))) (gss_one (gs_ret ge_non)) gss_nil)
    (gss_one (gs_ret (ge_split (ge_var (pv 0)) ge_str))))), ?_⟩
  unfold S__law_parted at h
  obtain ⟨t, rfl, hl, h0, h1, h2⟩ := h
  have hL : (LINE : Nat) = 16777216 := rfl
  have lt := len_tl t
  simp only [↓reduceIte, disX, dxf, dcallQ, dcallQF, eqv_strs, sgnD_eq, draise1, fAll, diR1, diR2, diL, diT, diS, dname, dapp, dappPop, dlenO, dixO, dretO, dSl, donone, dosome, dyes, dfv, dm1, fJoin, fIndex, fListF, fSortT, dRev, dIn, dNotIn, difE, fMax, fMin, fStr, fList, dseq, dif, dret, dretN, dretF, dretO, dasg, dasgO, dexpr, dnext, dop, dopF, dk, dvar, dcons, dnil, dlst, dflst, dtup, dIx, dI0, dII, dB0, dtest, dtruth, dand, dor, dnot, dcb, dcbF, dcall, dcallF, dixS, dsetS, dinS, difS, fLen, fInt, fAbs, endD, scD, SOK, dEq, dNe, eqv_int, eqv_str, eqv_bl, beq_iff_eq, decide_eq_true_eq, Bool.not_eq_true, Bool.not_eq_true', true_and, and_true, and_self, false_and, and_false, reduceCtorEq, true_or, or_true, true_implies, if_true, if_false, Bool.false_eq_true, not_false_eq_true, dAdd, dMul, dAddF, List.getElem?_cons_zero, List.getElem?_cons_succ, List.set_cons_zero, List.set_cons_succ, eq_self, draise0, draiseN, ddead, fGcd, fSum, diV, dgtup, dgcons, dgnil, dasgG, dNeg, dmut, dseti, dlenO, dixO, difE, dandV, dorV, dnotV, dchain, dIsN, dNotN, dMul, dAdd, start_def, List.map_cons, List.map_nil, List.length_cons, List.length_nil, List.replicate_succ, List.replicate_zero, List.cons_append, List.nil_append, Nat.reduceAdd, Nat.reduceSub, Nat.reduceLeDiff, Nb.LINE, isi_non_int, isi_non_bool, isi_non_str, isi_non_tuple, isi_non_list, isi_bl_int, isi_bl_bool, isi_bl_str, isi_bl_tuple, isi_bl_list, isi_int_int, isi_int_bool, isi_int_str, isi_int_tuple, isi_int_list, isi_str_int, isi_str_bool, isi_str_str, isi_str_tuple, isi_str_list, isi_tup_int, isi_tup_bool, isi_tup_str, isi_tup_tuple, isi_tup_list, isi_lst_int, isi_lst_bool, isi_lst_str, isi_lst_tuple, isi_lst_list, isi_dct_int, isi_dct_bool, isi_dct_str, isi_dct_tuple, isi_dct_list, ddct0, dint, fTuple, fListF, fList, pow10_iff, Int.reduceLE, Int.reduceLT, Int.reduceToNat]
  by_cases c : t = ""
  · rw [if_pos c]
    exact h0 c
  · rw [if_neg c]
    have hk : 0 < (tl t).length := by
      cases e : tl t with
      | nil => exact absurd (ext_tl (by rw [e, tl_nil])) c
      | cons x l => exact Nat.succ_pos _
    have ne : tl t ≠ [] := fun z => by rw [z] at hk; cases hk
    have key := gl_iff (tl t) true
    have e1 : ∀ c : Nat, ((⟨#[c]⟩ : Str) = " ") ↔ c = 32 := fun c => by
      rw [spc]
      constructor
      · intro z
        injection z with z
        simpa using z
      · rintro rfl
        rfl
    have bad : (gl true (tl t) = true → False) → Qd .non := fun n => h2 c (by cases hg : gl true (tl t) with
      | true => exact (n hg).elim
      | false => rfl)
    have g0 : (tl t)[0]? = some (tl t)[0] := List.getElem?_eq_getElem hk
    have gz : (tl t).getLast? = some ((tl t)[(tl t).length - 1]'(by omega)) := by
      rw [List.getLast?_eq_getElem?, List.getElem?_eq_getElem (by omega)]
    refine ⟨by omega, (tl t)[0], atI_nat (l := tl t) (k := 0) hk, ?_⟩
    by_cases c1 : (tl t)[0] = 32
    · rw [if_pos ((e1 _).mpr c1)]
      exact bad fun hg => (key.mp hg).2.1 ⟨rfl, by rw [g0, c1]⟩
    · rw [if_neg fun z => c1 ((e1 _).mp z)]
      have az := atI_nat (l := tl t) (k := (tl t).length - 1) (by omega)
      rw [show (((tl t).length - 1 : Nat) : Int) = (t.length : Int) - 1 by omega] at az
      refine ⟨by omega, by omega, _, az, ?_⟩
      by_cases c2 : (tl t)[(tl t).length - 1]'(by omega) = 32
      · rw [if_pos ((e1 _).mpr c2)]
        exact bad fun hg => (key.mp hg).2.2.1 (by rw [gz, c2])
      · rw [if_neg fun z => c2 ((e1 _).mp z)]
        by_cases c3 : hasS "  " t = true
        · rw [if_pos c3]
          exact bad fun hg => (key.mp hg).2.2.2 ((two_spc t).mp c3)
        · rw [if_neg c3]
          refine ⟨by decide +kernel, by omega, h1 c (key.mpr ⟨fun z => ne z.2, fun z => c1 ?_, fun z => c2 ?_, fun z => c3 ((two_spc t).mpr z)⟩)⟩
          · have := z.2
            rw [g0] at this
            exact Option.some.inj this
          · rw [gz] at z
            exact Option.some.inj z
abbrev s__law_answer : Stmt := top 44
theorem sc__law_answer : FnScope ["door", "thing"] ["door", "thing"] (defScope s__law_answer) := ⟨rfl, rfl, rfl, by decide +kernel, rfl, by decide +kernel, by decide +kernel⟩
def S__law_answer : DSp := fun ds Q E => ∃ (k : Int) (d : D), ds = [.int k, d] ∧ (k = 0 → S_is_name [d] Q E) ∧ (k = 1 → S_check_name [d] Q E) ∧ (k = 2 → S_split_line [d] Q E) ∧ (k ≠ 0 → k ≠ 1 → k ≠ 2 → S_join_words [d] Q E)
theorem len__law_answer {ds : List D} {Q : D → Prop} {E : Ex → Prop} (h : S__law_answer ds Q E) : ds.length = 2 := by obtain ⟨m, _, h, _⟩ := h; rw [h]; rfl
theorem ok__law_answer (T : Txt P K mg) (h_check_name : Has P w K mg base "check_name" 2 false S_check_name) (h_is_name : Has P w K mg base "is_name" 1 false S_is_name) (h_join_words : Has P w K mg base "join_words" 2 false S_join_words) (h_split_line : Has P w K mg base "split_line" 2 false S_split_line) {f : Addr} {fd : FuncData} (F : Fun K "_law_answer" "_law_answer" s__law_answer f fd) : FnOk P w K mg base (L2N.CX P w) 3 f fd ["door", "thing"] (spD K mg false S__law_answer) := by
  refine fn_ok F sc__law_answer (fun ds Qd Ed h => len__law_answer h) (fun cdv Ar outer s H E R M ds Qd Ed hr hK hm h0 h => ?_)
  subst hK hm
  refine ⟨_, (gss_cons (gs_if (gt_c (cm_eq (room_units hr)) (ge_var (pv 0)) ge_int) (gss_one (gs_ret (ge_call (Has.call h_is_name (hr.mono (by decide)) (L2N.takes_of rfl rfl rfl rfl)) (gl_cons (ge_var (pv 1)) gl_nil) h0))) gss_nil)
    (gss_cons (gs_if (gt_c (cm_eq (room_units hr)) (ge_var (pv 0)) ge_int) (gss_one (gs_ret (ge_call (Has.call h_check_name (hr.mono (by decide)) (L2N.takes_of rfl rfl rfl rfl)) (gl_cons (ge_var (pv 1)) gl_nil) h0))) gss_nil)
    (gss_cons (gs_if (gt_c (cm_eq (room_units hr)) (ge_var (pv 0)) ge_int) (gss_one (gs_ret (ge_call (Has.call h_split_line (hr.mono (by decide)) (L2N.takes_of rfl rfl rfl rfl)) (gl_cons (ge_var (pv 1)) gl_nil) h0))) gss_nil)
    (gss_one (gs_ret (ge_call (Has.call h_join_words (hr.mono (by decide)) (L2N.takes_of rfl rfl rfl rfl)) (gl_cons (ge_var (pv 1)) gl_nil) h0)))))), ?_⟩
  obtain ⟨k, d, rfl, k0, k1, k2, k3⟩ := h
  simp only [↓reduceIte, disX, dxf, dcallQ, dcallQF, eqv_strs, sgnD_eq, draise1, fAll, diR1, diR2, diL, diT, diS, dname, dapp, dappPop, dlenO, dixO, dretO, dSl, donone, dosome, dyes, dfv, dm1, fJoin, fIndex, fListF, fSortT, dRev, dIn, dNotIn, difE, fMax, fMin, fStr, fList, dseq, dif, dret, dretN, dretF, dretO, dasg, dasgO, dexpr, dnext, dop, dopF, dk, dvar, dcons, dnil, dlst, dflst, dtup, dIx, dI0, dII, dB0, dtest, dtruth, dand, dor, dnot, dcb, dcbF, dcall, dcallF, dixS, dsetS, dinS, difS, fLen, fInt, fAbs, endD, scD, SOK, dEq, dNe, eqv_int, eqv_str, eqv_bl, beq_iff_eq, decide_eq_true_eq, Bool.not_eq_true, Bool.not_eq_true', true_and, and_true, and_self, false_and, and_false, reduceCtorEq, true_or, or_true, true_implies, if_true, if_false, Bool.false_eq_true, not_false_eq_true, dAdd, dMul, dAddF, List.getElem?_cons_zero, List.getElem?_cons_succ, List.set_cons_zero, List.set_cons_succ, eq_self, draise0, draiseN, ddead, fGcd, fSum, diV, dgtup, dgcons, dgnil, dasgG, dNeg, dmut, dseti, dlenO, dixO, difE, dandV, dorV, dnotV, dchain, dIsN, dNotN, dMul, dAdd, start_def, List.map_cons, List.map_nil, List.length_cons, List.length_nil, List.replicate_succ, List.replicate_zero, List.cons_append, List.nil_append, Nat.reduceAdd, Nat.reduceSub, Nat.reduceLeDiff, Nb.LINE, isi_non_int, isi_non_bool, isi_non_str, isi_non_tuple, isi_non_list, isi_bl_int, isi_bl_bool, isi_bl_str, isi_bl_tuple, isi_bl_list, isi_int_int, isi_int_bool, isi_int_str, isi_int_tuple, isi_int_list, isi_str_int, isi_str_bool, isi_str_str, isi_str_tuple, isi_str_list, isi_tup_int, isi_tup_bool, isi_tup_str, isi_tup_tuple, isi_tup_list, isi_lst_int, isi_lst_bool, isi_lst_str, isi_lst_tuple, isi_lst_list, isi_dct_int, isi_dct_bool, isi_dct_str, isi_dct_tuple, isi_dct_list, ddct0, dint, fTuple, fListF, fList, pow10_iff, Int.reduceLE, Int.reduceLT, Int.reduceToNat]
  split
  · exact k0 ‹_›
  split
  · exact k1 ‹_›
  split
  · exact k2 ‹_›
  exact k3 ‹_› ‹_› ‹_›
section
variable {ds : List D} {Q Q' : D → Prop} {E E' : Ex → Prop}
theorem mono_is (h : S_is_name ds Q E) (hq : ∀ d, Q d → Q' d) (he : ∀ x, E x → E' x) : S_is_name ds Q' E' :=
  let ⟨t, h, hl, h1⟩ := h
  ⟨t, h, hl, hq _ h1⟩
theorem mono_ch (h : S_check_name ds Q E) (hq : ∀ d, Q d → Q' d) (he : ∀ x, E x → E' x) : S_check_name ds Q' E' :=
  let ⟨t, h, hl, h1, h2⟩ := h
  ⟨t, h, hl, fun z => hq _ (h1 z), fun z => he _ (h2 z)⟩
theorem mono_sp (h : S_split_line ds Q E) (hq : ∀ d, Q d → Q' d) (he : ∀ x, E x → E' x) : S_split_line ds Q' E' :=
  let ⟨t, h, hl, h0, h1, h2⟩ := h
  ⟨t, h, hl, fun z => hq _ (h0 z), fun z y => hq _ (h1 z y), fun z y => he _ (h2 z y)⟩
theorem mono_jo (h : S_join_words ds Q E) (hq : ∀ d, Q d → Q' d) (he : ∀ x, E x → E' x) : S_join_words ds Q' E' :=
  let ⟨t, h, hl, h1, h2⟩ := h
  ⟨t, h, hl, fun z => hq _ (h1 z), fun z => he _ (h2 z)⟩
theorem mono_answer (h : S__law_answer ds Q E) (hq : ∀ d, Q d → Q' d) (he : ∀ x, E x → E' x) : S__law_answer ds Q' E' :=
  let ⟨k, d, h, k0, k1, k2, k3⟩ := h
  ⟨k, d, h, fun z => mono_is (k0 z) hq he, fun z => mono_ch (k1 z) hq he, fun z => mono_sp (k2 z) hq he, fun a b c => mono_jo (k3 a b c) hq he⟩
theorem okX_ref {n : Str} {fs : List (Str × D)} {y : D} (h : RefX n fs y) : okX n := by
  rcases h with ⟨_, rfl, _⟩ | ⟨_, rfl, _⟩ <;> (unfold okX; decide)
theorem same_ok {d : D} (h : Pl 3 d) (hq : Q (.bl true)) : S__law_same [d, d] Q E := same_of h hq
theorem pl_told {d : D} (h : Pl 2 d) : Pl 3 (.tup [.str "told", d]) := Pl.tup (by show 2 ≤ 1000000; decide) fun e he => by
  rcases List.mem_cons.mp he with rfl | he
  · exact Pl.flat rfl
  · rw [List.mem_singleton.mp he]
    exact h
theorem pl_ref {s : Str} {d : D} (h : flatD d = true) : Pl 3 (.tup [.str "refused", .tup [.str s, d]]) := Pl.tup (by show 2 ≤ 1000000; decide) fun e he => by
  rcases List.mem_cons.mp he with rfl | he
  · exact Pl.flat rfl
  · rw [List.mem_singleton.mp he]
    refine Pl.tup (by show 2 ≤ 1000000; decide) fun e he => ?_
    rcases List.mem_cons.mp he with rfl | he
    · exact Pl.flat rfl
    · rw [List.mem_singleton.mp he]
      exact Pl.flat h
end
abbrev s__law_try : Stmt := top 45
theorem sc__law_try : FnScope ["door", "thing", "answer", "e"] ["door", "thing"] (defScope s__law_try) := ⟨rfl, rfl, rfl, by decide +kernel, rfl, by decide +kernel, by decide +kernel⟩
@[irreducible] def S__law_try : DSp := fun ds Q E => S__law_answer ds (fun y => Q (.tup [.str "told", y])) (fun x => ∃ y, RefX x.1 x.2 y ∧ y.noexc = true ∧ Q (.tup [.str "refused", y]))
theorem len__law_try {ds : List D} {Q : D → Prop} {E : Ex → Prop} (h : S__law_try ds Q E) : ds.length = 2 := by
  unfold S__law_try at h
  exact len__law_answer h
theorem try_of {ds : List D} {Q : D → Prop} {E : Ex → Prop} (h : S__law_answer ds (fun y => Q (.tup [.str "told", y])) (fun x => ∃ y, RefX x.1 x.2 y ∧ y.noexc = true ∧ Q (.tup [.str "refused", y]))) : S__law_try ds Q E := by
  unfold S__law_try
  exact h
theorem ok__law_try (T : Txt P K mg) (h__law_answer : Has P w K mg base "_law_answer" 3 false S__law_answer) (hq__law_refusal : HasQ P w K mg base "_law_refusal" 2 false S__law_refusal) {f : Addr} {fd : FuncData} (F : Fun K "_law_try" "_law_try" s__law_try f fd) : FnOk P w K mg base (L2N.CX P w) 4 f fd ["door", "thing"] (spD K mg false S__law_try) := by
  refine fn_ok F sc__law_try (fun ds Qd Ed h => len__law_try h) (fun cdv Ar outer s H E R M ds Qd Ed hr hK hm h0 h => ?_)
  subst hK hm
  refine ⟨_, (gss_cons (gs_tryC T.c_NotBehindError h0 (L2N.takes_of rfl rfl rfl rfl) sc__law_try.nd (i := 3) rfl (fun W1 pn1 xe1 tk1 po1 => (gss_one (gs_asg (i := 2) (ge_call (Has.call h__law_answer (hr.mono (by decide)) tk1) (gl_cons (ge_var (pv 0)) (gl_cons (ge_var (pv 1)) gl_nil)) h0) sc__law_try.nd rfl (by first | exact Or.inl rfl | exact Or.inr rfl)))) (fun a C oe d pn hz hv => (gss_one (gs_ret (ge_tup (gl_cons ge_str (gl_cons (ge_callQ hq__law_refusal (L2H.RoomH.mono (roomS hr) (by decide)) rfl (ExcAt.suite hz hv) (gl_cons (ge_var (pv 3)) gl_nil)) gl_nil)))))))
    (gss_one (gs_ret (ge_tup (gl_cons ge_str (gl_cons (ge_var (pv 2)) gl_nil)))))), ?_⟩
  unfold S__law_try at h
  have hn := len__law_answer h
  obtain ⟨k, d, rfl, hk⟩ := id h
  unfold dtry
  refine mono_answer h (fun d hd => ⟨by show 2 ≤ 16777216; decide, hd⟩) (fun x ⟨y, hy, ny, hq⟩ => ?_)
  refine ⟨okX_ref hy, x.1, x.2, y, rfl, hy, by show 2 ≤ 16777216; decide, ?_, fun _ => hq⟩
  show (D.noexc (.str "refused") && (y.noexc && true)) = true
  rw [ny]
  rfl
end
end LW
set_option maxRecDepth 100000
set_option maxHeartbeats 4000000
namespace LW
open PySem PySem.Spec PyProof.Rows L2 Nb TL
section
variable {P : Program} {w : World} {K : PySem.W.Frag} {mg : Str → Option Value} {base : Heap}
abbrev s__law_store : Stmt := top 30
theorem sc__law_store : FnScope ["script", "cell"] ["script"] (defScope s__law_store) := ⟨rfl, rfl, rfl, by decide +kernel, rfl, by decide +kernel, by decide +kernel⟩
theorem ok_store (T : Txt P K mg) {f : Addr} {fd : FuncData} (F : Fun K "_law_store" "_law_store" s__law_store f fd) : FnOk P w K mg base (L2N.CX P w) 1 f fd ["script"] (spStore K) := by
  refine F.okN sc__law_store (fun vs H Q E h => by obtain ⟨a, ns, rfl, _⟩ := h; rfl) fun cdv Ar outer s H vs Q E hr ⟨a, ns, e, hs, hl, q⟩ => ?_
  subst e
  refine ⟨_, pss_one (ps_ret (by exact pe_op op_cat (by exact pe_lst (by exact pa_cons pe_int (pa_cons pe_int (pa_cons (by exact pe_op op_add pe_int (by exact pe_callB call_len_seq (by rfl) T.len PySem.boot_len (by exact pa_cons (pv 0) pa_nil))) (pa_cons pe_int (pa_cons pe_int pa_nil)))))) (by exact pe_lc (own := [("cell", 1)]) (by rfl) sc__law_store.nd (pi_list (pv 0)) (blkOk_by (by show blkC ["script", "cell"] (defScope s__law_store) _ _ = true; decide +kernel)) (fun _ _ _ _ _ => pg_name (i := 1) sc__law_store.nd rfl (by first | exact Or.inl rfl | exact Or.inr rfl)) (fun _ _ _ _ _ => pts_nil) (fun _ _ _ _ _ => by exact pe_callTy call_int1 (by rfl) T.int PyProof.Rows.boot_int (by exact pa_cons (pv 1) pa_nil))))), ?_⟩
  have hL : sizeLine = 16777216 := by rw [line_is]
  refine ⟨.ref a, rfl, a, ns.map V.int, rfl, .inl hs, 1, _, rfl, rfl, by show 5 ≤ sizeLine; omega, fun p hp => ?_⟩
  have hs1 : SqL K (upd H p (.lst [V.int 5, .int 0, .int (1 + (((ns.map V.int).length : Nat) : Int)), .int 0, .int 0])) a (ns.map V.int) := Nb.SqL.up hs hp
  have hp1 : (upd H p (.lst [V.int 5, .int 0, .int (1 + (((ns.map V.int).length : Nat) : Int)), .int 0, .int 0])) p = some (.lst [V.int 5, .int 0, .int (1 + (((ns.map V.int).length : Nat) : Int)), .int 0, .int 0]) := upd_same
  generalize upd H p (.lst [V.int 5, .int 0, .int (1 + (((ns.map V.int).length : Nat) : Int)), .int 0, .int 0]) = H1 at hs1 hp1 ⊢
  refine ⟨.ref a, rfl, a, rfl, ⟨_, hs1⟩, fun D0 hD => ?_⟩
  have hs2 : ∀ ys, SqL K (upd H1 D0 (.lst ys)) a (ns.map V.int) := fun ys => Nb.SqL.up hs1 hD
  refine ⟨fun i m H' => m = ns.length - i ∧ i ≤ ns.length ∧ H' = upd H1 D0 (.lst ((ns.take i).map V.int)), ⟨ns.length, rfl, Nat.zero_le _, rfl⟩, fun i m H' ⟨hm, hi, e⟩ => ?_⟩
  by_cases c : i < ns.length
  · have g : (ns.map V.int)[i]? = some (.int ns[i]) := by rw [List.getElem?_map, List.getElem?_eq_getElem c]; rfl
    refine .inr ⟨⟨_, .int ns[i], by rw [e]; exact hs2 _, g⟩, fun H'' => H'' = upd H1 D0 (.lst ((ns.take (i + 1)).map V.int)), fun H'' h => ⟨ns.length - (i + 1), by omega, rfl, by omega, h⟩, fun x H2 y => ?_⟩
    obtain ⟨e2, y⟩ := y
    subst e2
    have ex := y _ (by rw [e]; exact hs2 _)
    rw [g] at ex
    cases ex
    refine ⟨rfl, .int ns[i], rfl, .inl ⟨_, rfl, (ns.take i).map V.int, by rw [e]; exact upd_same, by rw [List.length_map, List.length_take]; omega, ?_⟩⟩
    rw [e, upd_upd, List.take_add_one, List.getElem?_eq_getElem c, List.map_append]
    rfl
  · have ei : i = ns.length := by omega
    subst ei
    refine .inl ⟨⟨_, by rw [e]; exact hs2 _, by rw [List.length_map]; exact Nat.le_refl _⟩, ?_⟩
    rw [List.take_length] at e
    have ne : p ≠ D0 := fun z => by rw [← z, hp1] at hD; cases hD
    refine ⟨p, D0, _, ns.map V.int, rfl, rfl, by rw [e, upd_ne ne]; exact hp1, by rw [e]; exact upd_same, by simp; omega, fun p' hp' => ?_⟩
    refine q _ p' ([5, 0, 1 + ((ns.length : Nat) : Int), 0, 0] ++ ns) (by rw [List.map_append, List.length_map]; exact upd_same) ⟨⟨by simp, by simp; omega⟩, fun k z e => ?_⟩
    match k, e with
    | 0, e => simp at e; subst e; exact (by decide : (5 : Int) ≤ 5)
    | 1, e => simp at e; subst e; exact (by decide : (0 : Int) ≤ 0)
    | 2, e => simp at e; subst e; exact ⟨by omega, by omega⟩
    | k + 3, e => exact True.intro
end
end LW
set_option maxRecDepth 100000
set_option maxHeartbeats 4000000
namespace LW
open PySem PySem.Spec PyProof.Rows L2 Nb TL
section
variable {P : Program} {w : World} {K : PySem.W.Frag} {mg : Str → Option Value} {base : Heap}
theorem cut_le (t : Str) (a b : Option Int) : (cutS t a b).length ≤ t.length := by
  unfold cutS
  rw [len_tl, len_tl]
  show ((List.take _ (List.drop _ (tl t))).toArray.toList).length ≤ _
  simp
  omega
theorem dlc_any {α : Type} (f : α → D) (P : α → Prop) {gi : DI} {t : DG} {ge : DE} {vs : List Nat} {env : DEnv} {Q : List D → Prop} {Ed : Ex → Prop} {ds : List D} (hgi : ∀ Q' : List D → Prop, Q' ds → gi env Q' Ed) (hl : ds.length ≤ 1000000)
    (he : ∀ d ∈ ds, ∀ Q' : D → Prop, (∀ a, P a → Q' (f a)) → t d (blkD env vs) fun env2 => ge env2 Q' fun _ => False) (hq : ∀ as : List α, as.length = ds.length → (∀ a ∈ as, P a) → Q (as.map f)) : dlc gi t dyes ge vs env Q Ed := by
  unfold dlc
  refine hgi _ ⟨fun i acc => ∃ as : List α, acc = as.map f ∧ as.length = i ∧ (∀ a ∈ as, P a) ∧ i ≤ ds.length, ⟨[], rfl, rfl, by simp, Nat.zero_le _⟩, fun i d acc ex ⟨as, e1, e2, e3, e4⟩ => ?_, fun acc ⟨as, e1, e2, e3, e4⟩ => ?_⟩
  · have hi : i < ds.length := (List.getElem?_eq_some_iff.mp ex).1
    simp only [dyes, if_true]
    refine he d (List.mem_of_getElem? ex) _ fun a ha => ⟨?_, as ++ [a], ?_, ?_, ?_, hi⟩
    · rw [e1, List.length_map]
      show _ < 16777216
      omega
    · rw [e1, List.map_append]
      rfl
    · rw [List.length_append, e2]
      rfl
    · intro y hy
      rcases List.mem_append.mp hy with hy | hy
      · exact e3 y hy
      · rw [List.mem_singleton.mp hy]
        exact ha
  · subst e1
    exact hq as e2 e3
theorem ixn_of {n : Nat} {z : Int} (h0 : 0 ≤ z) (h : z < (n : Int)) : ixN n z = some z.toNat := by
  have e : z = ((z.toNat : Nat) : Int) := by omega
  have := ixn_nat (n := n) (k := z.toNat) (by omega)
  rw [← e] at this
  exact this
theorem dlc_anyR {α : Type} (f : α → D) (P : α → Prop) {gi : DI} {t : DG} {ge : DE} {vs : List Nat} {env : DEnv} {Q : List D → Prop} {Ed : Ex → Prop} {hi : Nat} (hgi : ∀ Q' : List D → Prop, (∀ n : Nat, n ≤ hi → Q' (rngD 0 n)) → gi env Q' Ed) (hh : hi ≤ 1000000)
    (he : ∀ i : Nat, i < hi → ∀ Q' : D → Prop, (∀ a, P a → Q' (f a)) → t (.int (i : Nat)) (blkD env vs) fun env2 => ge env2 Q' fun _ => False) (hq : ∀ as : List α, as.length ≤ hi → (∀ a ∈ as, P a) → Q (as.map f)) : dlc gi t dyes ge vs env Q Ed := by
  unfold dlc
  refine hgi _ fun n hn => ?_
  have k := dlc_any f P (gi := fun _ Q _ => Q (rngD 0 n)) (t := t) (ge := ge) (vs := vs) (env := env) (Q := Q) (Ed := Ed) (ds := rngD 0 n) (fun _ h => h) (by rw [rngD_len]; omega) (fun d hd Q' h => by
    obtain ⟨i, hi', rfl⟩ := List.mem_map.mp hd
    have := List.mem_range.mp hi'
    rw [Int.zero_add]
    exact he i (by omega) Q' h) fun as la ha => hq as (by rw [la, rngD_len]; exact hn) ha
  unfold dlc at k
  exact k
theorem tryOf {d : D} {k : Int} {Q : D → Prop} {E : Ex → Prop} (h : S__law_answer [.int k, d] (fun y => Q (.tup [.str "told", y])) (fun x => ∃ y, RefX x.1 x.2 y ∧ y.noexc = true ∧ Q (.tup [.str "refused", y]))) : S__law_try [.int k, d] Q E := try_of h
section
variable {t : Str} {ws : List Str} {d : D} {Q : D → Prop} {E : Ex → Prop}
theorem try0 (hl : t.length ≤ 1000000) (hq : Q (.tup [.str "told", .bl (nmB t)])) : S__law_try [.int 0, .str t] Q E :=
  tryOf ⟨0, _, rfl, fun _ => ⟨t, rfl, hl, hq⟩, fun z => absurd z (by decide), fun z => absurd z (by decide), fun a _ _ => absurd rfl a⟩
theorem try1 (hl : t.length ≤ 1000000) (h1 : nmB t = true → Q (.tup [.str "told", .str t])) (h2 : nmB t = false → Q (.tup [.str "refused", .tup [.str "BadName", .str t]])) : S__law_try [.int 1, .str t] Q E :=
  tryOf ⟨1, _, rfl, fun z => absurd z (by decide), fun _ => ⟨t, rfl, hl, h1, fun z => ⟨_, .inl ⟨_, rfl, rfl, rfl⟩, rfl, h2 z⟩⟩, fun z => absurd z (by decide), fun _ a _ => absurd rfl a⟩
def badT : D := .tup [.str "refused", .tup [.str "BadText", .int 1]]
theorem try2 (hl : t.length ≤ 1000000) (h0 : t = "" → Q (.tup [.str "told", .lst []])) (h1 : t ≠ "" → gl true (tl t) = true → Q (.tup [.str "told", .lst ((Txt.split t " ").map D.str)])) (h2 : t ≠ "" → gl true (tl t) = false → Q badT) : S__law_try [.int 2, .str t] Q E :=
  tryOf ⟨2, _, rfl, fun z => absurd z (by decide), fun z => absurd z (by decide), fun _ => ⟨t, rfl, hl, h0, h1, fun z y => ⟨_, .inr ⟨_, rfl, rfl, rfl⟩, rfl, h2 z y⟩⟩, fun _ _ a => absurd rfl a⟩
def wsz (ws : List Str) : Nat := (ws.map (·.length)).sum + ws.length
theorem try3 (hd : d = .lst (ws.map D.str) ∨ d = .tup (ws.map D.str)) (hl : wsz ws ≤ 1000000) (h1 : (∀ w ∈ ws, goodW w) → Q (.tup [.str "told", .str (Txt.join " " ws)])) (h2 : (¬ ∀ w ∈ ws, goodW w) → Q badT) : S__law_try [.int 3, d] Q E :=
  tryOf ⟨3, _, rfl, fun z => absurd z (by decide), fun z => absurd z (by decide), fun z => absurd z (by decide), fun _ _ _ => ⟨ws, by rcases hd with rfl | rfl; exact .inl rfl; exact .inr rfl, hl, h1, fun z => ⟨_, .inr ⟨_, rfl, rfl, rfl⟩, rfl, h2 z⟩⟩⟩
theorem pl_bad : Pl 3 badT := pl_ref rfl
theorem pl_ws (h : wsz ws ≤ 1000000) : Pl 2 (.lst (ws.map D.str)) := Pl.lst (by rw [List.length_map]; unfold wsz at h; omega) fun e he => by
  obtain ⟨w, _, rfl⟩ := List.mem_map.mp he
  exact Pl.flat rfl
end
theorem joinL_len : ∀ ps : List (List Nat), (joinL [32] ps).length + (if ps = [] then 0 else 1) = (ps.map List.length).sum + ps.length
  | [] => rfl
  | [p] => by
    rw [if_neg (by simp)]
    show p.length + 1 = (p.length + 0) + 1
    omega
  | p :: q :: r => by
    have ih := joinL_len (q :: r)
    rw [if_neg (by simp)] at ih ⊢
    show (p ++ (32 :: joinL [32] (q :: r))).length + 1 = (p.length + ((q :: r).map List.length).sum) + ((q :: r).length + 1)
    rw [List.length_append, List.length_cons]
    omega
theorem join_len (ws : List Str) : (Txt.join " " ws).length + (if ws = [] then 0 else 1) = wsz ws := by
  have h := joinL_len (ws.map tl)
  have e : tl (Txt.join " " ws) = joinL [32] (ws.map tl) := by rw [join_eq, tl_join, tl_spc]
  rw [len_tl, e]
  have e2 : (ws.map tl).map List.length = ws.map (·.length) := by
    rw [List.map_map]
    refine List.map_congr_left fun w _ => ?_
    exact (len_tl w).symm
  rw [e2, List.length_map] at h
  unfold wsz
  rw [← h]
  cases ws <;> simp
theorem join_le (ws : List Str) : (Txt.join " " ws).length ≤ wsz ws := by
  have := join_len ws
  omega
theorem wsz_app (a b : List Str) : wsz (a ++ b) = wsz a + wsz b := by
  unfold wsz
  rw [List.map_append, List.sum_append, List.length_append]
  omega
theorem wsz_take (ws : List Str) (k : Nat) : wsz (ws.take k) + wsz (ws.drop k) = wsz ws := by
  rw [← wsz_app, List.take_append_drop]
theorem cutD_take (l : List D) (k : Nat) (h : k ≤ l.length) : Nb.cutD l none (some ((k : Nat) : Int)) = l.take k := by
  unfold Nb.cutD
  have e1 : HT.sIx l.length 0 none = 0 := rfl
  rw [e1, HT.sIx_nat, List.drop_zero, Nat.sub_zero, Nat.min_eq_left h]
theorem cutD_drop (l : List D) (k : Nat) (h : k ≤ l.length) : Nb.cutD l (some ((k : Nat) : Int)) none = l.drop k := by
  unfold Nb.cutD
  have e1 : HT.sIx l.length l.length none = l.length := rfl
  rw [e1, HT.sIx_nat, Nat.min_eq_left h, List.take_of_length_le]
  rw [List.length_drop]
  omega
abbrev s__law_not_name : Stmt := top 40
theorem sc__law_not_name : FnScope ["store", "as_word", "text", "at", "kind", "signs"] ["store", "as_word"] (defScope s__law_not_name) := ⟨rfl, rfl, rfl, by decide +kernel, rfl, by decide +kernel, by decide +kernel⟩
def S__law_not_name : DSp := fun ds Q E => ds = [.sto, .bl false] ∧ ∀ t : Str, t.length ≤ 100 → Q (.str t)
theorem len__law_not_name {ds : List D} {Q : D → Prop} {E : Ex → Prop} (h : S__law_not_name ds Q E) : ds.length = 2 := by obtain ⟨h, _⟩ := h; rw [h]; rfl
theorem ok__law_not_name (T : Txt P K mg) (h__law_name : Has P w K mg base "_law_name" 4 false S__law_name) (h__law_take : Has P w K mg base "_law_take" 2 false S__law_take) {f : Addr} {fd : FuncData} (F : Fun K "_law_not_name" "_law_not_name" s__law_not_name f fd) : FnOk P w K mg base (L2N.CX P w) 5 f fd ["store", "as_word"] (spD K mg false S__law_not_name) := by
  refine fn_ok F sc__law_not_name (fun ds Qd Ed h => len__law_not_name h) (fun cdv Ar outer s H E R M ds Qd Ed hr hK hm h0 h => ?_)
  subst hK hm
  refine ⟨_, (gss_cons (gs_asg (i := 2) (ge_call (Has.call h__law_name (hr.mono (by decide)) (L2N.takes_of rfl rfl rfl rfl)) (gl_cons (ge_var (pv 0)) gl_nil) h0) sc__law_not_name.nd rfl (by first | exact Or.inl rfl | exact Or.inr rfl))
    (gss_cons (gs_asg (i := 3) (ge_call (Has.call h__law_take (hr.mono (by decide)) (L2N.takes_of rfl rfl rfl rfl)) (gl_cons (ge_var (pv 0)) (gl_cons (ge_blt (b_len) (by rfl) T.len PySem.boot_len (gl_cons (ge_var (pv 2)) gl_nil)) gl_nil)) h0) sc__law_not_name.nd rfl (by first | exact Or.inl rfl | exact Or.inr rfl))
    (gss_cons (gs_asg (i := 4) (ge_call (Has.call h__law_take (hr.mono (by decide)) (L2N.takes_of rfl rfl rfl rfl)) (gl_cons (ge_var (pv 0)) (gl_cons ge_int gl_nil)) h0) sc__law_not_name.nd rfl (by first | exact Or.inl rfl | exact Or.inr rfl))
    (gss_cons (gs_if (GW.t (gw_and (gt_c (cm_eq (room_units hr)) (ge_var (pv 4)) ge_int) (gw_and1 (gt_not (gt_val (ge_var (pv 1))))))) (gss_one (gs_ret ge_str)) gss_nil)
    (gss_cons (gs_if (GW.t (gw_and (gt_c (cm_eq (room_units hr)) (ge_var (pv 4)) ge_int) (gw_and1 (gt_not (gt_val (ge_var (pv 1))))))) (gss_one (gs_ret (ge_add (ge_add (ge_sl (ge_var (pv 2)) go_none (go_some (ge_var (pv 3)))) ge_str) (ge_sl (ge_var (pv 2)) (go_some (ge_var (pv 3))) go_none)))) gss_nil)
    (gss_cons (gs_if (gt_c (cm_eq (room_units hr)) (ge_var (pv 4)) ge_int) (gss_one (gs_ret (ge_sl (ge_add (ge_var (pv 2)) ge_str) go_none (go_some ge_int)))) gss_nil)
    (gss_cons (gs_if (gt_c (cm_eq (room_units hr)) (ge_var (pv 4)) ge_int) (gss_one (gs_ret (ge_add (ge_ix ge_str (ge_call (Has.call h__law_take (hr.mono (by decide)) (L2N.takes_of rfl rfl rfl rfl)) (gl_cons (ge_var (pv 0)) (gl_cons ge_int gl_nil)) h0)) (ge_sl (ge_var (pv 2)) (go_some ge_int) go_none)))) gss_nil)
    (gss_cons (gs_if (gt_c (cm_eq (room_units hr)) (ge_var (pv 4)) ge_int) (gss_one (gs_ret (ge_add (ge_add (ge_sl (ge_var (pv 2)) go_none (go_some (ge_var (pv 3)))) ge_str) (ge_sl (ge_var (pv 2)) (go_some (ge_var (pv 3))) go_none)))) gss_nil)
    (gss_cons (gs_if (gt_c (cm_eq (room_units hr)) (ge_var (pv 4)) ge_int) (gss_one (gs_ret (ge_add (ge_add (ge_sl (ge_var (pv 2)) go_none (go_some (ge_var (pv 3)))) (ge_ix ge_str (ge_call (Has.call h__law_take (hr.mono (by decide)) (L2N.takes_of rfl rfl rfl rfl)) (gl_cons (ge_var (pv 0)) (gl_cons ge_int gl_nil)) h0))) (ge_sl (ge_var (pv 2)) (go_some (ge_add (ge_var (pv 3)) ge_int)) go_none)))) gss_nil)
    (gss_cons (gs_if (gt_c (cm_eq (room_units hr)) (ge_var (pv 4)) ge_int) (gss_cons (gs_asg (i := 5) ge_str sc__law_not_name.nd rfl (by first | exact Or.inl rfl | exact Or.inr rfl))
    (gss_one (gs_ret (ge_add (ge_add (ge_sl (ge_var (pv 2)) go_none (go_some (ge_var (pv 3)))) (ge_ix (ge_var (pv 5)) (ge_call (Has.call h__law_take (hr.mono (by decide)) (L2N.takes_of rfl rfl rfl rfl)) (gl_cons (ge_var (pv 0)) (gl_cons (ge_blt (b_len) (by rfl) T.len PySem.boot_len (gl_cons (ge_var (pv 5)) gl_nil)) gl_nil)) h0))) (ge_sl (ge_var (pv 2)) (go_some (ge_add (ge_var (pv 3)) ge_int)) go_none))))) gss_nil)
    (gss_one (gs_ret (ge_add ge_str (ge_var (pv 2))))))))))))))), ?_⟩
  obtain ⟨rfl, hq⟩ := h
  have hL : (LINE : Nat) = 16777216 := rfl
  refine ⟨rfl, fun t t1 t2 t3 => ⟨by omega, _, rfl, by omega, fun a a1 a2 => ⟨8, rfl, by decide, fun k k1 k2 => ?_⟩⟩⟩
  have l1 := cut_le t none (some a)
  have l2 := cut_le t (some a) none
  have l3 := cut_le t (some (a + 1)) none
  have l4 := cut_le t (some 1) none
  have q1 : (" " : Str).length = 1 := by decide +kernel
  have q2 : ("_" : Str).length = 1 := by decide +kernel
  have q3 : ("abcdefghijkl" : Str).length = 12 := by decide +kernel
  have q4 : ("-" : Str).length = 1 := by decide +kernel
  have q5 : ("0123456789" : Str).length = 10 := by decide +kernel
  have q6 : ("ABCDEFGHIJKLMNOPQRSTUVWXYZ" : Str).length = 26 := by decide +kernel
  obtain ⟨g, hg⟩ : ∃ g : Str, g = "!\"#$&'()*+,-./:;<=>?\x40[\\]^`{|}~" := ⟨_, rfl⟩
  have q7 : 0 < g.length ∧ g.length ≤ 100 := by rw [hg]; decide +kernel
  have l5 := cut_le (t ++ "abcdefghijkl") none (some 13)
  rw [len_app, q3] at l5
  simp only [↓reduceIte, disX, dxf, dcallQ, dcallQF, eqv_strs, sgnD_eq, draise1, fAll, diR1, diR2, diL, diT, diS, dname, dapp, dappPop, dlenO, dixO, dretO, dSl, donone, dosome, dyes, dfv, dm1, fJoin, fIndex, fListF, fSortT, dRev, dIn, dNotIn, difE, fMax, fMin, fStr, fList, dseq, dif, dret, dretN, dretF, dretO, dasg, dasgO, dexpr, dnext, dop, dopF, dk, dvar, dcons, dnil, dlst, dflst, dtup, dIx, dI0, dII, dB0, dtest, dtruth, dand, dor, dnot, dcb, dcbF, dcall, dcallF, dixS, dsetS, dinS, difS, fLen, fInt, fAbs, endD, scD, SOK, dEq, dNe, eqv_int, eqv_str, eqv_bl, beq_iff_eq, decide_eq_true_eq, Bool.not_eq_true, Bool.not_eq_true', true_and, and_true, and_self, false_and, and_false, reduceCtorEq, true_or, or_true, true_implies, if_true, if_false, Bool.false_eq_true, not_false_eq_true, dAdd, dMul, dAddF, List.getElem?_cons_zero, List.getElem?_cons_succ, List.set_cons_zero, List.set_cons_succ, eq_self, draise0, draiseN, ddead, fGcd, fSum, diV, dgtup, dgcons, dgnil, dasgG, dNeg, dmut, dseti, dlenO, dixO, difE, dandV, dorV, dnotV, dchain, dIsN, dNotN, dMul, dAdd, start_def, List.map_cons, List.map_nil, List.length_cons, List.length_nil, List.replicate_succ, List.replicate_zero, List.cons_append, List.nil_append, Nat.reduceAdd, Nat.reduceSub, Nat.reduceLeDiff, Nb.LINE, isi_non_int, isi_non_bool, isi_non_str, isi_non_tuple, isi_non_list, isi_bl_int, isi_bl_bool, isi_bl_str, isi_bl_tuple, isi_bl_list, isi_int_int, isi_int_bool, isi_int_str, isi_int_tuple, isi_int_list, isi_str_int, isi_str_bool, isi_str_str, isi_str_tuple, isi_str_list, isi_tup_int, isi_tup_bool, isi_tup_str, isi_tup_tuple, isi_tup_list, isi_lst_int, isi_lst_bool, isi_lst_str, isi_lst_tuple, isi_lst_list, isi_dct_int, isi_dct_bool, isi_dct_str, isi_dct_tuple, isi_dct_list, ddct0, dint, fTuple, fListF, fList, pow10_iff, Int.reduceLE, Int.reduceLT, Int.reduceToNat]
  rw [← hg]
  split
  · exact hq _ (by decide +kernel)
  split
  · exact ⟨by omega, by omega, by omega, by rw [len_app]; omega, hq _ (by rw [len_app, len_app]; omega)⟩
  split
  · exact ⟨by omega, by rw [len_app]; omega, hq _ (by omega)⟩
  split
  · refine ⟨10, rfl, by decide, fun z z1 z2 => ?_⟩
    obtain ⟨c, c1, _⟩ := at_sign (g := "0123456789") z1 (by omega)
    exact ⟨by omega, c, c1, by omega, by rw [len_one]; omega, hq _ (by rw [len_app, len_one]; omega)⟩
  split
  · exact ⟨by omega, by omega, by omega, by rw [len_app]; omega, hq _ (by rw [len_app, len_app]; omega)⟩
  split
  · refine ⟨by omega, 26, rfl, by decide, fun z z1 z2 => ?_⟩
    obtain ⟨c, c1, _⟩ := at_sign (g := "ABCDEFGHIJKLMNOPQRSTUVWXYZ") z1 (by omega)
    exact ⟨by omega, c, c1, by rw [len_one]; omega, by omega, by rw [len_app, len_one]; omega, hq _ (by rw [len_app, len_app, len_one]; omega)⟩
  split
  · refine ⟨by omega, by omega, _, rfl, by omega, fun z z1 z2 => ?_⟩
    obtain ⟨c, c1, _⟩ := at_sign (g := g) z1 (by omega)
    exact ⟨by omega, c, c1, by rw [len_one]; omega, by omega, by rw [len_app, len_one]; omega, hq _ (by rw [len_app, len_app, len_one]; omega)⟩
  · exact ⟨by omega, hq _ (by rw [len_app]; omega)⟩
abbrev s__law_words : Stmt := top 42
theorem sc__law_words : FnScope ["store", "many", "k"] ["store"] (defScope s__law_words) := ⟨rfl, rfl, rfl, by decide +kernel, rfl, by decide +kernel, by decide +kernel⟩
def S__law_words : DSp := fun ds Q E => ds = [.sto] ∧ ∀ ws : List Str, ws.length ≤ 120 → (∀ w ∈ ws, goodW w ∧ w.length ≤ 7) → Q (.lst (ws.map D.str))
theorem len__law_words {ds : List D} {Q : D → Prop} {E : Ex → Prop} (h : S__law_words ds Q E) : ds.length = 1 := by obtain ⟨h, _⟩ := h; rw [h]; rfl
theorem ok__law_words (T : Txt P K mg) (h__law_take : Has P w K mg base "_law_take" 2 false S__law_take) (h__law_word : Has P w K mg base "_law_word" 3 false S__law_word) {f : Addr} {fd : FuncData} (F : Fun K "_law_words" "_law_words" s__law_words f fd) : FnOk P w K mg base (L2N.CX P w) 4 f fd ["store"] (spD K mg true S__law_words) := by
  refine fn_ok F sc__law_words (fun ds Qd Ed h => len__law_words h) (fun cdv Ar outer s H E R M ds Qd Ed hr hK hm h0 h => ?_)
  subst hK hm
  refine ⟨_, (gss_cons (gs_asg (i := 1) (ge_call (Has.call h__law_take (hr.mono (by decide)) (L2N.takes_of rfl rfl rfl rfl)) (gl_cons (ge_var (pv 0)) (gl_cons ge_int gl_nil)) h0) sc__law_words.nd rfl (by first | exact Or.inl rfl | exact Or.inr rfl))
    (gss_cons (gs_if (gt_c (cm_eq (room_units hr)) (ge_call (Has.call h__law_take (hr.mono (by decide)) (L2N.takes_of rfl rfl rfl rfl)) (gl_cons (ge_var (pv 0)) (gl_cons ge_int gl_nil)) h0) ge_int) (gss_one (gs_asg (i := 1) ge_int sc__law_words.nd rfl (by first | exact Or.inl rfl | exact Or.inr rfl))) gss_nil)
    (gss_one (gs_retF (gf_lc (own := [("k", 2)]) (js := [2]) (by rfl) sc__law_words.nd (gi_rng1 (by rfl) T.range (gl_cons (ge_var (pv 1)) gl_nil)) (by show blkC ["store", "many", "k"] (defScope s__law_words) _ _ = true; decide +kernel) (by decide) (fun B hB _ _ _ _ _ => gg_name (i := 2) sc__law_words.nd rfl (by first | exact Or.inl rfl | exact Or.inr rfl)) (fun B hB _ _ _ _ _ => gts_nil) (fun B hB _ _ _ _ _ => (ge_call (Has.call h__law_word (hr.mono (by decide)) takesN) (gl_cons (ge_var (pv 0)) gl_nil) ((congrArg RC.hx hB).trans h0) (hK := congrArg RC.K hB) (hm := congrArg RC.mg hB)))))))), ?_⟩
  obtain ⟨rfl, hq⟩ := h
  have hL : (LINE : Nat) = 16777216 := rfl
  refine ⟨9, rfl, by decide, fun m m1 m2 => ⟨12, rfl, by decide, fun k k1 k2 => ?_⟩⟩
  have key : ∀ n : Int, 0 ≤ n → n ≤ 120 → dlc (diR1 (dcons (dvar 1) dnil)) (dname 2) dyes (dcall S__law_word (dcons (dvar 0) dnil)) [2]
      [SD.val D.sto, SD.val (D.int n), SD.un] (fun ds => Qd (D.lst ds)) fun x => Ed x := fun n n1 n2 => by
    refine dlc_any D.str (fun w : Str => goodW w ∧ w.length ≤ 7) (ds := rngD 0 n.toNat) (fun _ h => ⟨by omega, by omega, h⟩) (by rw [rngD_len]; omega) (fun d hd Q' h => ?_) (fun as la ha => ?_)
    · exact ⟨rfl, fun t t1 t2 => h t ⟨t1, t2⟩⟩
    · rw [rngD_len] at la
      exact hq as (by omega) ha
  simp only [↓reduceIte, disX, dxf, dcallQ, dcallQF, eqv_strs, sgnD_eq, draise1, fAll, diR1, diR2, diL, diT, diS, dname, dapp, dappPop, dlenO, dixO, dretO, dSl, donone, dosome, dyes, dfv, dm1, fJoin, fIndex, fListF, fSortT, dRev, dIn, dNotIn, difE, fMax, fMin, fStr, fList, dseq, dif, dret, dretN, dretF, dretO, dasg, dasgO, dexpr, dnext, dop, dopF, dk, dvar, dcons, dnil, dlst, dflst, dtup, dIx, dI0, dII, dB0, dtest, dtruth, dand, dor, dnot, dcb, dcbF, dcall, dcallF, dixS, dsetS, dinS, difS, fLen, fInt, fAbs, endD, scD, SOK, dEq, dNe, eqv_int, eqv_str, eqv_bl, beq_iff_eq, decide_eq_true_eq, Bool.not_eq_true, Bool.not_eq_true', true_and, and_true, and_self, false_and, and_false, reduceCtorEq, true_or, or_true, true_implies, if_true, if_false, Bool.false_eq_true, not_false_eq_true, dAdd, dMul, dAddF, List.getElem?_cons_zero, List.getElem?_cons_succ, List.set_cons_zero, List.set_cons_succ, eq_self, draise0, draiseN, ddead, fGcd, fSum, diV, dgtup, dgcons, dgnil, dasgG, dNeg, dmut, dseti, dlenO, dixO, difE, dandV, dorV, dnotV, dchain, dIsN, dNotN, dMul, dAdd, start_def, List.map_cons, List.map_nil, List.length_cons, List.length_nil, List.replicate_succ, List.replicate_zero, List.cons_append, List.nil_append, Nat.reduceAdd, Nat.reduceSub, Nat.reduceLeDiff, Nb.LINE, isi_non_int, isi_non_bool, isi_non_str, isi_non_tuple, isi_non_list, isi_bl_int, isi_bl_bool, isi_bl_str, isi_bl_tuple, isi_bl_list, isi_int_int, isi_int_bool, isi_int_str, isi_int_tuple, isi_int_list, isi_str_int, isi_str_bool, isi_str_str, isi_str_tuple, isi_str_list, isi_tup_int, isi_tup_bool, isi_tup_str, isi_tup_tuple, isi_tup_list, isi_lst_int, isi_lst_bool, isi_lst_str, isi_lst_tuple, isi_lst_list, isi_dct_int, isi_dct_bool, isi_dct_str, isi_dct_tuple, isi_dct_list, ddct0, dint, fTuple, fListF, fList, pow10_iff, Int.reduceLE, Int.reduceLT, Int.reduceToNat]
  split
  · exact key 120 (by decide) (by decide)
  · exact key m m1 (by omega)
abbrev s__law_spaced : Stmt := top 43
theorem sc__law_spaced : FnScope ["store", "words", "line", "kind", "at"] ["store", "words"] (defScope s__law_spaced) := ⟨rfl, rfl, rfl, by decide +kernel, rfl, by decide +kernel, by decide +kernel⟩
def S__law_spaced : DSp := fun ds Q E => ∃ ws : List Str, ds = [.sto, .lst (ws.map D.str)] ∧ wsz ws ≤ 20000 ∧ ∀ t : Str, t.length ≤ 45000 → Q (.str t)
theorem len__law_spaced {ds : List D} {Q : D → Prop} {E : Ex → Prop} (h : S__law_spaced ds Q E) : ds.length = 2 := by obtain ⟨ws, h, _⟩ := h; rw [h]; rfl
theorem ok__law_spaced (T : Txt P K mg) (h__law_take : Has P w K mg base "_law_take" 2 false S__law_take) {f : Addr} {fd : FuncData} (F : Fun K "_law_spaced" "_law_spaced" s__law_spaced f fd) : FnOk P w K mg base (L2N.CX P w) 3 f fd ["store", "words"] (spD K mg false S__law_spaced) := by
  refine fn_ok F sc__law_spaced (fun ds Qd Ed h => len__law_spaced h) (fun cdv Ar outer s H E R M ds Qd Ed hr hK hm h0 h => ?_)
  subst hK hm
  refine ⟨_, (gss_cons (gs_asg (i := 2) (ge_join ge_str (ge_var (pv 1))) sc__law_spaced.nd rfl (by first | exact Or.inl rfl | exact Or.inr rfl))
    (gss_cons (gs_asg (i := 3) (ge_call (Has.call h__law_take (hr.mono (by decide)) (L2N.takes_of rfl rfl rfl rfl)) (gl_cons (ge_var (pv 0)) (gl_cons ge_int gl_nil)) h0) sc__law_spaced.nd rfl (by first | exact Or.inl rfl | exact Or.inr rfl))
    (gss_cons (gs_if (GW.t (gw_or (gt_c (cm_eq (room_units hr)) (ge_var (pv 3)) ge_int) (gw_or1 (gt_c (cm_eq (room_units hr)) (ge_blt (b_len) (by rfl) T.len PySem.boot_len (gl_cons (ge_var (pv 1)) gl_nil)) ge_int)))) (gss_one (gs_ret (ge_add (ge_add ge_str (ge_var (pv 2))) (ge_ix (ge_lst (gl_cons ge_str (gl_cons ge_str gl_nil))) (ge_call (Has.call h__law_take (hr.mono (by decide)) (L2N.takes_of rfl rfl rfl rfl)) (gl_cons (ge_var (pv 0)) (gl_cons ge_int gl_nil)) h0))))) gss_nil)
    (gss_cons (gs_if (GW.t (gw_or (gt_c (cm_eq (room_units hr)) (ge_var (pv 3)) ge_int) (gw_or1 (gt_c (cm_eq (room_units hr)) (ge_blt (b_len) (by rfl) T.len PySem.boot_len (gl_cons (ge_var (pv 1)) gl_nil)) ge_int)))) (gss_one (gs_ret (ge_add (ge_var (pv 2)) ge_str))) gss_nil)
    (gss_cons (gs_asg (i := 4) (ge_add ge_int (ge_call (Has.call h__law_take (hr.mono (by decide)) (L2N.takes_of rfl rfl rfl rfl)) (gl_cons (ge_var (pv 0)) (gl_cons (ge_subI (ge_blt (b_len) (by rfl) T.len PySem.boot_len (gl_cons (ge_var (pv 1)) gl_nil)) ge_int) gl_nil)) h0)) sc__law_spaced.nd rfl (by first | exact Or.inl rfl | exact Or.inr rfl))
    (gss_one (gs_ret (ge_add (ge_add (ge_join ge_str (ge_sl (ge_var (pv 1)) go_none (go_some (ge_var (pv 4))))) ge_str) (ge_join ge_str (ge_sl (ge_var (pv 1)) (go_some (ge_var (pv 4))) go_none)))))))))), ?_⟩
  obtain ⟨ws, rfl, hw, hq⟩ := h
  have hL : (LINE : Nat) = 16777216 := rfl
  have q1 : (" " : Str).length = 1 := by decide +kernel
  have q2 : ("  " : Str).length = 2 := by decide +kernel
  have jl := join_le ws
  have hw' := hw
  unfold wsz at hw'
  refine ⟨ws, rfl, by rw [q1, Nat.mul_one]; omega, 4, rfl, by decide, fun k k1 k2 => ?_⟩
  have A : (" " : Str).length + (Txt.join " " ws).length ≤ LINE ∧ S__law_take [.sto, .int 2] (fun y => dIx (.lst [.str "", .str " "]) y fun d => dAdd (.str (" " ++ Txt.join " " ws)) d Qd) Ed := by
    refine ⟨by omega, 2, rfl, by decide, fun z z1 z2 => ?_⟩
    have hz : z = 0 ∨ z = 1 := by omega
    rcases hz with rfl | rfl
    · exact ⟨_, rfl, by rw [len_app]; have : ("" : Str).length = 0 := rfl; omega, hq _ (by rw [len_app, len_app]; have : ("" : Str).length = 0 := rfl; omega)⟩
    · exact ⟨_, rfl, by rw [len_app]; omega, hq _ (by rw [len_app, len_app]; omega)⟩
  have B : (Txt.join " " ws).length + (" " : Str).length ≤ LINE ∧ Qd (.str (Txt.join " " ws ++ " ")) := ⟨by omega, hq _ (by rw [len_app]; omega)⟩
  simp only [↓reduceIte, disX, dxf, dcallQ, dcallQF, eqv_strs, sgnD_eq, draise1, fAll, diR1, diR2, diL, diT, diS, dname, dapp, dappPop, dlenO, dixO, dretO, dSl, donone, dosome, dyes, dfv, dm1, fJoin, fIndex, fListF, fSortT, dRev, dIn, dNotIn, difE, fMax, fMin, fStr, fList, dseq, dif, dret, dretN, dretF, dretO, dasg, dasgO, dexpr, dnext, dop, dopF, dk, dvar, dcons, dnil, dlst, dflst, dtup, dIx, dI0, dII, dB0, dtest, dtruth, dand, dor, dnot, dcb, dcbF, dcall, dcallF, dixS, dsetS, dinS, difS, fLen, fInt, fAbs, endD, scD, SOK, dEq, dNe, eqv_int, eqv_str, eqv_bl, beq_iff_eq, decide_eq_true_eq, Bool.not_eq_true, Bool.not_eq_true', true_and, and_true, and_self, false_and, and_false, reduceCtorEq, true_or, or_true, true_implies, if_true, if_false, Bool.false_eq_true, not_false_eq_true, dAdd, dMul, dAddF, List.getElem?_cons_zero, List.getElem?_cons_succ, List.set_cons_zero, List.set_cons_succ, eq_self, draise0, draiseN, ddead, fGcd, fSum, diV, dgtup, dgcons, dgnil, dasgG, dNeg, dmut, dseti, dlenO, dixO, difE, dandV, dorV, dnotV, dchain, dIsN, dNotN, dMul, dAdd, start_def, List.map_cons, List.map_nil, List.length_cons, List.length_nil, List.replicate_succ, List.replicate_zero, List.cons_append, List.nil_append, Nat.reduceAdd, Nat.reduceSub, Nat.reduceLeDiff, Nb.LINE, isi_non_int, isi_non_bool, isi_non_str, isi_non_tuple, isi_non_list, isi_bl_int, isi_bl_bool, isi_bl_str, isi_bl_tuple, isi_bl_list, isi_int_int, isi_int_bool, isi_int_str, isi_int_tuple, isi_int_list, isi_str_int, isi_str_bool, isi_str_str, isi_str_tuple, isi_str_list, isi_tup_int, isi_tup_bool, isi_tup_str, isi_tup_tuple, isi_tup_list, isi_lst_int, isi_lst_bool, isi_lst_str, isi_lst_tuple, isi_lst_list, isi_dct_int, isi_dct_bool, isi_dct_str, isi_dct_tuple, isi_dct_list, ddct0, dint, fTuple, fListF, fList, pow10_iff, Int.reduceLE, Int.reduceLT, Int.reduceToNat] at A B ⊢
  split
  · exact A
  split
  · exact A
  split
  · exact B
  split
  · exact B
  · rename_i c1 c2 c3 c4
    rw [List.length_map] at c2 c4 ⊢
    refine ⟨_, rfl, by omega, fun z z1 z2 => ?_⟩
    have hz : z < (ws.length : Int) - 1 := by omega
    have e1 : Nb.cutD (ws.map D.str) none (some (1 + z)) = (ws.take (1 + z).toNat).map D.str := by
      rw [List.map_take, show (1 + z) = (((1 + z).toNat : Nat) : Int) by omega]
      exact cutD_take _ _ (by rw [List.length_map]; omega)
    have e2 : Nb.cutD (ws.map D.str) (some (1 + z)) none = (ws.drop (1 + z).toNat).map D.str := by
      rw [List.map_drop, show (1 + z) = (((1 + z).toNat : Nat) : Int) by omega]
      exact cutD_drop _ _ (by rw [List.length_map]; omega)
    have w0 := wsz_take ws (1 + z).toNat
    have j1 := join_le (ws.take (1 + z).toNat)
    have j2 := join_le (ws.drop (1 + z).toNat)
    have w1 : wsz (ws.take (1 + z).toNat) = ((ws.take (1 + z).toNat).map (·.length)).sum + (ws.take (1 + z).toNat).length := rfl
    have w2 : wsz (ws.drop (1 + z).toNat) = ((ws.drop (1 + z).toNat).map (·.length)).sum + (ws.drop (1 + z).toNat).length := rfl
    exact ⟨_, e1, by rw [q1]; omega, by omega, _, e2, by rw [q1]; omega, by rw [len_app]; omega, hq _ (by rw [len_app, len_app]; omega)⟩
abbrev s__law_name_judged : Stmt := top 48
theorem sc__law_name_judged : FnScope ["text", "due"] ["text"] (defScope s__law_name_judged) := ⟨rfl, rfl, rfl, by decide +kernel, rfl, by decide +kernel, by decide +kernel⟩
def S__law_name_judged : DSp := fun ds Q E => ∃ t : Str, ds = [.str t] ∧ t.length ≤ 1000000 ∧ Q (.bl true)
theorem len__law_name_judged {ds : List D} {Q : D → Prop} {E : Ex → Prop} (h : S__law_name_judged ds Q E) : ds.length = 1 := by obtain ⟨g, h, _⟩ := h; rw [h]; rfl
theorem ok__law_name_judged (T : Txt P K mg) (h__law_is_named : Has P w K mg base "_law_is_named" 1 false S__law_is_named) (h__law_same : Has P w K mg base "_law_same" 5 false S__law_same) (h__law_try : Has P w K mg base "_law_try" 4 false S__law_try) {f : Addr} {fd : FuncData} (F : Fun K "_law_name_judged" "_law_name_judged" s__law_name_judged f fd) : FnOk P w K mg base (L2N.CX P w) 6 f fd ["text"] (spD K mg false S__law_name_judged) := by
  refine fn_ok F sc__law_name_judged (fun ds Qd Ed h => len__law_name_judged h) (fun cdv Ar outer s H E R M ds Qd Ed hr hK hm h0 h => ?_)
  subst hK hm
  refine ⟨_, (gss_cons (gs_asg (i := 1) (ge_call (Has.call h__law_is_named (hr.mono (by decide)) (L2N.takes_of rfl rfl rfl rfl)) (gl_cons (ge_var (pv 0)) gl_nil) h0) sc__law_name_judged.nd rfl (by first | exact Or.inl rfl | exact Or.inr rfl))
    (gss_cons (gs_if (gt_not (gt_val (ge_call (Has.call h__law_same (hr.mono (by decide)) (L2N.takes_of rfl rfl rfl rfl)) (gl_cons (ge_call (Has.call h__law_try (hr.mono (by decide)) (L2N.takes_of rfl rfl rfl rfl)) (gl_cons ge_int (gl_cons (ge_var (pv 0)) gl_nil)) h0) (gl_cons (ge_tup (gl_cons ge_str (gl_cons (ge_var (pv 1)) gl_nil))) gl_nil)) h0))) (gss_one (gs_ret ge_bl)) gss_nil)
    (gss_cons (gs_if (gt_val (ge_var (pv 1))) (gss_one (gs_ret (ge_call (Has.call h__law_same (hr.mono (by decide)) (L2N.takes_of rfl rfl rfl rfl)) (gl_cons (ge_call (Has.call h__law_try (hr.mono (by decide)) (L2N.takes_of rfl rfl rfl rfl)) (gl_cons ge_int (gl_cons (ge_var (pv 0)) gl_nil)) h0) (gl_cons (ge_tup (gl_cons ge_str (gl_cons (ge_var (pv 0)) gl_nil))) gl_nil)) h0))) gss_nil)
    (gss_one (gs_ret (ge_call (Has.call h__law_same (hr.mono (by decide)) (L2N.takes_of rfl rfl rfl rfl)) (gl_cons (ge_call (Has.call h__law_try (hr.mono (by decide)) (L2N.takes_of rfl rfl rfl rfl)) (gl_cons ge_int (gl_cons (ge_var (pv 0)) gl_nil)) h0) (gl_cons (ge_tup (gl_cons ge_str (gl_cons (ge_tup (gl_cons ge_str (gl_cons (ge_var (pv 0)) gl_nil))) gl_nil))) gl_nil)) h0)))))), ?_⟩
  obtain ⟨t, rfl, hl, hq⟩ := h
  have hL : (LINE : Nat) = 16777216 := rfl
  have two : 2 ≤ LINE := by omega
  refine ⟨t, rfl, hl, ?_⟩
  refine try0 hl ⟨two, same_ok (pl_told (Pl.flat rfl)) (ifn (by decide) ?_)⟩
  cases hb : nmB t with
  | true =>
    exact try1 hl (fun _ => ⟨two, same_ok (pl_told (Pl.flat rfl)) hq⟩) fun z => by rw [hb] at z; cases z
  | false =>
    exact try1 hl (fun z => by rw [hb] at z; cases z) fun _ => ⟨two, two, same_ok (pl_ref rfl) hq⟩
def okL (t : Str) : Prop := t = "" ∨ gl true (tl t) = true
def prt (t : Str) : List Str := if t = "" then [] else Txt.split t " "
theorem prt_ok {t : Str} (h : okL t) : (∀ w ∈ prt t, goodW w) ∧ Txt.join " " (prt t) = t ∧ wsz (prt t) ≤ t.length + 1 := by
  have key : (∀ w ∈ prt t, goodW w) ∧ Txt.join " " (prt t) = t := by
    unfold prt
    by_cases c : t = ""
    · rw [if_pos c, c]
      exact ⟨fun w h => (by cases h), rfl⟩
    · rw [if_neg c]
      have hg := h.resolve_left c
      refine ⟨fun w hw => ⟨fun z => (split_gl t).mp hg (by rw [← z]; exact hw), ?_⟩, ?_⟩
      · rw [spc] at hw
        exact StrLaws.split_free t 32 w hw
      · rw [join_eq]
        exact StrLaws.join_split t " "
  refine ⟨key.1, key.2, ?_⟩
  have := join_len (prt t)
  rw [key.2] at this
  split at this <;> omega
theorem parted_of {t : Str} {Q : D → Prop} {E : Ex → Prop} (hl : t.length ≤ 1000000) (h1 : okL t → Q (.lst ((prt t).map D.str))) (h2 : ¬ okL t → Q .non) : S__law_parted [.str t] Q E := by
  unfold S__law_parted
  refine ⟨t, rfl, hl, fun z => ?_, fun z y => ?_, fun z y => h2 fun o => ?_⟩
  · have := h1 (.inl z)
    unfold prt at this
    rw [if_pos z] at this
    exact this
  · have := h1 (.inr y)
    unfold prt at this
    rw [if_neg z] at this
    exact this
  · rw [o.resolve_left z] at y
    cases y
theorem try2' {t : Str} {Q : D → Prop} {E : Ex → Prop} (hl : t.length ≤ 1000000) (h1 : okL t → Q (.tup [.str "told", .lst ((prt t).map D.str)])) (h2 : ¬ okL t → Q badT) : S__law_try [.int 2, .str t] Q E := by
  refine try2 hl (fun z => ?_) (fun z y => ?_) fun z y => h2 fun o => ?_
  · have := h1 (.inl z)
    unfold prt at this
    rw [if_pos z] at this
    exact this
  · have := h1 (.inr y)
    unfold prt at this
    rw [if_neg z] at this
    exact this
  · rw [o.resolve_left z] at y
    cases y
abbrev s__law_line_judged : Stmt := top 49
theorem sc__law_line_judged : FnScope ["line", "due", "told"] ["line"] (defScope s__law_line_judged) := ⟨rfl, rfl, rfl, by decide +kernel, rfl, by decide +kernel, by decide +kernel⟩
def S__law_line_judged : DSp := fun ds Q E => ∃ t : Str, ds = [.str t] ∧ t.length ≤ 90000 ∧ Q (.bl true)
theorem len__law_line_judged {ds : List D} {Q : D → Prop} {E : Ex → Prop} (h : S__law_line_judged ds Q E) : ds.length = 1 := by obtain ⟨g, h, _⟩ := h; rw [h]; rfl
theorem ok__law_line_judged (T : Txt P K mg) (h__law_parted : Has P w K mg base "_law_parted" 1 false S__law_parted) (h__law_same : Has P w K mg base "_law_same" 5 false S__law_same) (h__law_try : Has P w K mg base "_law_try" 4 false S__law_try) (hs__law_spoil : HasSp P w K mg base "_law_spoil" 2) {f : Addr} {fd : FuncData} (F : Fun K "_law_line_judged" "_law_line_judged" s__law_line_judged f fd) : FnOk P w K mg base (L2N.CX P w) 6 f fd ["line"] (spD K mg false S__law_line_judged) := by
  refine fn_ok F sc__law_line_judged (fun ds Qd Ed h => len__law_line_judged h) (fun cdv Ar outer s H E R M ds Qd Ed hr hK hm h0 h => ?_)
  subst hK hm
  refine ⟨_, (gss_cons (gs_asg (i := 1) (ge_call (Has.call h__law_parted (hr.mono (by decide)) (L2N.takes_of rfl rfl rfl rfl)) (gl_cons (ge_var (pv 0)) gl_nil) h0) sc__law_line_judged.nd rfl (by first | exact Or.inl rfl | exact Or.inr rfl))
    (gss_new (i := 2) (Has.call h__law_try (hr.mono (by decide)) (L2N.takes_of rfl rfl rfl rfl)) (gl_cons ge_int (gl_cons (ge_var (pv 0)) gl_nil)) h0 (gns_if (gt_c cm_isN (ge_var (pv 1)) ge_non) (gss_one (gs_ret (ge_call (Has.call h__law_same (hr.mono (by decide)) (L2N.takes_of rfl rfl rfl rfl)) (gl_cons (ge_var (pv 2)) (gl_cons (ge_tup (gl_cons ge_str (gl_cons (ge_tup (gl_cons ge_str (gl_cons ge_int gl_nil))) gl_nil))) gl_nil)) h0)))
    (gns_if (gt_not (gt_val (ge_call (Has.call h__law_same (hr.mono (by decide)) (L2N.takes_of rfl rfl rfl rfl)) (gl_cons (ge_var (pv 2)) (gl_cons (ge_tup (gl_cons ge_str (gl_cons (ge_var (pv 1)) gl_nil))) gl_nil)) h0))) (gss_one (gs_ret ge_bl))
    (gns_spoil hs__law_spoil (hr.mono (by decide)) (L2N.takes_of rfl rfl rfl rfl) (fun B hB => (ge_ix (ge_var (pv 2)) ge_int (hK := congrArg RC.K hB)))
    (gss_cons (gs_asg (i := 2) (ge_call (Has.call h__law_try (hr.mono (by decide)) (L2N.takes_of rfl rfl rfl rfl)) (gl_cons ge_int (gl_cons (ge_var (pv 0)) gl_nil)) h0) sc__law_line_judged.nd rfl (by first | exact Or.inl rfl | exact Or.inr rfl))
    (gss_one (gs_ret (ge_and (ge_call (Has.call h__law_same (hr.mono (by decide)) (L2N.takes_of rfl rfl rfl rfl)) (gl_cons (ge_var (pv 2)) (gl_cons (ge_tup (gl_cons ge_str (gl_cons (ge_var (pv 1)) gl_nil))) gl_nil)) h0) (ge_one (ge_call (Has.call h__law_same (hr.mono (by decide)) (L2N.takes_of rfl rfl rfl rfl)) (gl_cons (ge_call (Has.call h__law_try (hr.mono (by decide)) (L2N.takes_of rfl rfl rfl rfl)) (gl_cons ge_int (gl_cons (ge_ix (ge_var (pv 2)) ge_int) gl_nil)) h0) (gl_cons (ge_tup (gl_cons ge_str (gl_cons (ge_var (pv 0)) gl_nil))) gl_nil)) h0))))))))) sc__law_line_judged.nd rfl (by first | exact Or.inl rfl | exact Or.inr rfl))), ?_⟩
  obtain ⟨t, rfl, hl, hq⟩ := h
  have hL : (LINE : Nat) = 16777216 := rfl
  have two : 2 ≤ LINE := by omega
  have fl : ∀ d ∈ [D.int 2, .str t], d.flat = true := fun d hd => by
    simp only [List.mem_cons, List.not_mem_nil, or_false] at hd
    rcases hd with rfl | rfl <;> rfl
  refine parted_of (t := t) (by omega) (fun o => ?_) (fun o => ?_)
  · obtain ⟨p1, p2, p3⟩ := prt_ok o
    have plp : Pl 2 (.lst ((prt t).map D.str)) := pl_ws (by omega)
    refine ⟨by show 2 < 3; decide, fl, ?_⟩
    refine try2' (by omega) (fun _ => ?_) fun n => absurd o n
    refine ⟨two, same_ok (pl_told plp) (ifn (by decide) ?_)⟩
    refine ⟨_, rfl, _, rfl, fun e he => ?_, ?_, ?_⟩
    · obtain ⟨w, _, rfl⟩ := List.mem_map.mp he
      rfl
    · rw [List.length_map]
      unfold wsz at p3
      omega
    refine try2' (by omega) (fun _ => ?_) fun n => absurd o n
    refine ⟨two, same_ok (pl_told plp) ?_⟩
    refine ⟨_, rfl, try3 (.inl rfl) (by omega) (fun _ => ?_) fun n => absurd p1 n⟩
    rw [p2]
    exact ⟨two, same_ok (pl_told (Pl.flat rfl)) hq⟩
  · refine ⟨by show 2 < 3; decide, fl, ?_⟩
    refine try2' (by omega) (fun n => absurd n o) (fun _ => ?_)
    exact ⟨two, two, same_ok pl_bad hq⟩
abbrev s__law_joined : Stmt := top 50
theorem sc__law_joined : FnScope ["words", "more", "passed"] ["words", "more"] (defScope s__law_joined) := ⟨rfl, rfl, rfl, by decide +kernel, rfl, by decide +kernel, by decide +kernel⟩
def S__law_joined : DSp := fun ds Q E => ∃ (ws : List Str) (m : Str), ds = [.lst (ws.map D.str), .str m] ∧ wsz ws ≤ 100000 ∧ m.length ≤ 100 ∧ (∀ w ∈ ws, goodW w) ∧ goodW m ∧ Q (.bl true)
theorem len__law_joined {ds : List D} {Q : D → Prop} {E : Ex → Prop} (h : S__law_joined ds Q E) : ds.length = 2 := by obtain ⟨g, _, h, _⟩ := h; rw [h]; rfl
theorem ok__law_joined (T : Txt P K mg) (h__law_same : Has P w K mg base "_law_same" 5 false S__law_same) (h__law_try : Has P w K mg base "_law_try" 4 false S__law_try) {f : Addr} {fd : FuncData} (F : Fun K "_law_joined" "_law_joined" s__law_joined f fd) : FnOk P w K mg base (L2N.CX P w) 6 f fd ["words", "more"] (spD K mg false S__law_joined) := by
  refine fn_ok F sc__law_joined (fun ds Qd Ed h => len__law_joined h) (fun cdv Ar outer s H E R M ds Qd Ed hr hK hm h0 h => ?_)
  subst hK hm
  refine ⟨_, (gss_cons (gs_asgO (i := 2) (gf_list (by rfl) T.list (ge_var (pv 0))) sc__law_joined.nd rfl (by first | exact Or.inl rfl | exact Or.inr rfl))
    (gss_cons (gs_if (gt_bor (i := 2) (GW.t (gw_or (gt_not (gt_val (ge_call (Has.call h__law_same (hr.mono (by decide)) (L2N.takes_of rfl rfl rfl rfl)) (gl_cons (ge_call (Has.call h__law_try (hr.mono (by decide)) (L2N.takes_of rfl rfl rfl rfl)) (gl_cons ge_int (gl_cons (ge_var (pv 2)) gl_nil)) h0) (gl_cons (ge_tup (gl_cons ge_str (gl_cons (ge_join ge_str (ge_var (pv 0))) gl_nil))) gl_nil)) h0))) (gw_or1 (gt_not (gt_val (ge_call (Has.call h__law_same (hr.mono (by decide)) (L2N.takes_of rfl rfl rfl rfl)) (gl_cons (ge_var (pv 2)) (gl_cons (ge_var (pv 0)) gl_nil)) h0))))))) (gss_one (gs_ret ge_bl)) gss_nil)
    (gss_cons (gs_app (pv 2) (ge_var (pv 1)))
    (gss_freeze (i := 2) <| gss_cons (gs_if (gt_not (gt_val (ge_call (Has.call h__law_same (hr.mono (by decide)) (L2N.takes_of rfl rfl rfl rfl)) (gl_cons (ge_call (Has.call h__law_try (hr.mono (by decide)) (L2N.takes_of rfl rfl rfl rfl)) (gl_cons ge_int (gl_cons (ge_var (pv 2)) gl_nil)) h0) (gl_cons (ge_tup (gl_cons ge_str (gl_cons (ge_join ge_str (ge_add (ge_var (pv 0)) (ge_lst (gl_cons (ge_var (pv 1)) gl_nil)))) gl_nil))) gl_nil)) h0))) (gss_one (gs_ret ge_bl)) gss_nil)
    (gss_one (gs_ret (ge_call (Has.call h__law_same (hr.mono (by decide)) (L2N.takes_of rfl rfl rfl rfl)) (gl_cons (ge_call (Has.call h__law_try (hr.mono (by decide)) (L2N.takes_of rfl rfl rfl rfl)) (gl_cons ge_int (gl_cons (ge_bltT (b_tuple) (by rfl) T.tuple PyProof.Rows.boot_tuple (gl_cons (ge_var (pv 0)) gl_nil)) gl_nil)) h0) (gl_cons (ge_tup (gl_cons ge_str (gl_cons (ge_join ge_str (ge_var (pv 0))) gl_nil))) gl_nil)) h0))))))), ?_⟩
  obtain ⟨ws, m, rfl, hw, hm, gw, gm, hq⟩ := h
  have hL : (LINE : Nat) = 16777216 := rfl
  have two : 2 ≤ LINE := by omega
  have q1 : (" " : Str).length = 1 := by decide +kernel
  have jn : ∀ ws : List Str, wsz ws ≤ 200000 → (ws.map (·.length)).sum + ws.length * (" " : Str).length ≤ LINE := fun ws h => by
    unfold wsz at h
    rw [q1]
    omega
  have wm : wsz (ws ++ [m]) ≤ 200000 := by
    rw [wsz_app]
    show _ + ((m.length + 0) + 1) ≤ _
    omega
  have gm2 : ∀ w ∈ ws ++ [m], goodW w := fun w h => by
    rcases List.mem_append.mp h with h | h
    · exact gw w h
    · rw [List.mem_singleton.mp h]; exact gm
  have em : ws.map D.str ++ [D.str m] = (ws ++ [m]).map D.str := by rw [List.map_append]; rfl
  refine try3 (ws := ws) (.inl rfl) (by omega) (fun _ => ?_) (fun n => absurd gw n)
  refine ⟨ws, rfl, jn ws (by omega), two, same_ok (pl_told (Pl.flat rfl)) (ifn (c := false = true) (by decide) ?_)⟩
  refine same_ok (Pl.mono (pl_ws (by omega))) (ifn (c := false = true) (by decide) ?_)
  refine ⟨?_, ?_⟩
  · show (ws.map D.str).length < 16777216
    rw [List.length_map]
    unfold wsz at hw
    omega
  rw [em]
  refine try3 (ws := ws ++ [m]) (.inl rfl) (by omega) (fun _ => ?_) (fun n => absurd gm2 n)
  refine ⟨by show 1 ≤ 16777216; decide, ?_, ?_⟩
  · show (ws.map D.str).length + 1 ≤ 16777216
    rw [List.length_map]
    unfold wsz at hw
    omega
  rw [em]
  refine ⟨ws ++ [m], rfl, jn _ wm, two, same_ok (pl_told (Pl.flat rfl)) (ifn (c := false = true) (by decide) ?_)⟩
  refine try3 (ws := ws) (.inr rfl) (by omega) (fun _ => ?_) (fun n => absurd gw n)
  exact ⟨ws, rfl, jn ws (by omega), two, same_ok (pl_told (Pl.flat rfl)) hq⟩
abbrev s__law_unjoined : Stmt := top 51
theorem sc__law_unjoined : FnScope ["store", "words", "at", "bad", "found", "due"] ["store", "words"] (defScope s__law_unjoined) := ⟨rfl, rfl, rfl, by decide +kernel, rfl, by decide +kernel, by decide +kernel⟩
def S__law_unjoined : DSp := fun ds Q E => ∃ ws : List Str, ds = [.sto, .lst (ws.map D.str)] ∧ wsz ws ≤ 100000 ∧ (∀ w ∈ ws, goodW w) ∧ Q (.bl true)
theorem len__law_unjoined {ds : List D} {Q : D → Prop} {E : Ex → Prop} (h : S__law_unjoined ds Q E) : ds.length = 2 := by obtain ⟨g, h, _⟩ := h; rw [h]; rfl
theorem ok__law_unjoined (T : Txt P K mg) (h__law_edge : Has P w K mg base "_law_edge" 3 false S__law_edge) (h__law_same : Has P w K mg base "_law_same" 5 false S__law_same) (h__law_take : Has P w K mg base "_law_take" 2 false S__law_take) (h__law_try : Has P w K mg base "_law_try" 4 false S__law_try) (h__law_word : Has P w K mg base "_law_word" 3 false S__law_word) {f : Addr} {fd : FuncData} (F : Fun K "_law_unjoined" "_law_unjoined" s__law_unjoined f fd) : FnOk P w K mg base (L2N.CX P w) 6 f fd ["store", "words"] (spD K mg false S__law_unjoined) := by
  refine fn_ok F sc__law_unjoined (fun ds Qd Ed h => len__law_unjoined h) (fun cdv Ar outer s H E R M ds Qd Ed hr hK hm h0 h => ?_)
  subst hK hm
  refine ⟨_, (gss_cons (gs_asg (i := 2) (ge_call (Has.call h__law_edge (hr.mono (by decide)) (L2N.takes_of rfl rfl rfl rfl)) (gl_cons (ge_var (pv 0)) (gl_cons (ge_add (ge_blt (b_len) (by rfl) T.len PySem.boot_len (gl_cons (ge_var (pv 1)) gl_nil)) ge_int) gl_nil)) h0) sc__law_unjoined.nd rfl (by first | exact Or.inl rfl | exact Or.inr rfl))
    (gss_cons (gs_asg (i := 3) (ge_ix (ge_lst (gl_cons ge_str (gl_cons ge_str (gl_cons ge_str (gl_cons ge_str (gl_cons ge_str (gl_cons ge_str (gl_cons (ge_add (ge_add (ge_call (Has.call h__law_word (hr.mono (by decide)) (L2N.takes_of rfl rfl rfl rfl)) (gl_cons (ge_var (pv 0)) gl_nil) h0) ge_str) (ge_call (Has.call h__law_word (hr.mono (by decide)) (L2N.takes_of rfl rfl rfl rfl)) (gl_cons (ge_var (pv 0)) gl_nil) h0)) gl_nil)))))))) (ge_call (Has.call h__law_take (hr.mono (by decide)) (L2N.takes_of rfl rfl rfl rfl)) (gl_cons (ge_var (pv 0)) (gl_cons ge_int gl_nil)) h0)) sc__law_unjoined.nd rfl (by first | exact Or.inl rfl | exact Or.inr rfl))
    (gss_cons (gs_asg (i := 4) (ge_add (ge_add (ge_sl (ge_var (pv 1)) go_none (go_some (ge_var (pv 2)))) (ge_lst (gl_cons (ge_var (pv 3)) gl_nil))) (ge_sl (ge_var (pv 1)) (go_some (ge_var (pv 2))) go_none)) sc__law_unjoined.nd rfl (by first | exact Or.inl rfl | exact Or.inr rfl))
    (gss_cons (gs_asg (i := 5) (ge_tup (gl_cons ge_str (gl_cons (ge_tup (gl_cons ge_str (gl_cons ge_int gl_nil))) gl_nil))) sc__law_unjoined.nd rfl (by first | exact Or.inl rfl | exact Or.inr rfl))
    (gss_one (gs_ret (ge_and (ge_call (Has.call h__law_same (hr.mono (by decide)) (L2N.takes_of rfl rfl rfl rfl)) (gl_cons (ge_call (Has.call h__law_try (hr.mono (by decide)) (L2N.takes_of rfl rfl rfl rfl)) (gl_cons ge_int (gl_cons (ge_bltT (b_list (by rfl)) (by rfl) T.list PyProof.Rows.boot_list (gl_cons (ge_var (pv 4)) gl_nil)) gl_nil)) h0) (gl_cons (ge_var (pv 5)) gl_nil)) h0) (ge_one (ge_call (Has.call h__law_same (hr.mono (by decide)) (L2N.takes_of rfl rfl rfl rfl)) (gl_cons (ge_call (Has.call h__law_try (hr.mono (by decide)) (L2N.takes_of rfl rfl rfl rfl)) (gl_cons ge_int (gl_cons (ge_bltT (b_tuple) (by rfl) T.tuple PyProof.Rows.boot_tuple (gl_cons (ge_var (pv 4)) gl_nil)) gl_nil)) h0) (gl_cons (ge_var (pv 5)) gl_nil)) h0))))))))), ?_⟩
  obtain ⟨ws, rfl, hw, gw, hq⟩ := h
  have hL : (LINE : Nat) = 16777216 := rfl
  have two : 2 ≤ LINE := by omega
  have q1 : (" " : Str).length = 1 := by decide +kernel
  refine ⟨_, rfl, by rw [List.length_map]; unfold wsz at hw; omega, fun a a1 a2 => ?_⟩
  refine ⟨rfl, fun u gu lu => ⟨by omega, rfl, fun v gv lv => ⟨by rw [len_app]; omega, by show 7 ≤ 16777216; decide, 7, rfl, by decide, fun z z1 z2 => ?_⟩⟩⟩
  have hb : ∃ b : Str, L2.atI ([D.str "", .str " ", .str "a ", .str " a", .str "a b", .str "  ", .str (u ++ " " ++ v)]) z = some (.str b) ∧ ¬ goodW b ∧ b.length ≤ 20 := by
    have sp : ∀ b : Str, (32 ∈ tl b) → ¬ goodW b := fun b h g => g.2 h
    have hz : z = 0 ∨ z = 1 ∨ z = 2 ∨ z = 3 ∨ z = 4 ∨ z = 5 ∨ z = 6 := by omega
    rcases hz with rfl | rfl | rfl | rfl | rfl | rfl | rfl
    · exact ⟨_, rfl, fun g => g.1 rfl, by decide +kernel⟩
    · exact ⟨_, rfl, sp _ (by decide +kernel), by decide +kernel⟩
    · exact ⟨_, rfl, sp _ (by decide +kernel), by decide +kernel⟩
    · exact ⟨_, rfl, sp _ (by decide +kernel), by decide +kernel⟩
    · exact ⟨_, rfl, sp _ (by decide +kernel), by decide +kernel⟩
    · exact ⟨_, rfl, sp _ (by decide +kernel), by decide +kernel⟩
    · exact ⟨_, rfl, sp _ (by rw [tl_append, tl_append, tl_spc]; simp), by rw [len_app, len_app]; omega⟩
  obtain ⟨b, b1, b2, b3⟩ := hb
  refine ⟨_, b1, ?_⟩
  have aw : a.toNat ≤ ws.length := by rw [List.length_map] at a2; omega
  have wl : ws.length ≤ 100000 := by unfold wsz at hw; omega
  have e1 : Nb.cutD (ws.map D.str) none (some a) = (ws.take a.toNat).map D.str := by
    rw [List.map_take, show a = ((a.toNat : Nat) : Int) by omega]
    exact cutD_take _ _ (by rw [List.length_map]; exact aw)
  have e2 : Nb.cutD (ws.map D.str) (some a) none = (ws.drop a.toNat).map D.str := by
    rw [List.map_drop, show a = ((a.toNat : Nat) : Int) by omega]
    exact cutD_drop _ _ (by rw [List.length_map]; exact aw)
  have w0 := wsz_take ws a.toNat
  have wf : wsz (ws.take a.toNat ++ [b] ++ ws.drop a.toNat) ≤ 200000 := by
    rw [wsz_app, wsz_app]
    have : wsz [b] = (b.length + 0) + 1 := rfl
    omega
  have bf : ¬ ∀ w ∈ ws.take a.toNat ++ [b] ++ ws.drop a.toNat, goodW w := fun h => b2 (h b (by simp))
  have ef : (ws.take a.toNat).map D.str ++ [D.str b] ++ (ws.drop a.toNat).map D.str = (ws.take a.toNat ++ [b] ++ ws.drop a.toNat).map D.str := by
    rw [List.map_append, List.map_append]
    rfl
  have l1 : (Nb.cutD (ws.map D.str) none (some a)).length ≤ 100000 := by rw [e1, List.length_map, List.length_take]; omega
  have l2 : (Nb.cutD (ws.map D.str) (some a) none).length ≤ 100000 := by rw [e2, List.length_map, List.length_drop]; omega
  refine ⟨by show 1 ≤ 16777216; decide, by show _ + 1 ≤ 16777216; omega, by show (Nb.cutD (ws.map D.str) none (some a) ++ [D.str b]).length + _ ≤ 16777216; rw [List.length_append]; show _ + 1 + _ ≤ _; omega, two, two, ?_⟩
  rw [e1, e2, ef]
  refine try3 (ws := ws.take a.toNat ++ [b] ++ ws.drop a.toNat) (.inl rfl) (by omega) (fun n => absurd n bf) fun _ => ?_
  refine same_ok pl_bad ?_
  refine try3 (ws := ws.take a.toNat ++ [b] ++ ws.drop a.toNat) (.inr rfl) (by omega) (fun n => absurd n bf) fun _ => ?_
  exact same_ok pl_bad hq
abbrev s__law_many_words : Stmt := top 52
theorem sc__law_many_words : FnScope ["store", "words", "at", "k"] ["store"] (defScope s__law_many_words) := ⟨rfl, rfl, rfl, by decide +kernel, rfl, by decide +kernel, by decide +kernel⟩
def S__law_many_words : DSp := fun ds Q E => ds = [.sto] ∧ ∀ ws : List Str, wsz ws ≤ 10000 → (∀ w ∈ ws, goodW w) → Q (.lst (ws.map D.str))
theorem len__law_many_words {ds : List D} {Q : D → Prop} {E : Ex → Prop} (h : S__law_many_words ds Q E) : ds.length = 1 := by obtain ⟨h, _⟩ := h; rw [h]; rfl
theorem ok__law_many_words (T : Txt P K mg) (h__law_edge : Has P w K mg base "_law_edge" 3 false S__law_edge) (h__law_take : Has P w K mg base "_law_take" 2 false S__law_take) (h__law_words : Has P w K mg base "_law_words" 4 true S__law_words) {f : Addr} {fd : FuncData} (F : Fun K "_law_many_words" "_law_many_words" s__law_many_words f fd) : FnOk P w K mg base (L2N.CX P w) 5 f fd ["store"] (spD K mg true S__law_many_words) := by
  refine fn_ok F sc__law_many_words (fun ds Qd Ed h => len__law_many_words h) (fun cdv Ar outer s H E R M ds Qd Ed hr hK hm h0 h => ?_)
  subst hK hm
  refine ⟨_, (gss_cons (gs_asgO (i := 1) (gf_call (Has.call h__law_words (hr.mono (by decide)) (L2N.takes_of rfl rfl rfl rfl)) (gl_cons (ge_var (pv 0)) gl_nil) h0) sc__law_many_words.nd rfl (by first | exact Or.inl rfl | exact Or.inr rfl))
    (gss_cons (gs_if (GW.t (gw_and (gt_c (cm_eq (room_units hr)) (ge_call (Has.call h__law_take (hr.mono (by decide)) (L2N.takes_of rfl rfl rfl rfl)) (gl_cons (ge_var (pv 0)) (gl_cons ge_int gl_nil)) h0) ge_int) (gw_and1 (gt_c cm_gt (ge_lenO (pv 1) (by rfl) T.len) ge_int)))) (gss_freeze (i := 1) <| gss_one (gs_asgO (i := 1) (gf_lc (own := [("k", 3)]) (js := [3]) (by rfl) sc__law_many_words.nd (gi_rng1 (by rfl) T.range (gl_cons (ge_add ge_int (ge_call (Has.call h__law_edge (hr.mono (by decide)) (L2N.takes_of rfl rfl rfl rfl)) (gl_cons (ge_var (pv 0)) (gl_cons ge_int gl_nil)) h0)) gl_nil)) (by show blkC ["store", "words", "at", "k"] (defScope s__law_many_words) _ _ = true; decide +kernel) (by decide) (fun B hB _ _ _ _ _ => gg_name (i := 3) sc__law_many_words.nd rfl (by first | exact Or.inl rfl | exact Or.inr rfl)) (fun B hB _ _ _ _ _ => gts_nil) (fun B hB _ _ _ _ _ => (ge_ix (ge_var (pv 1)) (ge_mod (ge_bltT (b_int) (by rfl) T.int PyProof.Rows.boot_int (gl_cons (ge_add (ge_mulT (ge_var (pv 3)) ge_int) (ge_fdiv (ge_var (pv 3)) ge_int) (hK := congrArg RC.K hB)) gl_nil)) (ge_blt (b_len (hK := congrArg RC.K hB)) (by rfl) T.len PySem.boot_len (gl_cons (ge_var (pv 1)) gl_nil))) (hK := congrArg RC.K hB)))) sc__law_many_words.nd rfl (by first | exact Or.inl rfl | exact Or.inr rfl))) gss_nil)
    (gss_cons (gs_if (GW.t (gw_and (gt_c (cm_eq (room_units hr)) (ge_call (Has.call h__law_take (hr.mono (by decide)) (L2N.takes_of rfl rfl rfl rfl)) (gl_cons (ge_var (pv 0)) (gl_cons ge_int gl_nil)) h0) ge_int) (gw_and1 (gt_c cm_gt (ge_lenO (pv 1) (by rfl) T.len) ge_int)))) (gss_cons (gs_asg (i := 2) (ge_call (Has.call h__law_edge (hr.mono (by decide)) (L2N.takes_of rfl rfl rfl rfl)) (gl_cons (ge_var (pv 0)) (gl_cons (ge_lenO (pv 1) (by rfl) T.len) gl_nil)) h0) sc__law_many_words.nd rfl (by first | exact Or.inl rfl | exact Or.inr rfl))
    (gss_one (gs_seti (pv 1) (ge_var (pv 2)) (ge_add (ge_ixO (pv 1) (ge_var (pv 2))) (ge_mulT ge_str (ge_call (Has.call h__law_take (hr.mono (by decide)) (L2N.takes_of rfl rfl rfl rfl)) (gl_cons (ge_var (pv 0)) (gl_cons ge_int gl_nil)) h0)))))) gss_nil)
    (gss_one (gs_retO (pv 1)))))), ?_⟩
  obtain ⟨rfl, hq⟩ := h
  have hL : (LINE : Nat) = 16777216 := rfl
  have lx : ("x" : Str).length = 1 := by decide +kernel
  have tx : tl ("x" : Str) = [120] := by rw [tl_ofString]; rfl
  have key : ∀ (ws : List Str) (x y : SD), wsz ws ≤ 8000 → (∀ w ∈ ws, goodW w) → dseq
      (dif
        (dand
          (dtest (dop dEq (dcall S__law_take (dcons (dvar 0) (dcons (dk (D.int 8)) dnil))) (dk (D.int 0))))
          (dtest (dop dGt (dlenO 1) (dk (D.int 0)))))
        (dseq (dasg 2 (dcall S__law_edge (dcons (dvar 0) (dcons (dlenO 1) dnil))))
          (dseti 1 (dvar 2)
            (dop dAdd (dixO 1 (dvar 2))
              (dop dMulT (dk (D.str (Str.ofString "x")))
                (dcall S__law_take (dcons (dvar 0) (dcons (dk (D.int 2000)) dnil)))))))
        dnext)
      (dretO 1) (endD true Qd Ed) [.val .sto, .own (ws.map D.str), x, y] := by
    intro ws x y hw gw
    have wl : ws.length ≤ 8000 := by unfold wsz at hw; omega
    refine ⟨8, rfl, by decide, fun z z1 z2 => ⟨.inl rfl, ?_⟩⟩
    show if (z == 0) = true then _ else _
    have fin : Qd (.lst (ws.map D.str)) := hq ws (by omega) gw
    by_cases c : z = 0
    · refine ifp (by rw [c]; rfl) ?_
      show if decide (((ws.map D.str).length : Int) > 0) = true then _ else _
      by_cases c2 : 0 < ws.length
      · refine ifp (decide_eq_true (by rw [List.length_map]; omega)) ?_
        refine ⟨_, rfl, by rw [List.length_map]; omega, fun a a1 a2 => ?_⟩
        have a3 : a.toNat < ws.length := by rw [List.length_map] at a2; omega
        have ea : ((a.toNat : Nat) : Int) = a := by omega
        have at_ : L2.atI (ws.map D.str) a = some (.str ws[a.toNat]) := by
          have := atI_nat (l := ws.map D.str) (k := a.toNat) (by rw [List.length_map]; exact a3)
          rw [ea, List.getElem_map] at this
          exact this
        have lw : ws[a.toNat].length ≤ wsz ws := by
          unfold wsz
          have : ∀ (l : List Str) (k : Nat) (h : k < l.length), l[k].length ≤ (l.map (·.length)).sum := fun l => by
            induction l with
            | nil => intro k h; cases h
            | cons p l ih =>
              intro k h
              rw [List.map_cons, List.sum_cons]
              match k, h with
              | 0, _ => exact Nat.le_add_right _ _
              | k + 1, h =>
                have h' : k < l.length := Nat.lt_of_succ_lt_succ h
                exact Nat.le_trans (ih k h') (Nat.le_add_left _ _)
          have := this ws a.toNat a3
          omega
        refine ⟨.str ws[a.toNat], at_, 2000, rfl, by decide, fun n n1 n2 => ?_⟩
        have lr := repS_len "x" n.toNat
        rw [lx, Nat.one_mul] at lr
        refine ⟨⟨n1, by rw [lx]; decide, by rw [lx]; omega⟩, by omega, a, rfl, a.toNat, ixn_of a1 (by rw [List.length_map] at a2 ⊢; omega), ?_⟩
        have tr : tl (repS "x" n.toNat) = List.replicate n.toNat 120 := by
          show (repS "x" n.toNat).cps.toList = _
          rw [repS_list]
          show (List.replicate n.toNat (tl "x")).flatten = _
          rw [tx]
          clear lr n2 n1
          induction n.toNat with
          | zero => rfl
          | succ m ih => rw [List.replicate_succ, List.flatten_cons, ih, List.replicate_succ]; rfl
        have gw' := gw _ (List.getElem_mem a3)
        have es : (ws.map D.str).set a.toNat (.str (ws[a.toNat] ++ repS "x" n.toNat)) = (ws.set a.toNat (ws[a.toNat] ++ repS "x" n.toNat)).map D.str := by rw [List.map_set]
        have gs : ∀ w ∈ ws.set a.toNat (ws[a.toNat] ++ repS "x" n.toNat), goodW w := fun w h => by
          rcases List.mem_or_eq_of_mem_set h with h | rfl
          · exact gw w h
          · refine ⟨fun z => gw'.1 ?_, fun z => ?_⟩
            · have := congrArg tl z
              rw [tl_append, tl_nil] at this
              exact ext_tl (by rw [(List.append_eq_nil_iff.mp this).1, tl_nil])
            · rw [tl_append, tr] at z
              rcases List.mem_append.mp z with z | z
              · exact gw'.2 z
              · have := List.eq_of_mem_replicate z
                omega
        have ss : wsz (ws.set a.toNat (ws[a.toNat] ++ repS "x" n.toNat)) ≤ wsz ws + n.toNat := by
          have : ∀ (l : List Str) (k : Nat) (h : k < l.length) (u : Str), wsz (l.set k (l[k] ++ u)) ≤ wsz l + u.length := fun l => by
            induction l with
            | nil => intro k h; cases h
            | cons p l ih =>
              intro k h u
              match k, h with
              | 0, _ =>
                show wsz ((p ++ u) :: l) ≤ wsz (p :: l) + u.length
                unfold wsz
                rw [List.map_cons, List.map_cons, List.sum_cons, List.sum_cons, len_app, List.length_cons, List.length_cons]
                omega
              | k + 1, h =>
                have h' : k < l.length := Nat.lt_of_succ_lt_succ h
                have := ih k h' u
                show wsz (p :: l.set k (l[k] ++ u)) ≤ wsz (p :: l) + u.length
                unfold wsz at *
                rw [List.map_cons, List.map_cons, List.sum_cons, List.sum_cons, List.length_cons, List.length_cons]
                omega
          have := this ws a.toNat a3 (repS "x" n.toNat)
          omega
        have f2 := hq _ (by omega) gs
        rw [← es] at f2
        exact f2
      · exact ifn (fun z => by have := of_decide_eq_true z; rw [List.length_map] at this; omega) fin
    · exact ifn (fun z => c (by simpa using z)) fin
  refine ⟨rfl, fun ws w1 w2 => ?_⟩
  have hw : wsz ws ≤ 8 * ws.length := by
    clear w1
    induction ws with
    | nil => exact Nat.zero_le _
    | cons p l ih =>
      have := ih fun w h => w2 w (List.mem_cons_of_mem _ h)
      have := (w2 p (List.mem_cons_self ..)).2
      unfold wsz at *
      show (p.length + (l.map (·.length)).sum) + (l.length + 1) ≤ 8 * (l.length + 1)
      omega
  refine ⟨16, rfl, by decide, fun z z1 z2 => ⟨.inl rfl, ?_⟩⟩
  show if (z == 0) = true then _ else _
  by_cases c : z = 0
  · refine ifp (by rw [c]; rfl) ?_
    show if decide (((ws.map D.str).length : Int) > 0) = true then _ else _
    by_cases c2 : 0 < ws.length
    · refine ifp (decide_eq_true (by rw [List.length_map]; omega)) ?_
      have wl : ws.length ≤ 120 := w1
      refine dlc_anyR D.str (fun w : Str => w ∈ ws) (hi := 598) (fun Q' h => ⟨590, rfl, by decide, fun n n1 n2 => ⟨by omega, by omega, h _ (by omega)⟩⟩) (by decide) (fun i hi Q' h => ?_) (fun as la ha => ?_)
      · refine ⟨mulOk (a := 19) (b := 3) (by omega) (by omega) (by decide), divOk (b := 40) (by omega) (by show _ < 1099511627776; omega) (by decide), ?_⟩
        refine ⟨show (0 : Int) < ((ws.map D.str).length : Nat) by rw [List.length_map]; omega, ?_⟩
        have m1 := Int.emod_nonneg ((i : Int) * 7 + (i : Int) / 9) (b := (((ws.map D.str).length : Nat) : Int)) (by rw [List.length_map]; omega)
        have m2 := Int.emod_lt_of_pos ((i : Int) * 7 + (i : Int) / 9) (b := (((ws.map D.str).length : Nat) : Int)) (by rw [List.length_map]; omega)
        obtain ⟨d, d1, d2, _⟩ := atI_int (l := ws.map D.str) m1 m2
        obtain ⟨w, hw, rfl⟩ := List.mem_map.mp d2
        exact ⟨_, d1, h w hw⟩
      · have g : ∀ (l : List Str), (∀ a ∈ l, a ∈ ws) → wsz l ≤ 8 * l.length := fun l => by
          induction l with
          | nil => intro _; exact Nat.zero_le _
          | cons p l ih =>
            intro h
            have := ih fun w z => h w (List.mem_cons_of_mem _ z)
            have := (w2 p (h p (List.mem_cons_self ..))).2
            unfold wsz at *
            rw [List.map_cons, List.sum_cons, List.length_cons]
            omega
        exact key as .un .un (by have := g as ha; omega) fun w h => (w2 w (ha w h)).1
    · exact ifn (fun z => by have := of_decide_eq_true z; rw [List.length_map] at this; omega) (key ws .un .un (by omega) fun w h => (w2 w h).1)
  · exact ifn (fun z => c (by simpa using z)) (key ws .un .un (by omega) fun w h => (w2 w h).1)
end
end LW
set_option maxRecDepth 100000
set_option maxHeartbeats 4000000
namespace LW
open PySem PySem.Spec PyProof.Rows L2 Nb TL
section
variable {P : Program} {w : World} {K : PySem.W.Frag} {mg : Str → Option Value} {base : Heap}
theorem for_any {gi : DI} {t : DG} {s : DS} {K : KEnd} {env : DEnv} (ok : D → Prop) (I : DEnv → Prop) (hg : ∀ (Q : List D → Prop) (Ed : Ex → Prop), (∀ ds : List D, (∀ d ∈ ds, ok d) → Q ds) → gi env Q Ed) (h0 : I env)
    (step : ∀ (d : D) (env' : DEnv), ok d → I env' → t d env' fun env2 => s { K with nx := I, ct := I, bk := K.nx } env2) (fin : ∀ env', I env' → K.nx env') : dfor gi t s K env := by
  unfold dfor
  exact hg _ _ fun ds hd => ⟨fun _ => I, h0, fun i d env' e hi => step d env' (hd d (List.mem_of_getElem? e)) hi, fun env' hi => fin env' hi⟩
abbrev s_law : Stmt := top 53
theorem sc_law : FnScope ["script", "store", "k", "name", "short", "longer", "text", "words", "line", "j"] ["script"] (defScope s_law) := ⟨rfl, rfl, rfl, by decide +kernel, rfl, by decide +kernel, by decide +kernel⟩
theorem ok_law (T : Txt P K mg) (h__law_free : Has P w K mg base "_law_free" 3 false S__law_free) (h__law_joined : Has P w K mg base "_law_joined" 6 false S__law_joined) (h__law_line_judged : Has P w K mg base "_law_line_judged" 6 false S__law_line_judged) (h__law_many_words : Has P w K mg base "_law_many_words" 5 true S__law_many_words) (h__law_name : Has P w K mg base "_law_name" 4 false S__law_name) (h__law_name_judged : Has P w K mg base "_law_name_judged" 6 false S__law_name_judged) (h__law_not_name : Has P w K mg base "_law_not_name" 5 false S__law_not_name) (h__law_spaced : Has P w K mg base "_law_spaced" 3 false S__law_spaced) (h__law_take : Has P w K mg base "_law_take" 2 false S__law_take) (h__law_unjoined : Has P w K mg base "_law_unjoined" 6 false S__law_unjoined) (h__law_word : Has P w K mg base "_law_word" 3 false S__law_word) {fS : Addr} {fdS : FuncData} (FS : FnOk P w K mg base (L2N.CX P w) 1 fS fdS ["script"] (spStore K)) (mS : mg "_law_store" = some (.ref fS)) (kS : PySem.W.keepIn K (.ref fS) = true) (bS : Binds K fdS ["script"] []) {f : Addr} {fd : FuncData} (F : Fun K "law" "law" s_law f fd) : FnOk P w K mg base (L2N.CX P w) 8 f fd ["script"] (spLaw K) := by
  refine F.okN sc_law (fun vs H Q E h => by obtain ⟨a, ns, rfl, _⟩ := h; rfl) fun cdv Ar outer s H vs Q E hr ⟨a, ns, e, hs, hl, q⟩ => ?_
  subst e
  have h0 : (none : Option (Addr × Addr × Option Addr)) = none := rfl
  refine ⟨_, pss_cons (ps_set (i := 1) sc_law.nd rfl (by first | exact Or.inl rfl | exact Or.inr rfl) (by exact pe_callS FS (hr.mono (by decide)) (by rfl) mS kS bS (fun σ => L2N.passAt (W := fun cls d _ H => E cls d H) (L2N.takes_of rfl rfl rfl rfl) σ) (by exact pa_cons (pv 0) pa_nil))) (rest_act (W := fun cls d _ H => E cls d H) (K := K) (mg := mg) (fun B hKB hmB hxB hfB => (gss_cons (gs_for (passes_of rfl) (by rfl) (gi_rng1 (by rfl) T.range (gl_cons (ge_add ge_int (ge_call (Has.call h__law_take (hr.mono (by decide)) (L2N.takes_of rfl rfl rfl rfl)) (gl_cons (ge_var (pv 1)) (gl_cons ge_int gl_nil)) (hxB.trans h0) (hK := hKB) (hm := hmB)) (hK := hKB)) gl_nil)) (gg_name (i := 2) sc_law.nd rfl (by first | exact Or.inl rfl | exact Or.inr rfl)) (gss_cons (gs_asg (i := 3) (ge_call (Has.call h__law_name (hr.mono (by decide)) (L2N.takes_of rfl rfl rfl rfl)) (gl_cons (ge_var (pv 1)) gl_nil) (hxB.trans h0) (hK := hKB) (hm := hmB)) sc_law.nd rfl (by first | exact Or.inl rfl | exact Or.inr rfl))
    (gss_cons (gs_asg (i := 4) (ge_call (Has.call h__law_free (hr.mono (by decide)) (L2N.takes_of rfl rfl rfl rfl)) (gl_cons (ge_var (pv 1)) (gl_cons (ge_ix (ge_lst (gl_cons ge_str (gl_cons ge_str (gl_cons ge_str (gl_cons ge_str (gl_cons ge_str gl_nil)))))) (ge_call (Has.call h__law_take (hr.mono (by decide)) (L2N.takes_of rfl rfl rfl rfl)) (gl_cons (ge_var (pv 1)) (gl_cons ge_int gl_nil)) (hxB.trans h0) (hK := hKB) (hm := hmB)) (hK := hKB)) (gl_cons (ge_call (Has.call h__law_take (hr.mono (by decide)) (L2N.takes_of rfl rfl rfl rfl)) (gl_cons (ge_var (pv 1)) (gl_cons ge_int gl_nil)) (hxB.trans h0) (hK := hKB) (hm := hmB)) gl_nil))) (hxB.trans h0) (hK := hKB) (hm := hmB)) sc_law.nd rfl (by first | exact Or.inl rfl | exact Or.inr rfl))
    (gss_cons (gs_asg (i := 5) (ge_add (ge_var (pv 3)) (ge_mulT ge_str (ge_call (Has.call h__law_take (hr.mono (by decide)) (L2N.takes_of rfl rfl rfl rfl)) (gl_cons (ge_var (pv 1)) (gl_cons ge_int gl_nil)) (hxB.trans h0) (hK := hKB) (hm := hmB))) (hK := hKB)) sc_law.nd rfl (by first | exact Or.inl rfl | exact Or.inr rfl))
    (gss_cons (gs_for (passes_of rfl) (by rfl) (gi_list (ge_lst (gl_cons (ge_var (pv 3)) (gl_cons (ge_call (Has.call h__law_not_name (hr.mono (by decide)) (L2N.takes_of rfl rfl rfl rfl)) (gl_cons (ge_var (pv 1)) (gl_cons ge_bl gl_nil)) (hxB.trans h0) (hK := hKB) (hm := hmB)) (gl_cons (ge_var (pv 4)) (gl_cons (ge_var (pv 5)) (gl_cons (ge_var (pv 3)) gl_nil))))))) (gg_name (i := 6) sc_law.nd rfl (by first | exact Or.inl rfl | exact Or.inr rfl)) (gss_one (gs_if (gt_not (gt_val (ge_call (Has.call h__law_name_judged (hr.mono (by decide)) (L2N.takes_of rfl rfl rfl rfl)) (gl_cons (ge_var (pv 6)) gl_nil) (hxB.trans h0) (hK := hKB) (hm := hmB)))) (gss_one (gs_ret ge_bl (hf := hfB))) gss_nil)))
    (gss_cons (gs_asg (i := 7) (GF.e (gf_call (Has.call h__law_many_words (hr.mono (by decide)) (L2N.takes_of rfl rfl rfl rfl)) (gl_cons (ge_var (pv 1)) gl_nil) (hxB.trans h0) (hK := hKB) (hm := hmB))) sc_law.nd rfl (by first | exact Or.inl rfl | exact Or.inr rfl))
    (gss_cons (gs_asg (i := 8) (ge_join ge_str (ge_var (pv 7)) (hK := hKB)) sc_law.nd rfl (by first | exact Or.inl rfl | exact Or.inr rfl))
    (gss_cons (gs_if (GW.t (gw_or (gt_not (gt_val (ge_call (Has.call h__law_joined (hr.mono (by decide)) (L2N.takes_of rfl rfl rfl rfl)) (gl_cons (ge_var (pv 7)) (gl_cons (ge_call (Has.call h__law_word (hr.mono (by decide)) (L2N.takes_of rfl rfl rfl rfl)) (gl_cons (ge_var (pv 1)) gl_nil) (hxB.trans h0) (hK := hKB) (hm := hmB)) gl_nil)) (hxB.trans h0) (hK := hKB) (hm := hmB)))) (gw_or1 (gt_not (gt_val (ge_call (Has.call h__law_unjoined (hr.mono (by decide)) (L2N.takes_of rfl rfl rfl rfl)) (gl_cons (ge_var (pv 1)) (gl_cons (ge_var (pv 7)) gl_nil)) (hxB.trans h0) (hK := hKB) (hm := hmB))))))) (gss_one (gs_ret ge_bl (hf := hfB))) gss_nil)
    (gss_cons (gs_if (GW.t (gw_or (gt_not (gt_val (ge_call (Has.call h__law_line_judged (hr.mono (by decide)) (L2N.takes_of rfl rfl rfl rfl)) (gl_cons (ge_var (pv 8)) gl_nil) (hxB.trans h0) (hK := hKB) (hm := hmB)))) (gw_or1 (gt_not (gt_val (ge_call (Has.call h__law_line_judged (hr.mono (by decide)) (L2N.takes_of rfl rfl rfl rfl)) (gl_cons (ge_call (Has.call h__law_spaced (hr.mono (by decide)) (L2N.takes_of rfl rfl rfl rfl)) (gl_cons (ge_var (pv 1)) (gl_cons (ge_var (pv 7)) gl_nil)) (hxB.trans h0) (hK := hKB) (hm := hmB)) gl_nil) (hxB.trans h0) (hK := hKB) (hm := hmB))))))) (gss_one (gs_ret ge_bl (hf := hfB))) gss_nil)
    (gss_cons (gs_for (passes_of rfl) (by rfl) (gi_rng1 (by rfl) T.range (gl_cons ge_int gl_nil)) (gg_name (i := 9) sc_law.nd rfl (by first | exact Or.inl rfl | exact Or.inr rfl)) (gss_one (gs_if (gt_not (gt_val (ge_call (Has.call h__law_line_judged (hr.mono (by decide)) (L2N.takes_of rfl rfl rfl rfl)) (gl_cons (ge_call (Has.call h__law_free (hr.mono (by decide)) (L2N.takes_of rfl rfl rfl rfl)) (gl_cons (ge_var (pv 1)) (gl_cons (ge_ix (ge_lst (gl_cons ge_str (gl_cons ge_str (gl_cons ge_str (gl_cons ge_str gl_nil))))) (ge_call (Has.call h__law_take (hr.mono (by decide)) (L2N.takes_of rfl rfl rfl rfl)) (gl_cons (ge_var (pv 1)) (gl_cons ge_int gl_nil)) (hxB.trans h0) (hK := hKB) (hm := hmB)) (hK := hKB)) (gl_cons (ge_add (ge_mulT (ge_var (pv 9)) ge_int) (ge_var (pv 2)) (hK := hKB)) gl_nil))) (hxB.trans h0) (hK := hKB) (hm := hmB)) gl_nil) (hxB.trans h0) (hK := hKB) (hm := hmB)))) (gss_one (gs_ret ge_bl (hf := hfB))) gss_nil)))
    (gss_cons (gs_if (GW.t (gw_or (gt_not (gt_val (ge_call (Has.call h__law_line_judged (hr.mono (by decide)) (L2N.takes_of rfl rfl rfl rfl)) (gl_cons (ge_var (pv 3)) gl_nil) (hxB.trans h0) (hK := hKB) (hm := hmB)))) (gw_or (gt_not (gt_val (ge_call (Has.call h__law_line_judged (hr.mono (by decide)) (L2N.takes_of rfl rfl rfl rfl)) (gl_cons (ge_var (pv 8)) gl_nil) (hxB.trans h0) (hK := hKB) (hm := hmB)))) (gw_or1 (gt_not (gt_val (ge_call (Has.call h__law_joined (hr.mono (by decide)) (L2N.takes_of rfl rfl rfl rfl)) (gl_cons (ge_var (pv 7)) (gl_cons (ge_var (pv 3)) gl_nil)) (hxB.trans h0) (hK := hKB) (hm := hmB)))))))) (gss_one (gs_ret ge_bl (hf := hfB))) gss_nil)
    (gss_one (gs_if (GW.t (gw_or (gt_not (gt_val (ge_call (Has.call h__law_line_judged (hr.mono (by decide)) (L2N.takes_of rfl rfl rfl rfl)) (gl_cons ge_str gl_nil) (hxB.trans h0) (hK := hKB) (hm := hmB)))) (gw_or (gt_not (gt_val (ge_call (Has.call h__law_joined (hr.mono (by decide)) (L2N.takes_of rfl rfl rfl rfl)) (gl_cons (ge_lst gl_nil) (gl_cons (ge_var (pv 3)) gl_nil)) (hxB.trans h0) (hK := hKB) (hm := hmB)))) (gw_or1 (gt_not (gt_val (ge_call (Has.call h__law_name_judged (hr.mono (by decide)) (L2N.takes_of rfl rfl rfl rfl)) (gl_cons (ge_var (pv 8)) gl_nil) (hxB.trans h0) (hK := hKB) (hm := hmB)))))))) (gss_one (gs_ret ge_bl (hf := hfB))) gss_nil)))))))))))))
    (gss_one (gs_ret ge_bl (hf := hfB)))))), ?_⟩
  refine ⟨.ref a, rfl, a, ns, rfl, hs, hl, fun H1 p ms h1 hI => ?_⟩
  refine toS_store (N := 8) h1 hI rfl rfl ?_ q
  have hL : (LINE : Nat) = 16777216 := rfl
  have two : 2 ≤ LINE := by omega
  have la : ("a" : Str).length = 1 := by decide +kernel
  have q1 : (" " : Str).length = 1 := by decide +kernel
  refine for_rx (lo := 1) (hi := 3) (fun i env => ∃ x2 x3 x4 x5 x6 x7 x8 x9, env = [.un, .val .sto, x2, x3, x4, x5, x6, x7, x8, x9]) (fun Q' E' h => ⟨3, rfl, by decide, fun n n1 n2 => h _ (by omega) (by omega)⟩) (by decide) (by decide) ⟨.un, .un, .un, .un, .un, .un, .un, .un, rfl⟩ ?_ ?_
  · rintro i env' hi ⟨x2, x3, x4, x5, x6, x7, x8, x9, rfl⟩
    refine ⟨rfl, fun t t1 t2 t3 => ?_⟩
    have gt : goodW t := by
      refine ⟨fun z => by rw [z] at t1; exact absurd t1 (by decide), fun z => ?_⟩
      have := t3 32 z
      revert this
      decide
    refine ⟨by show 5 ≤ 16777216; decide, 5, rfl, by decide, fun z z1 z2 => ?_⟩
    obtain ⟨d, d1, d2, _⟩ := atI_int (l := ([ "ab", "az09", "am5_", "b7 A", "z0-~/." ] : List Str).map D.str) (i := z) z1 (by show z < ((5 : Nat) : Int); omega)
    obtain ⟨g, hg, rfl⟩ := List.mem_map.mp d2
    have gl0 : 0 < g.length ∧ g.length ≤ 1000 := by
      simp only [List.mem_cons, List.not_mem_nil, or_false] at hg
      rcases hg with rfl | rfl | rfl | rfl | rfl <;> decide +kernel
    refine ⟨_, d1, 15, rfl, by decide, fun n n1 n2 => ⟨g, n, rfl, gl0.1, gl0.2, ⟨by omega, by omega⟩, fun s s1 s2 => ?_⟩⟩
    refine ⟨200, rfl, by decide, fun m m1 m2 => ?_⟩
    have lr := repS_len "a" m.toNat
    rw [la, Nat.one_mul] at lr
    refine ⟨⟨m1, by rw [la]; decide, by rw [la]; omega⟩, by omega, ?_⟩
    generalize repS "a" m.toNat = aa at lr ⊢
    refine for_any (fun d => ∃ u : Str, d = .str u ∧ u.length ≤ 1000) (fun env => ∃ x6, env = [.un, .val .sto, .val (.int (i : Nat)), .val (.str t), .val (.str s), .val (.str (t ++ aa)), x6, x7, x8, x9]) (fun Q' E' h => ?_) ⟨x6, rfl⟩ ?_ ?_
    · refine ⟨rfl, fun u u1 => ⟨by show 5 ≤ 16777216; decide, h _ fun d hd => ?_⟩⟩
      simp only [List.mem_cons, List.not_mem_nil, or_false] at hd
      rcases hd with rfl | rfl | rfl | rfl | rfl
      · exact ⟨_, rfl, by omega⟩
      · exact ⟨_, rfl, by omega⟩
      · exact ⟨_, rfl, by omega⟩
      · exact ⟨_, rfl, by rw [len_app]; omega⟩
      · exact ⟨_, rfl, by omega⟩
    · rintro d env' ⟨u, rfl, ul⟩ ⟨x6, rfl⟩
      exact ⟨u, rfl, by omega, ifn (c := false = true) (by decide) ⟨_, rfl⟩⟩
    · rintro env' ⟨x6, rfl⟩
      refine ⟨rfl, fun ws w1 w2 => ?_⟩
      have jl := join_le ws
      have wu : (ws.map (·.length)).sum + ws.length ≤ 10000 := w1
      refine ⟨ws, rfl, by rw [q1]; omega, rfl, fun v gv lv => ?_⟩
      refine ⟨ws, v, rfl, by omega, by omega, w2, gv, ifn (c := false = true) (by decide) ?_⟩
      refine ⟨ws, rfl, by omega, w2, ifn (c := false = true) (by decide) ?_⟩
      refine ⟨_, rfl, by omega, ifn (c := false = true) (by decide) ?_⟩
      refine ⟨ws, rfl, by omega, fun p pl => ⟨p, rfl, by omega, ifn (c := false = true) (by decide) ?_⟩⟩
      refine for_r1 (n := 3) (fun j env => ∃ x9, env = [.un, .val .sto, .val (.int (i : Nat)), .val (.str t), .val (.str s), .val (.str (t ++ aa)), x6, .val (.lst (ws.map D.str)), .val (.str (Txt.join " " ws)), x9]) (by exact fun _ _ h => h) (by decide) (by decide) ⟨x9, rfl⟩ ?_ ?_
      · rintro j env' hj ⟨x9, rfl⟩
        have hj : j < 3 := hj
        refine ⟨by show 4 ≤ 16777216; decide, 4, rfl, by decide, fun z z1 z2 => ?_⟩
        obtain ⟨d, d1, d2, _⟩ := atI_int (l := ([ "a ", " bc", "- ~", "0a  " ] : List Str).map D.str) (i := z) z1 (by show z < ((4 : Nat) : Int); omega)
        obtain ⟨g, hg, rfl⟩ := List.mem_map.mp d2
        have gl0 : 0 < g.length ∧ g.length ≤ 1000 := by
          simp only [List.mem_cons, List.not_mem_nil, or_false] at hg
          rcases hg with rfl | rfl | rfl | rfl <;> decide +kernel
        refine ⟨_, d1, mulOk (a := 19) (b := 3) (by omega) (by omega) (by decide), g, _, rfl, gl0.1, gl0.2, ⟨by omega, by omega⟩, fun s s1 s2 => ?_⟩
        exact ⟨s, rfl, by omega, ifn (c := false = true) (by decide) ⟨_, rfl⟩⟩
      · rintro env' ⟨x9, rfl⟩
        refine ⟨t, rfl, by omega, ifn (c := false = true) (by decide) ?_⟩
        refine ⟨_, rfl, by omega, ifn (c := false = true) (by decide) ?_⟩
        refine ⟨ws, t, rfl, by omega, by omega, w2, gt, ifn (c := false = true) (by decide) ?_⟩
        refine ⟨"", rfl, by decide, ifn (c := false = true) (by decide) ?_⟩
        refine ⟨by show 0 ≤ 16777216; decide, [], t, rfl, by decide, by omega, fun w h => (by cases h), gt, ifn (c := false = true) (by decide) ?_⟩
        exact ⟨_, rfl, by omega, ifn (c := false = true) (by decide) ⟨_, _, _, _, _, _, _, _, rfl⟩⟩
  · rintro n env' _ ⟨x2, x3, x4, x5, x6, x7, x8, x9, rfl⟩
    exact rfl
end
end LW
set_option maxRecDepth 100000
set_option maxHeartbeats 4000000
namespace LW
open PySem PySem.Spec PyProof.Rows L2 Nb TL
theorem exm_sub {K : PySem.W.Frag} {S E : Addr} (h1 : PySem.W.subIn K (.ref S) (.type "BaseException") = some true) (h2 : PySem.W.isClsIn K S = true) (h3 : PySem.W.typeIn K (.ref S) = some (.type "type")) (h4 : PySem.W.subIn K (.ref E) (.ref S) = some true) :
    PySem.W.exmOne K (.ref E) (.ref S) = some true := by
  have e1 : (PySem.W.subIn K (.ref S) (.type "BaseException") == some true) = true := by rw [h1] <;> rfl
  have e2 : ((PySem.W.clsIn K S).isSome && PySem.W.typeIn K (.ref S) == some (.type "type")) = true := by
    have h2' : (PySem.W.clsIn K S).isSome = true := h2
    rw [h2', h3] <;> rfl
  show (if (PySem.W.subIn K (.ref S) (.type "BaseException") == some true) = true then (if ((PySem.W.clsIn K S).isSome && PySem.W.typeIn K (.ref S) == some (.type "type")) = true then PySem.W.subIn K (.ref E) (.ref S) else none) else none) = some true
  rw [if_pos e1, if_pos e2]
  exact h4
theorem initN_BadName : InitN init_BadName "found" "found" [] := by
  refine ⟨⟨_, _, _, _, _, _, _, _, _, _, _, _, _, _, [], rfl, ?_, rfl, by decide, ?_, rfl, rfl, rfl, rfl, rfl, rfl, by decide +kernel, ?_, fun _ => rfl, fun env => ⟨_, rfl⟩⟩, by decide, by decide⟩
  · exact .nil
  · intro a ha
    simp only [List.map_cons, List.map_nil, List.mem_cons, List.not_mem_nil, or_false] at ha
    rcases ha with rfl <;> rfl
  · intro _ _ _ _ _ _ _ _ vs hl
    match vs, hl with
    | [_], _ => rfl
theorem initN_BadText : InitN init_BadText "line" "line" [] := by
  refine ⟨⟨_, _, _, _, _, _, _, _, _, _, _, _, _, _, [], rfl, ?_, rfl, by decide, ?_, rfl, rfl, rfl, rfl, rfl, rfl, by decide +kernel, ?_, fun _ => rfl, fun env => ⟨_, rfl⟩⟩, by decide, by decide⟩
  · exact .nil
  · intro a ha
    simp only [List.map_cons, List.map_nil, List.mem_cons, List.not_mem_nil, or_false] at ha
    rcases ha with rfl <;> rfl
  · intro _ _ _ _ _ _ _ _ vs hl
    match vs, hl with
    | [_], _ => rfl
theorem all_mk {l : PySem.W.OpenLaw} {w : World} {K : PySem.W.Frag} {h : Heap} {mg : Str → Option Value} {fa f0 f1 f2 f3 f4 f5 f6 f7 f8 f9 f10 f11 f12 f13 f14 f15 f16 f17 f18 f19 f20 f21 f22 f23 f24 f25 f26 f27 c_BadCount c_BadName c_BadNumber c_BadRow c_BadShare c_BadSize c_BadText c_BadWeight c_DivisionByZero c_GameOver c_InUse c_Lacking c_Mismatch c_NoHelper c_NotBehindError c_NotExact c_NothingToTakeBack c_TakenName c_UnknownName c_WrongKind fI_BadName cc_BadName cd_BadName fI_BadText cc_BadText cd_BadText : Addr} (X : K.In h) (G : h.Ns mainGlobals mg) (hfa : mg "law" = some (.ref fa))
    {tK_DIGITS : Tok}
    {tK_LONGEST_NAME : Tok}
    {tK_SMALL_LETTERS : Tok}
    {nm_BadName q_BadName file_BadName : Str} {N_BadName : Addr} {bs_BadName sub_BadName : List Value} {sn_BadName : List Str} {ab_BadName : Bool} {col_BadName : Option Bool} {dd_BadName : Option Addr} {m0_BadName m1_BadName m2_BadName m3_BadName m5_BadName : Option Value} {tfile_BadName : Tok} {odI_BadName anI_BadName cldcc_BadName cldcd_BadName : Option Addr} {slI_BadName cslcc_BadName cslcd_BadName : Array (Option Value)} {ocI_BadName dcI_BadName pmI_BadName ctI_BadName clcc_BadName clcd_BadName : Value} {vscd_BadName : Array Value}
    {nm_BadText q_BadText file_BadText : Str} {N_BadText : Addr} {bs_BadText sub_BadText : List Value} {sn_BadText : List Str} {ab_BadText : Bool} {col_BadText : Option Bool} {dd_BadText : Option Addr} {m0_BadText m1_BadText m2_BadText m3_BadText m5_BadText : Option Value} {tfile_BadText : Tok} {odI_BadText anI_BadText cldcc_BadText cldcd_BadText : Option Addr} {slI_BadText cslcc_BadText cslcd_BadText : Array (Option Value)} {ocI_BadText dcI_BadText pmI_BadText ctI_BadText clcc_BadText clcd_BadText : Value} {vscd_BadText : Array Value}
    {od0 an0 od1 an1 od2 an2 od3 an3 od4 an4 od5 an5 od6 an6 od7 an7 od8 an8 od9 an9 od10 an10 od11 an11 od12 an12 od13 an13 od14 an14 od15 an15 od16 an16 od17 an17 od18 an18 od19 an19 od20 an20 od21 an21 od22 an22 od23 an23 od24 an24 od25 an25 od26 an26 od27 an27 : Option Addr} {sl0 sl1 sl2 sl3 sl4 sl5 sl6 sl7 sl8 sl9 sl10 sl11 sl12 sl13 sl14 sl15 sl16 sl17 sl18 sl19 sl20 sl21 sl22 sl23 sl24 sl25 sl26 sl27 : Array (Option Value)} {oc0 kV0 dc0 pm0 cd0 ct0 oc1 kV1 dc1 pm1 cd1 ct1 oc2 kV2 dc2 pm2 cd2 ct2 oc3 kV3 dc3 pm3 cd3 ct3 oc4 kV4 dc4 pm4 cd4 ct4 oc5 kV5 dc5 pm5 cd5 ct5 oc6 kV6 dc6 pm6 cd6 ct6 oc7 kV7 dc7 pm7 cd7 ct7 oc8 kV8 dc8 pm8 cd8 ct8 oc9 kV9 dc9 pm9 cd9 ct9 oc10 kV10 dc10 pm10 cd10 ct10 oc11 kV11 dc11 pm11 cd11 ct11 oc12 kV12 dc12 pm12 cd12 ct12 oc13 kV13 dc13 pm13 cd13 ct13 oc14 kV14 dc14 pm14 cd14 ct14 oc15 kV15 dc15 pm15 cd15 ct15 oc16 kV16 dc16 pm16 cd16 ct16 oc17 kV17 dc17 pm17 cd17 ct17 oc18 kV18 dc18 pm18 cd18 ct18 oc19 kV19 dc19 pm19 cd19 ct19 oc20 kV20 dc20 pm20 cd20 ct20 oc21 kV21 dc21 pm21 cd21 ct21 oc22 kV22 dc22 pm22 cd22 ct22 oc23 kV23 dc23 pm23 cd23 ct23 oc24 kV24 dc24 pm24 cd24 ct24 oc25 kV25 dc25 pm25 cd25 ct25 oc26 kV26 dc26 pm26 cd26 ct26 oc27 kV27 dc27 pm27 cd27 ct27 : Value}
    (g_BadCount : PySem.W.nsIn K mainGlobals "BadCount" = some (some (.ref c_BadCount)))
    (g_BadName : PySem.W.nsIn K mainGlobals "BadName" = some (some (.ref c_BadName)))
    (g_BadNumber : PySem.W.nsIn K mainGlobals "BadNumber" = some (some (.ref c_BadNumber)))
    (g_BadRow : PySem.W.nsIn K mainGlobals "BadRow" = some (some (.ref c_BadRow)))
    (g_BadShare : PySem.W.nsIn K mainGlobals "BadShare" = some (some (.ref c_BadShare)))
    (g_BadSize : PySem.W.nsIn K mainGlobals "BadSize" = some (some (.ref c_BadSize)))
    (g_BadText : PySem.W.nsIn K mainGlobals "BadText" = some (some (.ref c_BadText)))
    (g_BadWeight : PySem.W.nsIn K mainGlobals "BadWeight" = some (some (.ref c_BadWeight)))
    (g_DivisionByZero : PySem.W.nsIn K mainGlobals "DivisionByZero" = some (some (.ref c_DivisionByZero)))
    (g_GameOver : PySem.W.nsIn K mainGlobals "GameOver" = some (some (.ref c_GameOver)))
    (g_InUse : PySem.W.nsIn K mainGlobals "InUse" = some (some (.ref c_InUse)))
    (g_Lacking : PySem.W.nsIn K mainGlobals "Lacking" = some (some (.ref c_Lacking)))
    (g_Mismatch : PySem.W.nsIn K mainGlobals "Mismatch" = some (some (.ref c_Mismatch)))
    (g_NoHelper : PySem.W.nsIn K mainGlobals "NoHelper" = some (some (.ref c_NoHelper)))
    (g_NotBehindError : PySem.W.nsIn K mainGlobals "NotBehindError" = some (some (.ref c_NotBehindError)))
    (g_NotExact : PySem.W.nsIn K mainGlobals "NotExact" = some (some (.ref c_NotExact)))
    (g_NothingToTakeBack : PySem.W.nsIn K mainGlobals "NothingToTakeBack" = some (some (.ref c_NothingToTakeBack)))
    (g_TakenName : PySem.W.nsIn K mainGlobals "TakenName" = some (some (.ref c_TakenName)))
    (g_UnknownName : PySem.W.nsIn K mainGlobals "UnknownName" = some (some (.ref c_UnknownName)))
    (g_WrongKind : PySem.W.nsIn K mainGlobals "WrongKind" = some (some (.ref c_WrongKind)))
    (a0 : PySem.W.nsIn K mainGlobals "is_name" = some (some (.ref f0)))
    (l0 : K.lookup f0 = some ⟨oc0, od0, .func (PySem.W.fnOf "is_name" "is_name" (defArgs s_is_name) (defBody s_is_name) (defScope s_is_name) .none kV0 dc0 pm0 an0 cd0 ct0), sl0⟩)
    (c0 : PySem.W.codeIn K cd0 "is_name" = true)
    (k0 : PySem.W.keepIn K (.ref f0) = true)
    (a1 : PySem.W.nsIn K mainGlobals "check_name" = some (some (.ref f1)))
    (l1 : K.lookup f1 = some ⟨oc1, od1, .func (PySem.W.fnOf "check_name" "check_name" (defArgs s_check_name) (defBody s_check_name) (defScope s_check_name) .none kV1 dc1 pm1 an1 cd1 ct1), sl1⟩)
    (c1 : PySem.W.codeIn K cd1 "check_name" = true)
    (k1 : PySem.W.keepIn K (.ref f1) = true)
    (a2 : PySem.W.nsIn K mainGlobals "split_line" = some (some (.ref f2)))
    (l2 : K.lookup f2 = some ⟨oc2, od2, .func (PySem.W.fnOf "split_line" "split_line" (defArgs s_split_line) (defBody s_split_line) (defScope s_split_line) .none kV2 dc2 pm2 an2 cd2 ct2), sl2⟩)
    (c2 : PySem.W.codeIn K cd2 "split_line" = true)
    (k2 : PySem.W.keepIn K (.ref f2) = true)
    (a3 : PySem.W.nsIn K mainGlobals "join_words" = some (some (.ref f3)))
    (l3 : K.lookup f3 = some ⟨oc3, od3, .func (PySem.W.fnOf "join_words" "join_words" (defArgs s_join_words) (defBody s_join_words) (defScope s_join_words) .none kV3 dc3 pm3 an3 cd3 ct3), sl3⟩)
    (c3 : PySem.W.codeIn K cd3 "join_words" = true)
    (k3 : PySem.W.keepIn K (.ref f3) = true)
    (a4 : PySem.W.nsIn K mainGlobals "_law_store" = some (some (.ref f4)))
    (l4 : K.lookup f4 = some ⟨oc4, od4, .func (PySem.W.fnOf "_law_store" "_law_store" (defArgs s__law_store) (defBody s__law_store) (defScope s__law_store) .none kV4 dc4 pm4 an4 cd4 ct4), sl4⟩)
    (c4 : PySem.W.codeIn K cd4 "_law_store" = true)
    (k4 : PySem.W.keepIn K (.ref f4) = true)
    (a5 : PySem.W.nsIn K mainGlobals "_law_mixed" = some (some (.ref f5)))
    (l5 : K.lookup f5 = some ⟨oc5, od5, .func (PySem.W.fnOf "_law_mixed" "_law_mixed" (defArgs s__law_mixed) (defBody s__law_mixed) (defScope s__law_mixed) .none kV5 dc5 pm5 an5 cd5 ct5), sl5⟩)
    (c5 : PySem.W.codeIn K cd5 "_law_mixed" = true)
    (k5 : PySem.W.keepIn K (.ref f5) = true)
    (a6 : PySem.W.nsIn K mainGlobals "_law_take" = some (some (.ref f6)))
    (l6 : K.lookup f6 = some ⟨oc6, od6, .func (PySem.W.fnOf "_law_take" "_law_take" (defArgs s__law_take) (defBody s__law_take) (defScope s__law_take) .none kV6 dc6 pm6 an6 cd6 ct6), sl6⟩)
    (c6 : PySem.W.codeIn K cd6 "_law_take" = true)
    (k6 : PySem.W.keepIn K (.ref f6) = true)
    (a7 : PySem.W.nsIn K mainGlobals "_law_edge" = some (some (.ref f7)))
    (l7 : K.lookup f7 = some ⟨oc7, od7, .func (PySem.W.fnOf "_law_edge" "_law_edge" (defArgs s__law_edge) (defBody s__law_edge) (defScope s__law_edge) .none kV7 dc7 pm7 an7 cd7 ct7), sl7⟩)
    (c7 : PySem.W.codeIn K cd7 "_law_edge" = true)
    (k7 : PySem.W.keepIn K (.ref f7) = true)
    (a8 : PySem.W.nsIn K mainGlobals "_law_same" = some (some (.ref f8)))
    (l8 : K.lookup f8 = some ⟨oc8, od8, .func (PySem.W.fnOf "_law_same" "_law_same" (defArgs s__law_same) (defBody s__law_same) (defScope s__law_same) .none kV8 dc8 pm8 an8 cd8 ct8), sl8⟩)
    (c8 : PySem.W.codeIn K cd8 "_law_same" = true)
    (k8 : PySem.W.keepIn K (.ref f8) = true)
    (a9 : PySem.W.nsIn K mainGlobals "_law_spoil" = some (some (.ref f9)))
    (l9 : K.lookup f9 = some ⟨oc9, od9, .func (PySem.W.fnOf "_law_spoil" "_law_spoil" (defArgs s__law_spoil) (defBody s__law_spoil) (defScope s__law_spoil) .none kV9 dc9 pm9 an9 cd9 ct9), sl9⟩)
    (c9 : PySem.W.codeIn K cd9 "_law_spoil" = true)
    (k9 : PySem.W.keepIn K (.ref f9) = true)
    (a10 : PySem.W.nsIn K mainGlobals "_law_refusal" = some (some (.ref f10)))
    (l10 : K.lookup f10 = some ⟨oc10, od10, .func (PySem.W.fnOf "_law_refusal" "_law_refusal" (defArgs s__law_refusal) (defBody s__law_refusal) (defScope s__law_refusal) .none kV10 dc10 pm10 an10 cd10 ct10), sl10⟩)
    (c10 : PySem.W.codeIn K cd10 "_law_refusal" = true)
    (k10 : PySem.W.keepIn K (.ref f10) = true)
    (a11 : PySem.W.nsIn K mainGlobals "_law_bare" = some (some (.ref f11)))
    (l11 : K.lookup f11 = some ⟨oc11, od11, .func (PySem.W.fnOf "_law_bare" "_law_bare" (defArgs s__law_bare) (defBody s__law_bare) (defScope s__law_bare) .none kV11 dc11 pm11 an11 cd11 ct11), sl11⟩)
    (c11 : PySem.W.codeIn K cd11 "_law_bare" = true)
    (k11 : PySem.W.keepIn K (.ref f11) = true)
    (a12 : PySem.W.nsIn K mainGlobals "_law_free" = some (some (.ref f12)))
    (l12 : K.lookup f12 = some ⟨oc12, od12, .func (PySem.W.fnOf "_law_free" "_law_free" (defArgs s__law_free) (defBody s__law_free) (defScope s__law_free) .none kV12 dc12 pm12 an12 cd12 ct12), sl12⟩)
    (c12 : PySem.W.codeIn K cd12 "_law_free" = true)
    (k12 : PySem.W.keepIn K (.ref f12) = true)
    (a13 : PySem.W.nsIn K mainGlobals "_law_name" = some (some (.ref f13)))
    (l13 : K.lookup f13 = some ⟨oc13, od13, .func (PySem.W.fnOf "_law_name" "_law_name" (defArgs s__law_name) (defBody s__law_name) (defScope s__law_name) .none kV13 dc13 pm13 an13 cd13 ct13), sl13⟩)
    (c13 : PySem.W.codeIn K cd13 "_law_name" = true)
    (k13 : PySem.W.keepIn K (.ref f13) = true)
    (a14 : PySem.W.nsIn K mainGlobals "_law_not_name" = some (some (.ref f14)))
    (l14 : K.lookup f14 = some ⟨oc14, od14, .func (PySem.W.fnOf "_law_not_name" "_law_not_name" (defArgs s__law_not_name) (defBody s__law_not_name) (defScope s__law_not_name) .none kV14 dc14 pm14 an14 cd14 ct14), sl14⟩)
    (c14 : PySem.W.codeIn K cd14 "_law_not_name" = true)
    (k14 : PySem.W.keepIn K (.ref f14) = true)
    (a15 : PySem.W.nsIn K mainGlobals "_law_word" = some (some (.ref f15)))
    (l15 : K.lookup f15 = some ⟨oc15, od15, .func (PySem.W.fnOf "_law_word" "_law_word" (defArgs s__law_word) (defBody s__law_word) (defScope s__law_word) .none kV15 dc15 pm15 an15 cd15 ct15), sl15⟩)
    (c15 : PySem.W.codeIn K cd15 "_law_word" = true)
    (k15 : PySem.W.keepIn K (.ref f15) = true)
    (a16 : PySem.W.nsIn K mainGlobals "_law_words" = some (some (.ref f16)))
    (l16 : K.lookup f16 = some ⟨oc16, od16, .func (PySem.W.fnOf "_law_words" "_law_words" (defArgs s__law_words) (defBody s__law_words) (defScope s__law_words) .none kV16 dc16 pm16 an16 cd16 ct16), sl16⟩)
    (c16 : PySem.W.codeIn K cd16 "_law_words" = true)
    (k16 : PySem.W.keepIn K (.ref f16) = true)
    (a17 : PySem.W.nsIn K mainGlobals "_law_spaced" = some (some (.ref f17)))
    (l17 : K.lookup f17 = some ⟨oc17, od17, .func (PySem.W.fnOf "_law_spaced" "_law_spaced" (defArgs s__law_spaced) (defBody s__law_spaced) (defScope s__law_spaced) .none kV17 dc17 pm17 an17 cd17 ct17), sl17⟩)
    (c17 : PySem.W.codeIn K cd17 "_law_spaced" = true)
    (k17 : PySem.W.keepIn K (.ref f17) = true)
    (a18 : PySem.W.nsIn K mainGlobals "_law_answer" = some (some (.ref f18)))
    (l18 : K.lookup f18 = some ⟨oc18, od18, .func (PySem.W.fnOf "_law_answer" "_law_answer" (defArgs s__law_answer) (defBody s__law_answer) (defScope s__law_answer) .none kV18 dc18 pm18 an18 cd18 ct18), sl18⟩)
    (c18 : PySem.W.codeIn K cd18 "_law_answer" = true)
    (k18 : PySem.W.keepIn K (.ref f18) = true)
    (a19 : PySem.W.nsIn K mainGlobals "_law_try" = some (some (.ref f19)))
    (l19 : K.lookup f19 = some ⟨oc19, od19, .func (PySem.W.fnOf "_law_try" "_law_try" (defArgs s__law_try) (defBody s__law_try) (defScope s__law_try) .none kV19 dc19 pm19 an19 cd19 ct19), sl19⟩)
    (c19 : PySem.W.codeIn K cd19 "_law_try" = true)
    (k19 : PySem.W.keepIn K (.ref f19) = true)
    (a20 : PySem.W.nsIn K mainGlobals "_law_is_named" = some (some (.ref f20)))
    (l20 : K.lookup f20 = some ⟨oc20, od20, .func (PySem.W.fnOf "_law_is_named" "_law_is_named" (defArgs s__law_is_named) (defBody s__law_is_named) (defScope s__law_is_named) .none kV20 dc20 pm20 an20 cd20 ct20), sl20⟩)
    (c20 : PySem.W.codeIn K cd20 "_law_is_named" = true)
    (k20 : PySem.W.keepIn K (.ref f20) = true)
    (a21 : PySem.W.nsIn K mainGlobals "_law_parted" = some (some (.ref f21)))
    (l21 : K.lookup f21 = some ⟨oc21, od21, .func (PySem.W.fnOf "_law_parted" "_law_parted" (defArgs s__law_parted) (defBody s__law_parted) (defScope s__law_parted) .none kV21 dc21 pm21 an21 cd21 ct21), sl21⟩)
    (c21 : PySem.W.codeIn K cd21 "_law_parted" = true)
    (k21 : PySem.W.keepIn K (.ref f21) = true)
    (a22 : PySem.W.nsIn K mainGlobals "_law_name_judged" = some (some (.ref f22)))
    (l22 : K.lookup f22 = some ⟨oc22, od22, .func (PySem.W.fnOf "_law_name_judged" "_law_name_judged" (defArgs s__law_name_judged) (defBody s__law_name_judged) (defScope s__law_name_judged) .none kV22 dc22 pm22 an22 cd22 ct22), sl22⟩)
    (c22 : PySem.W.codeIn K cd22 "_law_name_judged" = true)
    (k22 : PySem.W.keepIn K (.ref f22) = true)
    (a23 : PySem.W.nsIn K mainGlobals "_law_line_judged" = some (some (.ref f23)))
    (l23 : K.lookup f23 = some ⟨oc23, od23, .func (PySem.W.fnOf "_law_line_judged" "_law_line_judged" (defArgs s__law_line_judged) (defBody s__law_line_judged) (defScope s__law_line_judged) .none kV23 dc23 pm23 an23 cd23 ct23), sl23⟩)
    (c23 : PySem.W.codeIn K cd23 "_law_line_judged" = true)
    (k23 : PySem.W.keepIn K (.ref f23) = true)
    (a24 : PySem.W.nsIn K mainGlobals "_law_joined" = some (some (.ref f24)))
    (l24 : K.lookup f24 = some ⟨oc24, od24, .func (PySem.W.fnOf "_law_joined" "_law_joined" (defArgs s__law_joined) (defBody s__law_joined) (defScope s__law_joined) .none kV24 dc24 pm24 an24 cd24 ct24), sl24⟩)
    (c24 : PySem.W.codeIn K cd24 "_law_joined" = true)
    (k24 : PySem.W.keepIn K (.ref f24) = true)
    (a25 : PySem.W.nsIn K mainGlobals "_law_unjoined" = some (some (.ref f25)))
    (l25 : K.lookup f25 = some ⟨oc25, od25, .func (PySem.W.fnOf "_law_unjoined" "_law_unjoined" (defArgs s__law_unjoined) (defBody s__law_unjoined) (defScope s__law_unjoined) .none kV25 dc25 pm25 an25 cd25 ct25), sl25⟩)
    (c25 : PySem.W.codeIn K cd25 "_law_unjoined" = true)
    (k25 : PySem.W.keepIn K (.ref f25) = true)
    (a26 : PySem.W.nsIn K mainGlobals "_law_many_words" = some (some (.ref f26)))
    (l26 : K.lookup f26 = some ⟨oc26, od26, .func (PySem.W.fnOf "_law_many_words" "_law_many_words" (defArgs s__law_many_words) (defBody s__law_many_words) (defScope s__law_many_words) .none kV26 dc26 pm26 an26 cd26 ct26), sl26⟩)
    (c26 : PySem.W.codeIn K cd26 "_law_many_words" = true)
    (k26 : PySem.W.keepIn K (.ref f26) = true)
    (a27 : PySem.W.nsIn K mainGlobals "law" = some (some (.ref f27)))
    (l27 : K.lookup f27 = some ⟨oc27, od27, .func (PySem.W.fnOf "law" "law" (defArgs s_law) (defBody s_law) (defScope s_law) .none kV27 dc27 pm27 an27 cd27 ct27), sl27⟩)
    (c27 : PySem.W.codeIn K cd27 "law" = true)
    (k27 : PySem.W.keepIn K (.ref f27) = true)
    (z_ValueError : PySem.W.nsIn K mainGlobals "ValueError" = some none)
    (z_abs : PySem.W.nsIn K mainGlobals "abs" = some none)
    (z_all : PySem.W.nsIn K mainGlobals "all" = some none)
    (z_bool : PySem.W.nsIn K mainGlobals "bool" = some none)
    (z_int : PySem.W.nsIn K mainGlobals "int" = some none)
    (z_isinstance : PySem.W.nsIn K mainGlobals "isinstance" = some none)
    (z_len : PySem.W.nsIn K mainGlobals "len" = some none)
    (z_list : PySem.W.nsIn K mainGlobals "list" = some none)
    (z_range : PySem.W.nsIn K mainGlobals "range" = some none)
    (z_str : PySem.W.nsIn K mainGlobals "str" = some none)
    (z_super : PySem.W.nsIn K mainGlobals "super" = some none)
    (z_tuple : PySem.W.nsIn K mainGlobals "tuple" = some none)
    (xL_BadName : K.lookup c_BadName = some (excClassObj nm_BadName q_BadName c_BadName N_BadName bs_BadName [.ref c_NotBehindError, .type "ValueError", .type "Exception", .type "BaseException", .type "object"] true sn_BadName sub_BadName ab_BadName col_BadName dd_BadName m0_BadName m1_BadName m2_BadName m3_BadName m5_BadName "ValueError.__new__"))
    (fga_BadName : PySem.W.findIn K (.ref c_BadName) "__getattribute__" = some (some (.builtin "BaseException.__getattribute__")))
    (fcl_BadName : PySem.W.findIn K (.ref c_BadName) "__class__" = some (some (.builtin "object.__class__")))
    (fgg_BadName : PySem.W.findIn K (.ref c_BadName) "__getattr__" = some none)
    (fn_BadName_amount : PySem.W.findIn K (.ref c_BadName) "amount" = some none)
    (fn_BadName_at : PySem.W.findIn K (.ref c_BadName) "at" = some none)
    (fn_BadName_beginning : PySem.W.findIn K (.ref c_BadName) "beginning" = some none)
    (fn_BadName_due : PySem.W.findIn K (.ref c_BadName) "due" = some none)
    (fn_BadName_found : PySem.W.findIn K (.ref c_BadName) "found" = some none)
    (fn_BadName_high : PySem.W.findIn K (.ref c_BadName) "high" = some none)
    (fn_BadName_line : PySem.W.findIn K (.ref c_BadName) "line" = some none)
    (fn_BadName_low : PySem.W.findIn K (.ref c_BadName) "low" = some none)
    (fn_BadName_name : PySem.W.findIn K (.ref c_BadName) "name" = some none)
    (fn_BadName_user : PySem.W.findIn K (.ref c_BadName) "user" = some none)
    (kp_BadName : PySem.W.keepIn K (.ref c_BadName) = true)
    (eb_BadName : PySem.W.subIn K (.ref c_BadName) (.type "BaseException") = some true)
    (ty_BadName : PySem.W.typeIn K (.ref c_BadName) = some (.type "type"))
    (hd_BadName : PySem.W.hasDictIn K c_BadName = true)
    (ic_BadName : PySem.W.isClsIn K c_BadName = true)
    (mo_BadName : PySem.W.mroIn K c_BadName (.type "object") = some true)
    (sN_BadName : PySem.W.subIn K (.ref c_BadName) (.ref c_NotBehindError) = some true)
    (kV_BadName : PySem.W.kitOne K (.ref c_BadName) (.type "ValueError") = some true)
    (ki_BadName_BadCount : PySem.W.kitOne K (.ref c_BadName) (.ref c_BadCount) = some false)
    (ki_BadName_BadName : PySem.W.kitOne K (.ref c_BadName) (.ref c_BadName) = some true)
    (ki_BadName_BadNumber : PySem.W.kitOne K (.ref c_BadName) (.ref c_BadNumber) = some false)
    (ki_BadName_BadRow : PySem.W.kitOne K (.ref c_BadName) (.ref c_BadRow) = some false)
    (ki_BadName_BadShare : PySem.W.kitOne K (.ref c_BadName) (.ref c_BadShare) = some false)
    (ki_BadName_BadSize : PySem.W.kitOne K (.ref c_BadName) (.ref c_BadSize) = some false)
    (ki_BadName_BadText : PySem.W.kitOne K (.ref c_BadName) (.ref c_BadText) = some false)
    (ki_BadName_BadWeight : PySem.W.kitOne K (.ref c_BadName) (.ref c_BadWeight) = some false)
    (ki_BadName_DivisionByZero : PySem.W.kitOne K (.ref c_BadName) (.ref c_DivisionByZero) = some false)
    (ki_BadName_GameOver : PySem.W.kitOne K (.ref c_BadName) (.ref c_GameOver) = some false)
    (ki_BadName_InUse : PySem.W.kitOne K (.ref c_BadName) (.ref c_InUse) = some false)
    (ki_BadName_Lacking : PySem.W.kitOne K (.ref c_BadName) (.ref c_Lacking) = some false)
    (ki_BadName_Mismatch : PySem.W.kitOne K (.ref c_BadName) (.ref c_Mismatch) = some false)
    (ki_BadName_NoHelper : PySem.W.kitOne K (.ref c_BadName) (.ref c_NoHelper) = some false)
    (ki_BadName_NotExact : PySem.W.kitOne K (.ref c_BadName) (.ref c_NotExact) = some false)
    (ki_BadName_NothingToTakeBack : PySem.W.kitOne K (.ref c_BadName) (.ref c_NothingToTakeBack) = some false)
    (ki_BadName_TakenName : PySem.W.kitOne K (.ref c_BadName) (.ref c_TakenName) = some false)
    (ki_BadName_UnknownName : PySem.W.kitOne K (.ref c_BadName) (.ref c_UnknownName) = some false)
    (ki_BadName_WrongKind : PySem.W.kitOne K (.ref c_BadName) (.ref c_WrongKind) = some false)
    (sa_BadName : PySem.W.findIn K (.ref c_BadName) "__setattr__" = some (some (.builtin "object.__setattr__")))
    (iC_BadName : PySem.W.findIn K (.ref c_BadName) "__init__" = some (some (.ref fI_BadName)))
    (tI_BadName : PySem.W.typeIn K (.ref fI_BadName) = some (.type "function"))
    (ve_BadName : PySem.W.subIn K (.ref c_BadName) (.type "ValueError") = some true)
    (sc_BadName : PySem.W.subIn K (.ref c_BadName) (.ref c_BadName) = some true)
    (mc_BadName : PySem.W.mroIn K c_BadName (.ref c_BadName) = some true)
    (su_BadName : PySem.W.ks_superIn K c_BadName c_BadName "__init__" = some (some (.builtin "ValueError.__init__")))
    (lI_BadName : K.lookup fI_BadName = some ⟨ocI_BadName, odI_BadName, .func (PySem.W.ksFn "__init__" "BadName.__init__" (defArgs init_BadName) (defBody init_BadName) (defScope init_BadName) .none .none dcI_BadName pmI_BadName anI_BadName (.ref cd_BadName) ctI_BadName cc_BadName), slI_BadName⟩)
    (cI_BadName : PySem.W.codeIn K (.ref cd_BadName) "BadName.__init__" = true)
    (lcc_BadName : K.lookup cc_BadName = some ⟨clcc_BadName, cldcc_BadName, .cell (some (.ref c_BadName)), cslcc_BadName⟩)
    (lcd_BadName : K.lookup cd_BadName = some ⟨clcd_BadName, cldcd_BadName, .fields vscd_BadName, cslcd_BadName⟩)
    (vs2_BadName : vscd_BadName[2]? = some (.str file_BadName tfile_BadName))
    (ff_BadName : ((l.prog.main.file : Str) == file_BadName) = true)
    (xL_BadText : K.lookup c_BadText = some (excClassObj nm_BadText q_BadText c_BadText N_BadText bs_BadText [.ref c_NotBehindError, .type "ValueError", .type "Exception", .type "BaseException", .type "object"] true sn_BadText sub_BadText ab_BadText col_BadText dd_BadText m0_BadText m1_BadText m2_BadText m3_BadText m5_BadText "ValueError.__new__"))
    (fga_BadText : PySem.W.findIn K (.ref c_BadText) "__getattribute__" = some (some (.builtin "BaseException.__getattribute__")))
    (fcl_BadText : PySem.W.findIn K (.ref c_BadText) "__class__" = some (some (.builtin "object.__class__")))
    (fgg_BadText : PySem.W.findIn K (.ref c_BadText) "__getattr__" = some none)
    (fn_BadText_amount : PySem.W.findIn K (.ref c_BadText) "amount" = some none)
    (fn_BadText_at : PySem.W.findIn K (.ref c_BadText) "at" = some none)
    (fn_BadText_beginning : PySem.W.findIn K (.ref c_BadText) "beginning" = some none)
    (fn_BadText_due : PySem.W.findIn K (.ref c_BadText) "due" = some none)
    (fn_BadText_found : PySem.W.findIn K (.ref c_BadText) "found" = some none)
    (fn_BadText_high : PySem.W.findIn K (.ref c_BadText) "high" = some none)
    (fn_BadText_line : PySem.W.findIn K (.ref c_BadText) "line" = some none)
    (fn_BadText_low : PySem.W.findIn K (.ref c_BadText) "low" = some none)
    (fn_BadText_name : PySem.W.findIn K (.ref c_BadText) "name" = some none)
    (fn_BadText_user : PySem.W.findIn K (.ref c_BadText) "user" = some none)
    (kp_BadText : PySem.W.keepIn K (.ref c_BadText) = true)
    (eb_BadText : PySem.W.subIn K (.ref c_BadText) (.type "BaseException") = some true)
    (ty_BadText : PySem.W.typeIn K (.ref c_BadText) = some (.type "type"))
    (hd_BadText : PySem.W.hasDictIn K c_BadText = true)
    (ic_BadText : PySem.W.isClsIn K c_BadText = true)
    (mo_BadText : PySem.W.mroIn K c_BadText (.type "object") = some true)
    (sN_BadText : PySem.W.subIn K (.ref c_BadText) (.ref c_NotBehindError) = some true)
    (kV_BadText : PySem.W.kitOne K (.ref c_BadText) (.type "ValueError") = some true)
    (ki_BadText_BadCount : PySem.W.kitOne K (.ref c_BadText) (.ref c_BadCount) = some false)
    (ki_BadText_BadName : PySem.W.kitOne K (.ref c_BadText) (.ref c_BadName) = some false)
    (ki_BadText_BadNumber : PySem.W.kitOne K (.ref c_BadText) (.ref c_BadNumber) = some false)
    (ki_BadText_BadRow : PySem.W.kitOne K (.ref c_BadText) (.ref c_BadRow) = some false)
    (ki_BadText_BadShare : PySem.W.kitOne K (.ref c_BadText) (.ref c_BadShare) = some false)
    (ki_BadText_BadSize : PySem.W.kitOne K (.ref c_BadText) (.ref c_BadSize) = some false)
    (ki_BadText_BadText : PySem.W.kitOne K (.ref c_BadText) (.ref c_BadText) = some true)
    (ki_BadText_BadWeight : PySem.W.kitOne K (.ref c_BadText) (.ref c_BadWeight) = some false)
    (ki_BadText_DivisionByZero : PySem.W.kitOne K (.ref c_BadText) (.ref c_DivisionByZero) = some false)
    (ki_BadText_GameOver : PySem.W.kitOne K (.ref c_BadText) (.ref c_GameOver) = some false)
    (ki_BadText_InUse : PySem.W.kitOne K (.ref c_BadText) (.ref c_InUse) = some false)
    (ki_BadText_Lacking : PySem.W.kitOne K (.ref c_BadText) (.ref c_Lacking) = some false)
    (ki_BadText_Mismatch : PySem.W.kitOne K (.ref c_BadText) (.ref c_Mismatch) = some false)
    (ki_BadText_NoHelper : PySem.W.kitOne K (.ref c_BadText) (.ref c_NoHelper) = some false)
    (ki_BadText_NotExact : PySem.W.kitOne K (.ref c_BadText) (.ref c_NotExact) = some false)
    (ki_BadText_NothingToTakeBack : PySem.W.kitOne K (.ref c_BadText) (.ref c_NothingToTakeBack) = some false)
    (ki_BadText_TakenName : PySem.W.kitOne K (.ref c_BadText) (.ref c_TakenName) = some false)
    (ki_BadText_UnknownName : PySem.W.kitOne K (.ref c_BadText) (.ref c_UnknownName) = some false)
    (ki_BadText_WrongKind : PySem.W.kitOne K (.ref c_BadText) (.ref c_WrongKind) = some false)
    (sa_BadText : PySem.W.findIn K (.ref c_BadText) "__setattr__" = some (some (.builtin "object.__setattr__")))
    (iC_BadText : PySem.W.findIn K (.ref c_BadText) "__init__" = some (some (.ref fI_BadText)))
    (tI_BadText : PySem.W.typeIn K (.ref fI_BadText) = some (.type "function"))
    (ve_BadText : PySem.W.subIn K (.ref c_BadText) (.type "ValueError") = some true)
    (sc_BadText : PySem.W.subIn K (.ref c_BadText) (.ref c_BadText) = some true)
    (mc_BadText : PySem.W.mroIn K c_BadText (.ref c_BadText) = some true)
    (su_BadText : PySem.W.ks_superIn K c_BadText c_BadText "__init__" = some (some (.builtin "ValueError.__init__")))
    (lI_BadText : K.lookup fI_BadText = some ⟨ocI_BadText, odI_BadText, .func (PySem.W.ksFn "__init__" "BadText.__init__" (defArgs init_BadText) (defBody init_BadText) (defScope init_BadText) .none .none dcI_BadText pmI_BadText anI_BadText (.ref cd_BadText) ctI_BadText cc_BadText), slI_BadText⟩)
    (cI_BadText : PySem.W.codeIn K (.ref cd_BadText) "BadText.__init__" = true)
    (lcc_BadText : K.lookup cc_BadText = some ⟨clcc_BadText, cldcc_BadText, .cell (some (.ref c_BadText)), cslcc_BadText⟩)
    (lcd_BadText : K.lookup cd_BadText = some ⟨clcd_BadText, cldcd_BadText, .fields vscd_BadText, cslcd_BadText⟩)
    (vs2_BadText : vscd_BadText[2]? = some (.str file_BadText tfile_BadText))
    (ff_BadText : ((l.prog.main.file : Str) == file_BadText) = true)
    (opq : PySem.W.nsIn K cStatics "thirdparty.any" = some none)
    (ftop : (l.prog.main.scope.names.lookup ("super" : Str)).isSome = false)
    (spO : PySem.W.specialIn K (.builtin "object.__class__") "__get__" = some (some (.builtin "getset_descriptor.__get__")))
    (tkO : PySem.W.takesIn K (.builtin "object.__class__") = some true)
    (eNB : PySem.W.subIn K (.ref c_NotBehindError) (.type "BaseException") = some true)
    (tNB : PySem.W.typeIn K (.ref c_NotBehindError) = some (.type "type"))
    (iNB : PySem.W.isClsIn K c_NotBehindError = true)
    (o_DIGITS : PySem.W.nsIn K mainGlobals "DIGITS" = some (some (.str "0123456789" tK_DIGITS)))
    (o_LONGEST_NAME : PySem.W.nsIn K mainGlobals "LONGEST_NAME" = some (some (.int 12 tK_LONGEST_NAME)))
    (o_SMALL_LETTERS : PySem.W.nsIn K mainGlobals "SMALL_LETTERS" = some (some (.str "abcdefghijklmnopqrstuvwxyz" tK_SMALL_LETTERS)))
    : ∃ fd : FuncData, (∀ (s : Shared) (v : Value), BindsTo s fd ⟨[v], []⟩ [("script", v)]) ∧ ∀ base : Heap, K.In base → base.Ns mainGlobals mg → FnOk l.prog w K mg base (L2N.CX l.prog w) 8 fa fd ["script"] (spLaw K) := by
  have e := hfa.symm.trans (PySem.W.mg_of X G a27)
  cases e
  have G_BadCount := PySem.W.mg_of X G g_BadCount
  have G_BadName := PySem.W.mg_of X G g_BadName
  have G_BadNumber := PySem.W.mg_of X G g_BadNumber
  have G_BadRow := PySem.W.mg_of X G g_BadRow
  have G_BadShare := PySem.W.mg_of X G g_BadShare
  have G_BadSize := PySem.W.mg_of X G g_BadSize
  have G_BadText := PySem.W.mg_of X G g_BadText
  have G_BadWeight := PySem.W.mg_of X G g_BadWeight
  have G_DivisionByZero := PySem.W.mg_of X G g_DivisionByZero
  have G_GameOver := PySem.W.mg_of X G g_GameOver
  have G_InUse := PySem.W.mg_of X G g_InUse
  have G_Lacking := PySem.W.mg_of X G g_Lacking
  have G_Mismatch := PySem.W.mg_of X G g_Mismatch
  have G_NoHelper := PySem.W.mg_of X G g_NoHelper
  have G_NotBehindError := PySem.W.mg_of X G g_NotBehindError
  have G_NotExact := PySem.W.mg_of X G g_NotExact
  have G_NothingToTakeBack := PySem.W.mg_of X G g_NothingToTakeBack
  have G_TakenName := PySem.W.mg_of X G g_TakenName
  have G_UnknownName := PySem.W.mg_of X G g_UnknownName
  have G_WrongKind := PySem.W.mg_of X G g_WrongKind
  have only : ∀ (n : Str) (C : Addr), okX n → mg n = some (.ref C) → (n = "BadName" ∧ C = c_BadName) ∨ (n = "BadText" ∧ C = c_BadText) := fun n C hn hm => by
    unfold okX at hn
    simp only [List.mem_cons, List.not_mem_nil, or_false] at hn
    rcases hn with rfl | rfl
    · rw [G_BadName] at hm
      cases hm
      exact .inl ⟨rfl, rfl⟩
    · rw [G_BadText] at hm
      cases hm
      exact .inr (⟨rfl, rfl⟩)
  have i_BadCount : IsC K mg okX "BadCount" fun n => n == "BadCount" := ⟨c_BadCount, G_BadCount, fun n C hn hm => by
    rcases only n C hn hm with ⟨rfl, rfl⟩ | ⟨rfl, rfl⟩
    · exact ki_BadName_BadCount
    · exact ki_BadText_BadCount
  ⟩
  have i_BadName : IsC K mg okX "BadName" fun n => n == "BadName" := ⟨c_BadName, G_BadName, fun n C hn hm => by
    rcases only n C hn hm with ⟨rfl, rfl⟩ | ⟨rfl, rfl⟩
    · exact ki_BadName_BadName
    · exact ki_BadText_BadName
  ⟩
  have i_BadNumber : IsC K mg okX "BadNumber" fun n => n == "BadNumber" := ⟨c_BadNumber, G_BadNumber, fun n C hn hm => by
    rcases only n C hn hm with ⟨rfl, rfl⟩ | ⟨rfl, rfl⟩
    · exact ki_BadName_BadNumber
    · exact ki_BadText_BadNumber
  ⟩
  have i_BadRow : IsC K mg okX "BadRow" fun n => n == "BadRow" := ⟨c_BadRow, G_BadRow, fun n C hn hm => by
    rcases only n C hn hm with ⟨rfl, rfl⟩ | ⟨rfl, rfl⟩
    · exact ki_BadName_BadRow
    · exact ki_BadText_BadRow
  ⟩
  have i_BadShare : IsC K mg okX "BadShare" fun n => n == "BadShare" := ⟨c_BadShare, G_BadShare, fun n C hn hm => by
    rcases only n C hn hm with ⟨rfl, rfl⟩ | ⟨rfl, rfl⟩
    · exact ki_BadName_BadShare
    · exact ki_BadText_BadShare
  ⟩
  have i_BadSize : IsC K mg okX "BadSize" fun n => n == "BadSize" := ⟨c_BadSize, G_BadSize, fun n C hn hm => by
    rcases only n C hn hm with ⟨rfl, rfl⟩ | ⟨rfl, rfl⟩
    · exact ki_BadName_BadSize
    · exact ki_BadText_BadSize
  ⟩
  have i_BadText : IsC K mg okX "BadText" fun n => n == "BadText" := ⟨c_BadText, G_BadText, fun n C hn hm => by
    rcases only n C hn hm with ⟨rfl, rfl⟩ | ⟨rfl, rfl⟩
    · exact ki_BadName_BadText
    · exact ki_BadText_BadText
  ⟩
  have i_BadWeight : IsC K mg okX "BadWeight" fun n => n == "BadWeight" := ⟨c_BadWeight, G_BadWeight, fun n C hn hm => by
    rcases only n C hn hm with ⟨rfl, rfl⟩ | ⟨rfl, rfl⟩
    · exact ki_BadName_BadWeight
    · exact ki_BadText_BadWeight
  ⟩
  have i_DivisionByZero : IsC K mg okX "DivisionByZero" fun n => n == "DivisionByZero" := ⟨c_DivisionByZero, G_DivisionByZero, fun n C hn hm => by
    rcases only n C hn hm with ⟨rfl, rfl⟩ | ⟨rfl, rfl⟩
    · exact ki_BadName_DivisionByZero
    · exact ki_BadText_DivisionByZero
  ⟩
  have i_GameOver : IsC K mg okX "GameOver" fun n => n == "GameOver" := ⟨c_GameOver, G_GameOver, fun n C hn hm => by
    rcases only n C hn hm with ⟨rfl, rfl⟩ | ⟨rfl, rfl⟩
    · exact ki_BadName_GameOver
    · exact ki_BadText_GameOver
  ⟩
  have i_InUse : IsC K mg okX "InUse" fun n => n == "InUse" := ⟨c_InUse, G_InUse, fun n C hn hm => by
    rcases only n C hn hm with ⟨rfl, rfl⟩ | ⟨rfl, rfl⟩
    · exact ki_BadName_InUse
    · exact ki_BadText_InUse
  ⟩
  have i_Lacking : IsC K mg okX "Lacking" fun n => n == "Lacking" := ⟨c_Lacking, G_Lacking, fun n C hn hm => by
    rcases only n C hn hm with ⟨rfl, rfl⟩ | ⟨rfl, rfl⟩
    · exact ki_BadName_Lacking
    · exact ki_BadText_Lacking
  ⟩
  have i_Mismatch : IsC K mg okX "Mismatch" fun n => n == "Mismatch" := ⟨c_Mismatch, G_Mismatch, fun n C hn hm => by
    rcases only n C hn hm with ⟨rfl, rfl⟩ | ⟨rfl, rfl⟩
    · exact ki_BadName_Mismatch
    · exact ki_BadText_Mismatch
  ⟩
  have i_NoHelper : IsC K mg okX "NoHelper" fun n => n == "NoHelper" := ⟨c_NoHelper, G_NoHelper, fun n C hn hm => by
    rcases only n C hn hm with ⟨rfl, rfl⟩ | ⟨rfl, rfl⟩
    · exact ki_BadName_NoHelper
    · exact ki_BadText_NoHelper
  ⟩
  have i_NotExact : IsC K mg okX "NotExact" fun n => n == "NotExact" := ⟨c_NotExact, G_NotExact, fun n C hn hm => by
    rcases only n C hn hm with ⟨rfl, rfl⟩ | ⟨rfl, rfl⟩
    · exact ki_BadName_NotExact
    · exact ki_BadText_NotExact
  ⟩
  have i_NothingToTakeBack : IsC K mg okX "NothingToTakeBack" fun n => n == "NothingToTakeBack" := ⟨c_NothingToTakeBack, G_NothingToTakeBack, fun n C hn hm => by
    rcases only n C hn hm with ⟨rfl, rfl⟩ | ⟨rfl, rfl⟩
    · exact ki_BadName_NothingToTakeBack
    · exact ki_BadText_NothingToTakeBack
  ⟩
  have i_TakenName : IsC K mg okX "TakenName" fun n => n == "TakenName" := ⟨c_TakenName, G_TakenName, fun n C hn hm => by
    rcases only n C hn hm with ⟨rfl, rfl⟩ | ⟨rfl, rfl⟩
    · exact ki_BadName_TakenName
    · exact ki_BadText_TakenName
  ⟩
  have i_UnknownName : IsC K mg okX "UnknownName" fun n => n == "UnknownName" := ⟨c_UnknownName, G_UnknownName, fun n C hn hm => by
    rcases only n C hn hm with ⟨rfl, rfl⟩ | ⟨rfl, rfl⟩
    · exact ki_BadName_UnknownName
    · exact ki_BadText_UnknownName
  ⟩
  have i_WrongKind : IsC K mg okX "WrongKind" fun n => n == "WrongKind" := ⟨c_WrongKind, G_WrongKind, fun n C hn hm => by
    rcases only n C hn hm with ⟨rfl, rfl⟩ | ⟨rfl, rfl⟩
    · exact ki_BadName_WrongKind
    · exact ki_BadText_WrongKind
  ⟩
  have f_amount : ∀ n C, okX n → mg n = some (.ref C) → PySem.W.findIn K (.ref C) "amount" = some none := fun n C hn hm => by
    rcases only n C hn hm with ⟨rfl, rfl⟩ | ⟨rfl, rfl⟩
    · exact fn_BadName_amount
    · exact fn_BadText_amount
  have f_at : ∀ n C, okX n → mg n = some (.ref C) → PySem.W.findIn K (.ref C) "at" = some none := fun n C hn hm => by
    rcases only n C hn hm with ⟨rfl, rfl⟩ | ⟨rfl, rfl⟩
    · exact fn_BadName_at
    · exact fn_BadText_at
  have f_beginning : ∀ n C, okX n → mg n = some (.ref C) → PySem.W.findIn K (.ref C) "beginning" = some none := fun n C hn hm => by
    rcases only n C hn hm with ⟨rfl, rfl⟩ | ⟨rfl, rfl⟩
    · exact fn_BadName_beginning
    · exact fn_BadText_beginning
  have f_due : ∀ n C, okX n → mg n = some (.ref C) → PySem.W.findIn K (.ref C) "due" = some none := fun n C hn hm => by
    rcases only n C hn hm with ⟨rfl, rfl⟩ | ⟨rfl, rfl⟩
    · exact fn_BadName_due
    · exact fn_BadText_due
  have f_found : ∀ n C, okX n → mg n = some (.ref C) → PySem.W.findIn K (.ref C) "found" = some none := fun n C hn hm => by
    rcases only n C hn hm with ⟨rfl, rfl⟩ | ⟨rfl, rfl⟩
    · exact fn_BadName_found
    · exact fn_BadText_found
  have f_high : ∀ n C, okX n → mg n = some (.ref C) → PySem.W.findIn K (.ref C) "high" = some none := fun n C hn hm => by
    rcases only n C hn hm with ⟨rfl, rfl⟩ | ⟨rfl, rfl⟩
    · exact fn_BadName_high
    · exact fn_BadText_high
  have f_line : ∀ n C, okX n → mg n = some (.ref C) → PySem.W.findIn K (.ref C) "line" = some none := fun n C hn hm => by
    rcases only n C hn hm with ⟨rfl, rfl⟩ | ⟨rfl, rfl⟩
    · exact fn_BadName_line
    · exact fn_BadText_line
  have f_low : ∀ n C, okX n → mg n = some (.ref C) → PySem.W.findIn K (.ref C) "low" = some none := fun n C hn hm => by
    rcases only n C hn hm with ⟨rfl, rfl⟩ | ⟨rfl, rfl⟩
    · exact fn_BadName_low
    · exact fn_BadText_low
  have f_name : ∀ n C, okX n → mg n = some (.ref C) → PySem.W.findIn K (.ref C) "name" = some none := fun n C hn hm => by
    rcases only n C hn hm with ⟨rfl, rfl⟩ | ⟨rfl, rfl⟩
    · exact fn_BadName_name
    · exact fn_BadText_name
  have f_user : ∀ n C, okX n → mg n = some (.ref C) → PySem.W.findIn K (.ref C) "user" = some none := fun n C hn hm => by
    rcases only n C hn hm with ⟨rfl, rfl⟩ | ⟨rfl, rfl⟩
    · exact fn_BadName_user
    · exact fn_BadText_user
  have kinds : Kinds K mg okX := ⟨fun n C hn hm => by
    rcases only n C hn hm with ⟨rfl, rfl⟩ | ⟨rfl, rfl⟩
    · exact { cl := ic_BadName, ga := fga_BadName, gg := fgg_BadName, sb := eb_BadName, hd := hd_BadName, ca := fcl_BadName, sp := spO, tk := tkO, mo := mo_BadName }
    · exact { cl := ic_BadText, ga := fga_BadText, gg := fgg_BadText, sb := eb_BadText, hd := hd_BadText, ca := fcl_BadText, sp := spO, tk := tkO, mo := mo_BadText }
  ⟩
  have vV : ∀ n C, okX n → mg n = some (.ref C) → PySem.W.kitOne K (.ref C) (.type "ValueError") = some ((fun _ => true) n) := fun n C hn hm => by
    rcases only n C hn hm with ⟨rfl, rfl⟩ | ⟨rfl, rfl⟩
    · exact kV_BadName
    · exact kV_BadText
  have cC : CatchC K mg okX "NotBehindError" := ⟨c_NotBehindError, G_NotBehindError, fun n C hn hm => by
    rcases only n C hn hm with ⟨rfl, rfl⟩ | ⟨rfl, rfl⟩
    · exact exm_sub eNB iNB tNB sN_BadName
    · exact exm_sub eNB iNB tNB sN_BadText
  ⟩
  have s_BadName : SupTxt l.prog K mg "BadName" c_BadName fI_BadName ["found"] init_BadName :=
    { gC := G_BadName, cls := ⟨nm_BadName, q_BadName, N_BadName, bs_BadName, _, sn_BadName, sub_BadName, ab_BadName, col_BadName, dd_BadName, m0_BadName, m1_BadName, m2_BadName, m3_BadName, m5_BadName, xL_BadName, by rfl⟩, sa := sa_BadName, ga := fga_BadName, gg := fgg_BadName, noN := fun f hf => by
        simp only [List.mem_cons, List.not_mem_nil, or_false] at hf
        rcases hf with rfl
        · exact fn_BadName_found
      , iC := iC_BadName, tC := tI_BadName, kC := kp_BadName, exC := eb_BadName, veC := ve_BadName, tyC := ty_BadName, hdC := hd_BadName, te := exm_sub eb_BadName ic_BadName ty_BadName sc_BadName, sup := su_BadName, sCC := mc_BadName, opq := opq, sN := PySem.W.mg_none_of X G z_super, top := ftop, fn := ⟨cc_BadName, cd_BadName, _, _, _, _, _, _, _, _, _, _, _, _, _, _, _, _, _, lI_BadName, cI_BadName, lcc_BadName, lcd_BadName, vs2_BadName, ff_BadName⟩ }
  have s_BadText : SupTxt l.prog K mg "BadText" c_BadText fI_BadText ["line"] init_BadText :=
    { gC := G_BadText, cls := ⟨nm_BadText, q_BadText, N_BadText, bs_BadText, _, sn_BadText, sub_BadText, ab_BadText, col_BadText, dd_BadText, m0_BadText, m1_BadText, m2_BadText, m3_BadText, m5_BadText, xL_BadText, by rfl⟩, sa := sa_BadText, ga := fga_BadText, gg := fgg_BadText, noN := fun f hf => by
        simp only [List.mem_cons, List.not_mem_nil, or_false] at hf
        rcases hf with rfl
        · exact fn_BadText_line
      , iC := iC_BadText, tC := tI_BadText, kC := kp_BadText, exC := eb_BadText, veC := ve_BadText, tyC := ty_BadText, hdC := hd_BadText, te := exm_sub eb_BadText ic_BadText ty_BadText sc_BadText, sup := su_BadText, sCC := mc_BadText, opq := opq, sN := PySem.W.mg_none_of X G z_super, top := ftop, fn := ⟨cc_BadText, cd_BadText, _, _, _, _, _, _, _, _, _, _, _, _, _, _, _, _, _, lI_BadText, cI_BadText, lcc_BadText, lcd_BadText, vs2_BadText, ff_BadText⟩ }
  have T : Txt l.prog K mg :=
    { ValueError := PySem.W.mg_none_of X G z_ValueError,
      abs := PySem.W.mg_none_of X G z_abs,
      all := PySem.W.mg_none_of X G z_all,
      bool := PySem.W.mg_none_of X G z_bool,
      int := PySem.W.mg_none_of X G z_int,
      isinstance := PySem.W.mg_none_of X G z_isinstance,
      len := PySem.W.mg_none_of X G z_len,
      list := PySem.W.mg_none_of X G z_list,
      range := PySem.W.mg_none_of X G z_range,
      str := PySem.W.mg_none_of X G z_str,
      tuple := PySem.W.mg_none_of X G z_tuple,
      kinds := kinds,
      i_BadCount := i_BadCount,
      i_BadName := i_BadName,
      i_BadNumber := i_BadNumber,
      i_BadRow := i_BadRow,
      i_BadShare := i_BadShare,
      i_BadSize := i_BadSize,
      i_BadText := i_BadText,
      i_BadWeight := i_BadWeight,
      i_DivisionByZero := i_DivisionByZero,
      i_GameOver := i_GameOver,
      i_InUse := i_InUse,
      i_Lacking := i_Lacking,
      i_Mismatch := i_Mismatch,
      i_NoHelper := i_NoHelper,
      i_NotExact := i_NotExact,
      i_NothingToTakeBack := i_NothingToTakeBack,
      i_TakenName := i_TakenName,
      i_UnknownName := i_UnknownName,
      i_WrongKind := i_WrongKind,
      f_amount := f_amount,
      f_at := f_at,
      f_beginning := f_beginning,
      f_due := f_due,
      f_found := f_found,
      f_high := f_high,
      f_line := f_line,
      f_low := f_low,
      f_name := f_name,
      f_user := f_user,
      v_ValueError := vV,
      c_NotBehindError := cC,
      r_BadName := ⟨⟨c_BadName, fI_BadName, s_BadName⟩, initN_BadName⟩,
      r_BadText := ⟨⟨c_BadText, fI_BadText, s_BadText⟩, initN_BadText⟩,
      k_DIGITS := ⟨tK_DIGITS, PySem.W.mg_of X G o_DIGITS⟩,
      k_LONGEST_NAME := ⟨tK_LONGEST_NAME, PySem.W.mg_of X G o_LONGEST_NAME⟩,
      k_SMALL_LETTERS := ⟨tK_SMALL_LETTERS, PySem.W.mg_of X G o_SMALL_LETTERS⟩ }
  have F0 := fun_mk (st := s_is_name) l0 c0 k0
  have F1 := fun_mk (st := s_check_name) l1 c1 k1
  have F2 := fun_mk (st := s_split_line) l2 c2 k2
  have F3 := fun_mk (st := s_join_words) l3 c3 k3
  have F4 := fun_mk (st := s__law_store) l4 c4 k4
  have F5 := fun_mk (st := s__law_mixed) l5 c5 k5
  have F6 := fun_mk (st := s__law_take) l6 c6 k6
  have F7 := fun_mk (st := s__law_edge) l7 c7 k7
  have F8 := fun_mk (st := s__law_same) l8 c8 k8
  have F9 := fun_mk (st := s__law_spoil) l9 c9 k9
  have F10 := fun_mk (st := s__law_refusal) l10 c10 k10
  have F11 := fun_mk (st := s__law_bare) l11 c11 k11
  have F12 := fun_mk (st := s__law_free) l12 c12 k12
  have F13 := fun_mk (st := s__law_name) l13 c13 k13
  have F14 := fun_mk (st := s__law_not_name) l14 c14 k14
  have F15 := fun_mk (st := s__law_word) l15 c15 k15
  have F16 := fun_mk (st := s__law_words) l16 c16 k16
  have F17 := fun_mk (st := s__law_spaced) l17 c17 k17
  have F18 := fun_mk (st := s__law_answer) l18 c18 k18
  have F19 := fun_mk (st := s__law_try) l19 c19 k19
  have F20 := fun_mk (st := s__law_is_named) l20 c20 k20
  have F21 := fun_mk (st := s__law_parted) l21 c21 k21
  have F22 := fun_mk (st := s__law_name_judged) l22 c22 k22
  have F23 := fun_mk (st := s__law_line_judged) l23 c23 k23
  have F24 := fun_mk (st := s__law_joined) l24 c24 k24
  have F25 := fun_mk (st := s__law_unjoined) l25 c25 k25
  have F26 := fun_mk (st := s__law_many_words) l26 c26 k26
  have F27 := fun_mk (st := s_law) l27 c27 k27
  have b0 := F0.binds (ps := ["text"]) fun _ _ _ _ _ _ us hl => match us, hl with | [_], _ => rfl
  have b1 := F1.binds (ps := ["text"]) fun _ _ _ _ _ _ us hl => match us, hl with | [_], _ => rfl
  have b2 := F2.binds (ps := ["line"]) fun _ _ _ _ _ _ us hl => match us, hl with | [_], _ => rfl
  have b3 := F3.binds (ps := ["words"]) fun _ _ _ _ _ _ us hl => match us, hl with | [_], _ => rfl
  have b4 := F4.binds (ps := ["script"]) fun _ _ _ _ _ _ us hl => match us, hl with | [_], _ => rfl
  have b5 := F5.binds (ps := ["store"]) fun _ _ _ _ _ _ us hl => match us, hl with | [_], _ => rfl
  have b6 := F6.binds (ps := ["store", "many"]) fun _ _ _ _ _ _ us hl => match us, hl with | [_, _], _ => rfl
  have b7 := F7.binds (ps := ["store", "many"]) fun _ _ _ _ _ _ us hl => match us, hl with | [_, _], _ => rfl
  have b8 := F8.binds (ps := ["actual", "due"]) fun _ _ _ _ _ _ us hl => match us, hl with | [_, _], _ => rfl
  have b9 := F9.binds (ps := ["thing", "depth"]) fun _ _ _ _ _ _ us hl => match us, hl with | [_, _], _ => rfl
  have b10 := F10.binds (ps := ["e"]) fun _ _ _ _ _ _ us hl => match us, hl with | [_], _ => rfl
  have b11 := F11.binds (ps := ["e"]) fun _ _ _ _ _ _ us hl => match us, hl with | [_], _ => rfl
  have b12 := F12.binds (ps := ["store", "signs", "size"]) fun _ _ _ _ _ _ us hl => match us, hl with | [_, _, _], _ => rfl
  have b13 := F13.binds (ps := ["store"]) fun _ _ _ _ _ _ us hl => match us, hl with | [_], _ => rfl
  have b14 := F14.binds (ps := ["store", "as_word"]) fun _ _ _ _ _ _ us hl => match us, hl with | [_, _], _ => rfl
  have b15 := F15.binds (ps := ["store"]) fun _ _ _ _ _ _ us hl => match us, hl with | [_], _ => rfl
  have b16 := F16.binds (ps := ["store"]) fun _ _ _ _ _ _ us hl => match us, hl with | [_], _ => rfl
  have b17 := F17.binds (ps := ["store", "words"]) fun _ _ _ _ _ _ us hl => match us, hl with | [_, _], _ => rfl
  have b18 := F18.binds (ps := ["door", "thing"]) fun _ _ _ _ _ _ us hl => match us, hl with | [_, _], _ => rfl
  have b19 := F19.binds (ps := ["door", "thing"]) fun _ _ _ _ _ _ us hl => match us, hl with | [_, _], _ => rfl
  have b20 := F20.binds (ps := ["text"]) fun _ _ _ _ _ _ us hl => match us, hl with | [_], _ => rfl
  have b21 := F21.binds (ps := ["line"]) fun _ _ _ _ _ _ us hl => match us, hl with | [_], _ => rfl
  have b22 := F22.binds (ps := ["text"]) fun _ _ _ _ _ _ us hl => match us, hl with | [_], _ => rfl
  have b23 := F23.binds (ps := ["line"]) fun _ _ _ _ _ _ us hl => match us, hl with | [_], _ => rfl
  have b24 := F24.binds (ps := ["words", "more"]) fun _ _ _ _ _ _ us hl => match us, hl with | [_, _], _ => rfl
  have b25 := F25.binds (ps := ["store", "words"]) fun _ _ _ _ _ _ us hl => match us, hl with | [_, _], _ => rfl
  have b26 := F26.binds (ps := ["store"]) fun _ _ _ _ _ _ us hl => match us, hl with | [_], _ => rfl
  refine ⟨PySem.W.fnOf "law" "law" (defArgs s_law) (defBody s_law) (defScope s_law) .none kV27 dc27 pm27 an27 cd27 ct27, fun s v => .of_eq rfl, fun base _ _ => ?_⟩
  have h_is_name : Has l.prog w K mg base "is_name" 1 false S_is_name := Fun.has F0 (PySem.W.mg_of X G a0) b0 (ok_is_name T  F0)
  have h__law_mixed : Has l.prog w K mg base "_law_mixed" 1 false S__law_mixed := Fun.has F5 (PySem.W.mg_of X G a5) b5 (ok__law_mixed T  F5)
  have hq__law_bare : HasQ l.prog w K mg base "_law_bare" 1 true S__law_bare := ⟨_, _, _, ok__law_bare T  F11, PySem.W.mg_of X G a11, k11, b11⟩
  have h__law_is_named : Has l.prog w K mg base "_law_is_named" 1 false S__law_is_named := Fun.has F20 (PySem.W.mg_of X G a20) b20 (ok__law_is_named T  F20)
  have h__law_parted : Has l.prog w K mg base "_law_parted" 1 false S__law_parted := Fun.has F21 (PySem.W.mg_of X G a21) b21 (ok__law_parted T  F21)
  have h_check_name : Has l.prog w K mg base "check_name" 2 false S_check_name := Fun.has F1 (PySem.W.mg_of X G a1) b1 (ok_check_name T h_is_name F1)
  have h_split_line : Has l.prog w K mg base "split_line" 2 false S_split_line := Fun.has F2 (PySem.W.mg_of X G a2) b2 (ok_split_line T  F2)
  have h_join_words : Has l.prog w K mg base "join_words" 2 false S_join_words := Fun.has F3 (PySem.W.mg_of X G a3) b3 (ok_join_words T  F3)
  have h__law_take : Has l.prog w K mg base "_law_take" 2 false S__law_take := Fun.has F6 (PySem.W.mg_of X G a6) b6 (ok__law_take T h__law_mixed F6)
  have h__law_spoil : Has l.prog w K mg base "_law_spoil" 1 false S__law_spoil := Fun.has F9 (PySem.W.mg_of X G a9) b9 (ok__law_spoil0 T F9)
  have hs__law_spoil : HasSp l.prog w K mg base "_law_spoil" 2 := ⟨_, _, ok__law_spoil T h__law_spoil F9, PySem.W.mg_of X G a9, k9, b9⟩
  have hq__law_refusal : HasQ l.prog w K mg base "_law_refusal" 2 false S__law_refusal := ⟨_, _, _, ok__law_refusal T hq__law_bare F10, PySem.W.mg_of X G a10, k10, b10⟩
  have h__law_edge : Has l.prog w K mg base "_law_edge" 3 false S__law_edge := Fun.has F7 (PySem.W.mg_of X G a7) b7 (ok__law_edge T h__law_take F7)
  have h__law_free : Has l.prog w K mg base "_law_free" 3 false S__law_free := Fun.has F12 (PySem.W.mg_of X G a12) b12 (ok__law_free T h__law_take F12)
  have h__law_word : Has l.prog w K mg base "_law_word" 3 false S__law_word := Fun.has F15 (PySem.W.mg_of X G a15) b15 (ok__law_word T h__law_take F15)
  have h__law_spaced : Has l.prog w K mg base "_law_spaced" 3 false S__law_spaced := Fun.has F17 (PySem.W.mg_of X G a17) b17 (ok__law_spaced T h__law_take F17)
  have h__law_answer : Has l.prog w K mg base "_law_answer" 3 false S__law_answer := Fun.has F18 (PySem.W.mg_of X G a18) b18 (ok__law_answer T h_check_name h_is_name h_join_words h_split_line F18)
  have h__law_name : Has l.prog w K mg base "_law_name" 4 false S__law_name := Fun.has F13 (PySem.W.mg_of X G a13) b13 (ok__law_name T h__law_edge h__law_take F13)
  have h__law_words : Has l.prog w K mg base "_law_words" 4 true S__law_words := Fun.has F16 (PySem.W.mg_of X G a16) b16 (ok__law_words T h__law_take h__law_word F16)
  have h__law_try : Has l.prog w K mg base "_law_try" 4 false S__law_try := Fun.has F19 (PySem.W.mg_of X G a19) b19 (ok__law_try T h__law_answer hq__law_refusal F19)
  have r8_0 : Has l.prog w K mg base "_law_same" 1 false (R__law_same 0) := Fun.has F8 (PySem.W.mg_of X G a8) b8 (fn_ok F8 sc__law_same (fun ds Qd Ed h => h.elim) fun cdv Ar outer s H E R M ds Qd Ed hr hK hm h0 h => h.elim)
  have r8_1 : Has l.prog w K mg base "_law_same" 2 false (R__law_same 1) := Fun.has F8 (PySem.W.mg_of X G a8) b8 (ok__law_same T  r8_0 F8)
  have r8_2 : Has l.prog w K mg base "_law_same" 3 false (R__law_same 2) := Fun.has F8 (PySem.W.mg_of X G a8) b8 (ok__law_same T  r8_1 F8)
  have r8_3 : Has l.prog w K mg base "_law_same" 4 false (R__law_same 3) := Fun.has F8 (PySem.W.mg_of X G a8) b8 (ok__law_same T  r8_2 F8)
  have r8_4 : Has l.prog w K mg base "_law_same" 5 false (R__law_same 4) := Fun.has F8 (PySem.W.mg_of X G a8) b8 (ok__law_same T  r8_3 F8)
  have h__law_same : Has l.prog w K mg base "_law_same" 5 false S__law_same := by unfold S__law_same; exact r8_4
  have h__law_not_name : Has l.prog w K mg base "_law_not_name" 5 false S__law_not_name := Fun.has F14 (PySem.W.mg_of X G a14) b14 (ok__law_not_name T h__law_name h__law_take F14)
  have h__law_many_words : Has l.prog w K mg base "_law_many_words" 5 true S__law_many_words := Fun.has F26 (PySem.W.mg_of X G a26) b26 (ok__law_many_words T h__law_edge h__law_take h__law_words F26)
  have h__law_name_judged : Has l.prog w K mg base "_law_name_judged" 6 false S__law_name_judged := Fun.has F22 (PySem.W.mg_of X G a22) b22 (ok__law_name_judged T h__law_is_named h__law_same h__law_try F22)
  have h__law_line_judged : Has l.prog w K mg base "_law_line_judged" 6 false S__law_line_judged := Fun.has F23 (PySem.W.mg_of X G a23) b23 (ok__law_line_judged T h__law_parted h__law_same h__law_try hs__law_spoil F23)
  have h__law_joined : Has l.prog w K mg base "_law_joined" 6 false S__law_joined := Fun.has F24 (PySem.W.mg_of X G a24) b24 (ok__law_joined T h__law_same h__law_try F24)
  have h__law_unjoined : Has l.prog w K mg base "_law_unjoined" 6 false S__law_unjoined := Fun.has F25 (PySem.W.mg_of X G a25) b25 (ok__law_unjoined T h__law_edge h__law_same h__law_take h__law_try h__law_word F25)
  exact ok_law T h__law_free h__law_joined h__law_line_judged h__law_many_words h__law_name h__law_name_judged h__law_not_name h__law_spaced h__law_take h__law_unjoined h__law_word (ok_store T F4) (PySem.W.mg_of X G a4) k4 b4 F27
end LW
open PySem PySem.W PyProof.Rows
set_option maxRecDepth 100000 in
set_option maxHeartbeats 0 in
theorem PySem.Challenge.cw_notbehind_k05_names_and_words_holds : PySem.Challenge.rw_notbehind_k05_names_and_words.Holds := by
  w_on; o_law; k_head; (case hw => w_witness2)
  k_fill
  refine L2.walk_of (l := PySem.Challenge.rw_notbehind_k05_names_and_words) (n := 63) (k := 8) (x := "script") (CX := fun w => L2N.CX PySem.Challenge.rw_notbehind_k05_names_and_words.prog w) (sp := fun w => Nb.spLaw _) rfl (by decide) rfl ⟨rfl, by decide, by decide⟩ (fun w h Y => PySem.W.kIn_of Y) ?F (fun _ _ a ns hl _ hS => ⟨a, ns, rfl, hS, hl, fun _ => rfl⟩) (fun _ _ _ _ _ h => Nb.cx_no h)
  case F =>
    intro w mg fa h KX G hmg
    refine' LW.all_mk KX G hmg ?g_BadCount ?g_BadName ?g_BadNumber ?g_BadRow ?g_BadShare ?g_BadSize ?g_BadText ?g_BadWeight ?g_DivisionByZero ?g_GameOver ?g_InUse ?g_Lacking ?g_Mismatch ?g_NoHelper ?g_NotBehindError ?g_NotExact ?g_NothingToTakeBack ?g_TakenName ?g_UnknownName ?g_WrongKind ?a0 ?l0 ?c0 ?k0 ?a1 ?l1 ?c1 ?k1 ?a2 ?l2 ?c2 ?k2 ?a3 ?l3 ?c3 ?k3 ?a4 ?l4 ?c4 ?k4 ?a5 ?l5 ?c5 ?k5 ?a6 ?l6 ?c6 ?k6 ?a7 ?l7 ?c7 ?k7 ?a8 ?l8 ?c8 ?k8 ?a9 ?l9 ?c9 ?k9 ?a10 ?l10 ?c10 ?k10 ?a11 ?l11 ?c11 ?k11 ?a12 ?l12 ?c12 ?k12 ?a13 ?l13 ?c13 ?k13 ?a14 ?l14 ?c14 ?k14 ?a15 ?l15 ?c15 ?k15 ?a16 ?l16 ?c16 ?k16 ?a17 ?l17 ?c17 ?k17 ?a18 ?l18 ?c18 ?k18 ?a19 ?l19 ?c19 ?k19 ?a20 ?l20 ?c20 ?k20 ?a21 ?l21 ?c21 ?k21 ?a22 ?l22 ?c22 ?k22 ?a23 ?l23 ?c23 ?k23 ?a24 ?l24 ?c24 ?k24 ?a25 ?l25 ?c25 ?k25 ?a26 ?l26 ?c26 ?k26 ?a27 ?l27 ?c27 ?k27 ?z_ValueError ?z_abs ?z_all ?z_bool ?z_int ?z_isinstance ?z_len ?z_list ?z_range ?z_str ?z_super ?z_tuple ?xL_BadName ?fga_BadName ?fcl_BadName ?fgg_BadName ?fn_BadName_amount ?fn_BadName_at ?fn_BadName_beginning ?fn_BadName_due ?fn_BadName_found ?fn_BadName_high ?fn_BadName_line ?fn_BadName_low ?fn_BadName_name ?fn_BadName_user ?kp_BadName ?eb_BadName ?ty_BadName ?hd_BadName ?ic_BadName ?mo_BadName ?sN_BadName ?kV_BadName ?ki_BadName_BadCount ?ki_BadName_BadName ?ki_BadName_BadNumber ?ki_BadName_BadRow ?ki_BadName_BadShare ?ki_BadName_BadSize ?ki_BadName_BadText ?ki_BadName_BadWeight ?ki_BadName_DivisionByZero ?ki_BadName_GameOver ?ki_BadName_InUse ?ki_BadName_Lacking ?ki_BadName_Mismatch ?ki_BadName_NoHelper ?ki_BadName_NotExact ?ki_BadName_NothingToTakeBack ?ki_BadName_TakenName ?ki_BadName_UnknownName ?ki_BadName_WrongKind ?sa_BadName ?iC_BadName ?tI_BadName ?ve_BadName ?sc_BadName ?mc_BadName ?su_BadName ?lI_BadName ?cI_BadName ?lcc_BadName ?lcd_BadName ?vs2_BadName ?ff_BadName ?xL_BadText ?fga_BadText ?fcl_BadText ?fgg_BadText ?fn_BadText_amount ?fn_BadText_at ?fn_BadText_beginning ?fn_BadText_due ?fn_BadText_found ?fn_BadText_high ?fn_BadText_line ?fn_BadText_low ?fn_BadText_name ?fn_BadText_user ?kp_BadText ?eb_BadText ?ty_BadText ?hd_BadText ?ic_BadText ?mo_BadText ?sN_BadText ?kV_BadText ?ki_BadText_BadCount ?ki_BadText_BadName ?ki_BadText_BadNumber ?ki_BadText_BadRow ?ki_BadText_BadShare ?ki_BadText_BadSize ?ki_BadText_BadText ?ki_BadText_BadWeight ?ki_BadText_DivisionByZero ?ki_BadText_GameOver ?ki_BadText_InUse ?ki_BadText_Lacking ?ki_BadText_Mismatch ?ki_BadText_NoHelper ?ki_BadText_NotExact ?ki_BadText_NothingToTakeBack ?ki_BadText_TakenName ?ki_BadText_UnknownName ?ki_BadText_WrongKind ?sa_BadText ?iC_BadText ?tI_BadText ?ve_BadText ?sc_BadText ?mc_BadText ?su_BadText ?lI_BadText ?cI_BadText ?lcc_BadText ?lcd_BadText ?vs2_BadText ?ff_BadText ?opq ?ftop ?spO ?tkO ?eNB ?tNB ?iNB ?o_DIGITS ?o_LONGEST_NAME ?o_SMALL_LETTERS
    (case g_BadCount => k_is)
    (case g_BadName => k_is)
    (case g_BadNumber => k_is)
    (case g_BadRow => k_is)
    (case g_BadShare => k_is)
    (case g_BadSize => k_is)
    (case g_BadText => k_is)
    (case g_BadWeight => k_is)
    (case g_DivisionByZero => k_is)
    (case g_GameOver => k_is)
    (case g_InUse => k_is)
    (case g_Lacking => k_is)
    (case g_Mismatch => k_is)
    (case g_NoHelper => k_is)
    (case g_NotBehindError => k_is)
    (case g_NotExact => k_is)
    (case g_NothingToTakeBack => k_is)
    (case g_TakenName => k_is)
    (case g_UnknownName => k_is)
    (case g_WrongKind => k_is)
    (case a0 => k_is)
    (case l0 => k_is)
    (case c0 => k_is)
    (case k0 => k_is)
    (case a1 => k_is)
    (case l1 => k_is)
    (case c1 => k_is)
    (case k1 => k_is)
    (case a2 => k_is)
    (case l2 => k_is)
    (case c2 => k_is)
    (case k2 => k_is)
    (case a3 => k_is)
    (case l3 => k_is)
    (case c3 => k_is)
    (case k3 => k_is)
    (case a4 => k_is)
    (case l4 => k_is)
    (case c4 => k_is)
    (case k4 => k_is)
    (case a5 => k_is)
    (case l5 => k_is)
    (case c5 => k_is)
    (case k5 => k_is)
    (case a6 => k_is)
    (case l6 => k_is)
    (case c6 => k_is)
    (case k6 => k_is)
    (case a7 => k_is)
    (case l7 => k_is)
    (case c7 => k_is)
    (case k7 => k_is)
    (case a8 => k_is)
    (case l8 => k_is)
    (case c8 => k_is)
    (case k8 => k_is)
    (case a9 => k_is)
    (case l9 => k_is)
    (case c9 => k_is)
    (case k9 => k_is)
    (case a10 => k_is)
    (case l10 => k_is)
    (case c10 => k_is)
    (case k10 => k_is)
    (case a11 => k_is)
    (case l11 => k_is)
    (case c11 => k_is)
    (case k11 => k_is)
    (case a12 => k_is)
    (case l12 => k_is)
    (case c12 => k_is)
    (case k12 => k_is)
    (case a13 => k_is)
    (case l13 => k_is)
    (case c13 => k_is)
    (case k13 => k_is)
    (case a14 => k_is)
    (case l14 => k_is)
    (case c14 => k_is)
    (case k14 => k_is)
    (case a15 => k_is)
    (case l15 => k_is)
    (case c15 => k_is)
    (case k15 => k_is)
    (case a16 => k_is)
    (case l16 => k_is)
    (case c16 => k_is)
    (case k16 => k_is)
    (case a17 => k_is)
    (case l17 => k_is)
    (case c17 => k_is)
    (case k17 => k_is)
    (case a18 => k_is)
    (case l18 => k_is)
    (case c18 => k_is)
    (case k18 => k_is)
    (case a19 => k_is)
    (case l19 => k_is)
    (case c19 => k_is)
    (case k19 => k_is)
    (case a20 => k_is)
    (case l20 => k_is)
    (case c20 => k_is)
    (case k20 => k_is)
    (case a21 => k_is)
    (case l21 => k_is)
    (case c21 => k_is)
    (case k21 => k_is)
    (case a22 => k_is)
    (case l22 => k_is)
    (case c22 => k_is)
    (case k22 => k_is)
    (case a23 => k_is)
    (case l23 => k_is)
    (case c23 => k_is)
    (case k23 => k_is)
    (case a24 => k_is)
    (case l24 => k_is)
    (case c24 => k_is)
    (case k24 => k_is)
    (case a25 => k_is)
    (case l25 => k_is)
    (case c25 => k_is)
    (case k25 => k_is)
    (case a26 => k_is)
    (case l26 => k_is)
    (case c26 => k_is)
    (case k26 => k_is)
    (case a27 => k_is)
    (case l27 => k_is)
    (case c27 => k_is)
    (case k27 => k_is)
    (case z_ValueError => k_is)
    (case z_abs => k_is)
    (case z_all => k_is)
    (case z_bool => k_is)
    (case z_int => k_is)
    (case z_isinstance => k_is)
    (case z_len => k_is)
    (case z_list => k_is)
    (case z_range => k_is)
    (case z_str => k_is)
    (case z_super => k_is)
    (case z_tuple => k_is)
    (case xL_BadName => k_is)
    (case fga_BadName => k_is)
    (case fcl_BadName => k_is)
    (case fgg_BadName => k_is)
    (case fn_BadName_amount => k_is)
    (case fn_BadName_at => k_is)
    (case fn_BadName_beginning => k_is)
    (case fn_BadName_due => k_is)
    (case fn_BadName_found => k_is)
    (case fn_BadName_high => k_is)
    (case fn_BadName_line => k_is)
    (case fn_BadName_low => k_is)
    (case fn_BadName_name => k_is)
    (case fn_BadName_user => k_is)
    (case kp_BadName => k_is)
    (case eb_BadName => k_is)
    (case ty_BadName => k_is)
    (case hd_BadName => k_is)
    (case ic_BadName => k_is)
    (case mo_BadName => k_is)
    (case sN_BadName => k_is)
    (case kV_BadName => kit_is)
    (case ki_BadName_BadCount => kit_is)
    (case ki_BadName_BadName => kit_is)
    (case ki_BadName_BadNumber => kit_is)
    (case ki_BadName_BadRow => kit_is)
    (case ki_BadName_BadShare => kit_is)
    (case ki_BadName_BadSize => kit_is)
    (case ki_BadName_BadText => kit_is)
    (case ki_BadName_BadWeight => kit_is)
    (case ki_BadName_DivisionByZero => kit_is)
    (case ki_BadName_GameOver => kit_is)
    (case ki_BadName_InUse => kit_is)
    (case ki_BadName_Lacking => kit_is)
    (case ki_BadName_Mismatch => kit_is)
    (case ki_BadName_NoHelper => kit_is)
    (case ki_BadName_NotExact => kit_is)
    (case ki_BadName_NothingToTakeBack => kit_is)
    (case ki_BadName_TakenName => kit_is)
    (case ki_BadName_UnknownName => kit_is)
    (case ki_BadName_WrongKind => kit_is)
    (case sa_BadName => k_is)
    (case iC_BadName => k_is)
    (case tI_BadName => k_is)
    (case ve_BadName => k_is)
    (case sc_BadName => first | rfl | k_is)
    (case mc_BadName => first | k_is | rfl)
    (case su_BadName => ks_is)
    (case lI_BadName => k_is)
    (case cI_BadName => k_is)
    (case lcc_BadName => k_is)
    (case lcd_BadName => k_is)
    (case vs2_BadName => rfl)
    (case ff_BadName => first | rfl | decide +kernel)
    (case xL_BadText => k_is)
    (case fga_BadText => k_is)
    (case fcl_BadText => k_is)
    (case fgg_BadText => k_is)
    (case fn_BadText_amount => k_is)
    (case fn_BadText_at => k_is)
    (case fn_BadText_beginning => k_is)
    (case fn_BadText_due => k_is)
    (case fn_BadText_found => k_is)
    (case fn_BadText_high => k_is)
    (case fn_BadText_line => k_is)
    (case fn_BadText_low => k_is)
    (case fn_BadText_name => k_is)
    (case fn_BadText_user => k_is)
    (case kp_BadText => k_is)
    (case eb_BadText => k_is)
    (case ty_BadText => k_is)
    (case hd_BadText => k_is)
    (case ic_BadText => k_is)
    (case mo_BadText => k_is)
    (case sN_BadText => k_is)
    (case kV_BadText => kit_is)
    (case ki_BadText_BadCount => kit_is)
    (case ki_BadText_BadName => kit_is)
    (case ki_BadText_BadNumber => kit_is)
    (case ki_BadText_BadRow => kit_is)
    (case ki_BadText_BadShare => kit_is)
    (case ki_BadText_BadSize => kit_is)
    (case ki_BadText_BadText => kit_is)
    (case ki_BadText_BadWeight => kit_is)
    (case ki_BadText_DivisionByZero => kit_is)
    (case ki_BadText_GameOver => kit_is)
    (case ki_BadText_InUse => kit_is)
    (case ki_BadText_Lacking => kit_is)
    (case ki_BadText_Mismatch => kit_is)
    (case ki_BadText_NoHelper => kit_is)
    (case ki_BadText_NotExact => kit_is)
    (case ki_BadText_NothingToTakeBack => kit_is)
    (case ki_BadText_TakenName => kit_is)
    (case ki_BadText_UnknownName => kit_is)
    (case ki_BadText_WrongKind => kit_is)
    (case sa_BadText => k_is)
    (case iC_BadText => k_is)
    (case tI_BadText => k_is)
    (case ve_BadText => k_is)
    (case sc_BadText => first | rfl | k_is)
    (case mc_BadText => first | k_is | rfl)
    (case su_BadText => ks_is)
    (case lI_BadText => k_is)
    (case cI_BadText => k_is)
    (case lcc_BadText => k_is)
    (case lcd_BadText => k_is)
    (case vs2_BadText => rfl)
    (case ff_BadText => first | rfl | decide +kernel)
    (case opq => k_is)
    (case ftop => first | rfl | decide +kernel)
    (case spO => k_is)
    (case tkO => k_is)
    (case eNB => k_is)
    (case tNB => k_is)
    (case iNB => k_is)
    (case o_DIGITS => k_is)
    (case o_LONGEST_NAME => k_is)
    (case o_SMALL_LETTERS => k_is)
