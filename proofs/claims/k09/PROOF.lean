import PyProof.Rows.All
import Wide.All
import OpenK.AllK
import Wide.FinOn
import HandS.ForMost
import HandS.TupAny
import HandS.Wide
import HandS.IsInst
import HandS.SortKw
import KE.DataMinMax
import KE.GoesEnum
import HandS.Dict
import HandS.ListItems
import HandS.More
import HandS.Deep
import HandS.Small
import HandS.FStr
import HandS.ExcOwn
import HandS.WordsExc
import HandS.TryOnly
import HandS.ExcIs
import HandS.Style
import PyProof.StrBlock2
import HandS.CallLocal
import HandS.Iter
import HandS.Rev
import HandS.Dict
import HandS.Flow
import HandS.IsInst
import HandS.More
import HandS.RaiseMore
import HandS.RevTup
import HandS.SortInts
import KE.KDictPairs
import PySem.Challenge.RW_lendback_k09_parse_declarations
set_option Elab.async false
set_option linter.all false
set_option maxRecDepth 100000
/-! Values without the heap: tuples are data, only what may change has an address. -/
namespace Q4
open PySem L2

inductive D where
  | non | bl (b : Bool) | int (i : Int) | str (x : Str) | tup (xs : List D) | rol (xs : List D) | btp (xs : List D) | ref (a : Addr) | ty (n : String)
inductive DO where
  | lst (xs : List D)
  | ins (C dx : Addr) (fs : List (Str × D))
  | dct (kvs : List (Key × D))
abbrev M := Addr → Option DO
def put (m : M) (a : Addr) (o : DO) : M := fun b => if b = a then some o else m b
theorem put_same {m : M} {a : Addr} {o : DO} : put m a o a = some o := if_pos rfl
theorem put_ne {m : M} {a b : Addr} {o : DO} (h : b ≠ a) : put m a o b = m b := if_neg h
theorem put_put {m : M} {a : Addr} {o u : DO} : put (put m a o) a u = put m a u := by
  funext b; unfold put; split <;> rfl
theorem put_comm {m : M} {a b : Addr} {o u : DO} (h : a ≠ b) : put (put m a o) b u = put (put m b u) a o := by
  funext c; unfold put
  by_cases h1 : c = b
  · have : ¬ c = a := fun e => h (e.symm.trans h1)
    simp [h1, this]
    intro e; exact absurd e.symm h
  · simp [h1]

/-- a list that nobody changes: locked, or one of the module's -/
def FrzL (K : PySem.W.Frag) (H : Hp) (a : Addr) (xs : List V) : Prop :=
  (∃ o, H a = some (.frz o (.lst xs))) ∨
    ∃ (o : Obj) (its : Array Value) (n : Nat), K.lookup a = some o ∧ o.cls = .type "list" ∧ o.dict = none ∧ o.data = .seq its n ∧ its.size ≤ sizeLine ∧ Vals xs its.toList
theorem FrzL.sq {K : PySem.W.Frag} {H : Hp} {a : Addr} {xs : List V} (h : FrzL K H a xs) : SqL K H a xs := by
  rcases h with ⟨o, h⟩ | h
  · exact .inl (.inr ⟨o, h⟩)
  · exact .inr h
/-- a tuple that is known to have no dict of its own -/
def FrzB (H : Hp) (a : Addr) (xs : List V) : Prop := ∃ (its : Array Value) (n : Nat), H a = some (.frz { cls := .type "tuple", data := .seq its n } (.tup xs))
theorem FrzB.sq {K : PySem.W.Frag} {H : Hp} {a : Addr} {xs : List V} (h : FrzB H a xs) : SqT K H a xs := let ⟨_, _, h⟩ := h; .inl (.inr ⟨_, h⟩)
mutual
inductive RD (K : PySem.W.Frag) (H : Hp) : D → V → Prop
  | non : RD K H .non .non
  | bl (b : Bool) : RD K H (.bl b) (.bl b)
  | int (i : Int) : RD K H (.int i) (.int i)
  | str (x : Str) : RD K H (.str x) (.str x)
  | ref (a : Addr) : RD K H (.ref a) (.ref a)
  | ty (n : String) : RD K H (.ty n) (.ty n)
  | tup {a : Addr} {xs : List V} {ds : List D} : SqT K H a xs → RDs K H ds xs → RD K H (.tup ds) (.ref a)
  | rol {a : Addr} {xs : List V} {ds : List D} : FrzL K H a xs → RDs K H ds xs → RD K H (.rol ds) (.ref a)
  | btp {a : Addr} {xs : List V} {ds : List D} : FrzB H a xs → RDs K H ds xs → RD K H (.btp ds) (.ref a)
inductive RDs (K : PySem.W.Frag) (H : Hp) : List D → List V → Prop
  | nil : RDs K H [] []
  | cons {v : V} {vs : List V} {d : D} {ds : List D} : RD K H d v → RDs K H ds vs → RDs K H (d :: ds) (v :: vs)
end
structure Keep (K : PySem.W.Frag) (H H' : Hp) : Prop where
  t : ∀ a xs, SqT K H a xs → SqT K H' a xs
  f : ∀ a xs, FrzL K H a xs → FrzL K H' a xs
  b : ∀ a xs, FrzB H a xs → FrzB H' a xs
section
variable {K : PySem.W.Frag} {H H' H'' : Hp}
theorem Keep.refl (H : Hp) : Keep K H H := ⟨fun _ _ h => h, fun _ _ h => h, fun _ _ h => h⟩
theorem Keep.trans (a : Keep K H H') (b : Keep K H' H'') : Keep K H H'' := ⟨fun _ _ h => b.t _ _ (a.t _ _ h), fun _ _ h => b.f _ _ (a.f _ _ h), fun _ _ h => b.b _ _ (a.b _ _ h)⟩
mutual
theorem RD.mono (k : Keep K H H') : ∀ {d : D} {v : V}, RD K H d v → RD K H' d v
  | _, _, .non => .non
  | _, _, .bl b => .bl b
  | _, _, .int b => .int b
  | _, _, .str b => .str b
  | _, _, .ref b => .ref b
  | _, _, .ty b => .ty b
  | _, _, .tup h r => .tup (k.t _ _ h) (RDs.mono k r)
  | _, _, .rol h r => .rol (k.f _ _ h) (RDs.mono k r)
  | _, _, .btp h r => .btp (k.b _ _ h) (RDs.mono k r)
theorem RDs.mono (k : Keep K H H') : ∀ {d : List D} {v : List V}, RDs K H d v → RDs K H' d v
  | _, _, .nil => .nil
  | _, _, .cons h r => .cons (h.mono k) (RDs.mono k r)
end
theorem RDs.length : ∀ {ds : List D} {vs : List V}, RDs K H ds vs → ds.length = vs.length
  | _, _, .nil => rfl
  | _, _, .cons _ r => congrArg (· + 1) r.length
theorem RDs.get : ∀ {ds : List D} {vs : List V} {i : Nat} {d : D}, RDs K H ds vs → ds[i]? = some d → ∃ v, vs[i]? = some v ∧ RD K H d v
  | _, _, _, _, .nil, e => by simp at e
  | _, _, 0, _, .cons h _, e => by simp at e; subst e; exact ⟨_, rfl, h⟩
  | _, _, i + 1, d, .cons _ r, e => by
    obtain ⟨v, h1, h2⟩ := RDs.get (i := i) (d := d) r (by simpa using e)
    exact ⟨v, by simpa using h1, h2⟩
theorem RDs.getV : ∀ {ds : List D} {vs : List V} {i : Nat} {v : V}, RDs K H ds vs → vs[i]? = some v → ∃ d, ds[i]? = some d ∧ RD K H d v
  | _, _, _, _, .nil, e => by simp at e
  | _, _, 0, _, .cons h _, e => by simp at e; subst e; exact ⟨_, rfl, h⟩
  | _, _, i + 1, d, .cons _ r, e => by
    obtain ⟨v, h1, h2⟩ := RDs.getV (i := i) (v := d) r (by simpa using e)
    exact ⟨v, by simpa using h1, h2⟩
theorem RDs.append : ∀ {ds es : List D} {vs us : List V}, RDs K H ds vs → RDs K H es us → RDs K H (ds ++ es) (vs ++ us)
  | _, _, _, _, .nil, s => s
  | _, _, _, _, .cons h r, s => .cons h (r.append s)
theorem RDs.set {d : D} {v : V} (h : RD K H d v) : ∀ {ds : List D} {vs : List V} (i : Nat), RDs K H ds vs → RDs K H (ds.set i d) (vs.set i v)
  | _, _, _, .nil => .nil
  | _, _, 0, .cons _ r => .cons h r
  | _, _, i + 1, .cons q r => .cons q (RDs.set h i r)
theorem RDs.take : ∀ {ds : List D} {vs : List V} (n : Nat), RDs K H ds vs → RDs K H (ds.take n) (vs.take n)
  | _, _, 0, _ => .nil
  | _, _, _ + 1, .nil => .nil
  | _, _, n + 1, .cons r t => .cons r (RDs.take n t)
theorem RDs.drop : ∀ {ds : List D} {vs : List V} (n : Nat), RDs K H ds vs → RDs K H (ds.drop n) (vs.drop n)
  | _, _, 0, r => r
  | _, _, _ + 1, .nil => .nil
  | _, _, n + 1, .cons _ t => RDs.drop n t
/-- a new object keeps every tuple -/
theorem Keep.new {p : Addr} {o : HO} (h : H p = none) : Keep K H (upd H p o) := by
  refine ⟨fun a xs q => ?_, fun a xs q => ?_, fun a xs q => (let ⟨its, n, q⟩ := q; ⟨its, n, by rw [upd_ne (ne_of_none q h)]; exact q⟩)⟩
  · rcases q with (q | ⟨o', q⟩) | q
    · exact .inl (.inl (by rw [upd_ne (ne_of_none q h)]; exact q))
    · exact .inl (.inr ⟨o', by rw [upd_ne (ne_of_none q h)]; exact q⟩)
    · exact .inr q
  · rcases q with ⟨o', q⟩ | q
    · exact .inl ⟨o', by rw [upd_ne (ne_of_none q h)]; exact q⟩
    · exact .inr q
/-- a list that changes keeps every tuple -/
theorem Keep.lst {p : Addr} {vs : List V} {o : HO} (h : H p = some (.lst vs)) : Keep K H (upd H p o) := by
  refine ⟨fun a xs q => ?_, fun a xs q => ?_, fun a xs q => (let ⟨its, n, q⟩ := q; ⟨its, n, by rw [upd_ne (ne_of q h (by simp))]; exact q⟩)⟩
  · rcases q with (q | ⟨o', q⟩) | q
    · exact .inl (.inl (by rw [upd_ne (ne_of q h (by simp))]; exact q))
    · exact .inl (.inr ⟨o', by rw [upd_ne (ne_of q h (by simp))]; exact q⟩)
    · exact .inr q
  · rcases q with ⟨o', q⟩ | q
    · exact .inl ⟨o', by rw [upd_ne (ne_of q h (by simp))]; exact q⟩
    · exact .inr q

/-- what stands at a changeable address -/
def RO (K : PySem.W.Frag) (H : Hp) (a : Addr) : DO → Prop
  | .lst xs => ∃ vs, H a = some (.lst vs) ∧ RDs K H xs vs
  | .ins C dx fs => ∃ gs, H a = some (.ins C dx gs) ∧ RDs K H (fs.map (·.2)) (gs.map (·.2)) ∧ fs.map (·.1) = gs.map (·.1)
  | .dct kvs => ∃ gs, H a = some (.dK gs) ∧ RDs K H (kvs.map (·.2)) (gs.map (·.2)) ∧ kvs.map (·.1) = gs.map (·.1)
def RM (K : PySem.W.Frag) (H : Hp) (m : M) : Prop := ∀ a o, m a = some o → RO K H a o
theorem RM.free {m : M} (r : RM K H m) {p : Addr} (h : H p = none) : m p = none := by
  cases e : m p with
  | none => rfl
  | some o =>
    have q := r p o e
    cases o with
    | lst xs => obtain ⟨vs, e1, _⟩ := q; rw [h] at e1; cases e1
    | ins C dx fs => obtain ⟨vs, e1, _⟩ := q; rw [h] at e1; cases e1
    | dct kvs => obtain ⟨vs, e1, _⟩ := q; rw [h] at e1; cases e1
/-- objects that stay as they are -/
theorem RO.stay {a : Addr} {o : DO} (q : RO K H a o) (k : Keep K H H') (e : H' a = H a) : RO K H' a o := by
  cases o with
  | lst xs => obtain ⟨vs, e1, r⟩ := q; exact ⟨vs, e.trans e1, r.mono k⟩
  | ins C dx fs => obtain ⟨vs, e1, r⟩ := q; exact ⟨vs, e.trans e1, r.1.mono k, r.2⟩
  | dct kvs => obtain ⟨vs, e1, r⟩ := q; exact ⟨vs, e.trans e1, r.1.mono k, r.2⟩
theorem RM.new {m : M} (r : RM K H m) {p : Addr} {o : HO} (h : H p = none) : RM K (upd H p o) m := fun a u e => by
  have n : a ≠ p := fun z => by rw [z, r.free h] at e; cases e
  exact (r a u e).stay (Keep.new h) (upd_ne n)
theorem RM.newPut {m : M} (r : RM K H m) {p : Addr} {vs : List V} {xs : List D} (h : H p = none) (q : RDs K H xs vs) : RM K (upd H p (.lst vs)) (put m p (.lst xs)) := fun a u e => by
  by_cases n : a = p
  · subst n
    rw [put_same] at e; cases e
    exact ⟨vs, upd_same, q.mono (Keep.new h)⟩
  · rw [put_ne n] at e
    exact (r a u e).stay (Keep.new h) (upd_ne n)
theorem RM.setPut {m : M} (r : RM K H m) {p : Addr} {ws vs : List V} {xs : List D} (h : H p = some (.lst ws)) (q : RDs K H xs vs) : RM K (upd H p (.lst vs)) (put m p (.lst xs)) := fun a u e => by
  by_cases n : a = p
  · subst n
    rw [put_same] at e; cases e
    exact ⟨vs, upd_same, q.mono (Keep.lst h)⟩
  · rw [put_ne n] at e
    exact (r a u e).stay (Keep.lst h) (upd_ne n)
/-- forgetting -/
theorem RM.less {m m' : M} (r : RM K H m) (h : ∀ a o, m' a = some o → m a = some o) : RM K H m' := fun a o e => r a o (h a o e)

abbrev DS := List (Option D)
structure RS (K : PySem.W.Frag) (H : Hp) (sd : DS) (σ : St) : Prop where
  len : sd.length = σ.length
  get : ∀ (i : Nat) (d : D), sd[i]? = some (some d) → ∃ v, σ[i]? = some (some v) ∧ RD K H d v
theorem RS.mono {sd : DS} {σ : St} (r : RS K H sd σ) (k : Keep K H H') : RS K H' sd σ :=
  ⟨r.len, fun i d e => let ⟨v, e1, q⟩ := r.get i d e; ⟨v, e1, q.mono k⟩⟩
theorem RS.set {sd : DS} {σ : St} (r : RS K H sd σ) (i : Nat) {d : D} {v : V} (q : RD K H d v) : RS K H (sd.set i (some d)) (σ.set i (some v)) :=
  ⟨by rw [List.length_set, List.length_set, r.len], fun j e h => by
    by_cases hj : i = j
    · subst hj
      by_cases hi : i < sd.length
      · rw [List.getElem?_set_self hi] at h
        cases h
        exact ⟨v, List.getElem?_set_self (by rw [← r.len]; exact hi), q⟩
      · rw [List.getElem?_eq_none (by rw [List.length_set]; omega)] at h
        cases h
    · rw [List.getElem?_set_ne hj] at h
      obtain ⟨u, e1, q1⟩ := r.get j e h
      exact ⟨u, by rw [List.getElem?_set_ne hj]; exact e1, q1⟩⟩
theorem RS.start {N : List Str} {ds : List D} {vs : List V} (r : RDs K H ds vs) : RS K H (ds.map some ++ List.replicate (N.length - ds.length) none) (L2.start N vs) := by
  refine ⟨?_, fun i d e => ?_⟩
  · unfold L2.start
    simp [r.length]
  · unfold L2.start
    by_cases hi : i < ds.length
    · rw [List.getElem?_append_left (by simpa using hi), List.getElem?_map] at e
      cases q : ds[i]? with
      | none => rw [q] at e; cases e
      | some d' =>
        rw [q] at e
        have e' : d' = d := by simpa using e
        subst e'
        obtain ⟨v, h1, h2⟩ := r.get q
        exact ⟨v, by rw [List.getElem?_append_left (by simp; rw [← r.length]; exact hi), List.getElem?_map, h1]; rfl, h2⟩
    · rw [List.getElem?_append_right (by simpa using Nat.le_of_not_lt hi), List.getElem?_replicate] at e
      split at e <;> cases e
end
def Less (m' m : M) : Prop := ∀ a o, m' a = some o → m a = some o
theorem Less.refl (m : M) : Less m m := fun _ _ h => h
theorem Less.trans {a b c : M} (h : Less a b) (h' : Less b c) : Less a c := fun x o e => h' x o (h x o e)
theorem Less.new {m : M} {p : Addr} {o : DO} (h : m p = none) : Less m (put m p o) := fun a u e => by
  rw [put_ne (fun z => by rw [z, h] at e; cases e)]
  exact e
theorem Less.put {m m' : M} {p : Addr} {o : DO} (h : Less m m') : Less (Q4.put m p o) (Q4.put m' p o) := fun a u e => by
  by_cases n : a = p
  · subst n; rw [put_same] at e ⊢; exact e
  · rw [put_ne n] at e ⊢; exact h a u e
/-- less may be known -/
def Fg (J : List (Option D) → M → Prop) : List (Option D) → M → Prop := fun sd m => ∃ m', Less m' m ∧ J sd m'
end Q4

set_option Elab.async false
set_option linter.all false
set_option maxRecDepth 100000
namespace Q4
open PySem L2
abbrev DK := D → M → Prop
abbrev DXK := Value → Option (List (Str × D)) → M → Prop
abbrev TDE := DS → M → DK → Prop
abbrev TDT := DS → M → (Bool → M → Prop) → Prop
abbrev TDA := DS → M → (List D → M → Prop) → Prop
structure DEnds where
  nx : DS → M → Prop
  rt : DK
  bk : DS → M → Prop := fun _ _ => False
  ct : DS → M → Prop := fun _ _ => False
abbrev TDS := DEnds → DS → M → Prop
structure At (K : PySem.W.Frag) (H0 : Hp) (sd : DS) (m : M) (σ : St) (H : Hp) : Prop where
  s : RS K H sd σ
  m : RM K H m
  k : Keep K H0 H
section
variable (K : PySem.W.Frag) (H0 : Hp)
def lE (t : TDE) : TE := fun σ H Q => ∃ sd m P, At K H0 sd m σ H ∧ t sd m P ∧ ∀ d m' v H', Keep K H H' → RM K H' m' → RD K H' d v → P d m' → Q v H'
def lT (t : TDT) : TT := fun σ H Q => ∃ sd m P, At K H0 sd m σ H ∧ t sd m P ∧ ∀ b m' H', Keep K H H' → RM K H' m' → P b m' → Q b H'
def lA (t : TDA) : TA := fun σ H Q => ∃ sd m P, At K H0 sd m σ H ∧ t sd m P ∧ ∀ ds m' vs H', Keep K H H' → RM K H' m' → RDs K H' ds vs → P ds m' → Q vs H'
def lS (t : TDS) : TS := fun D σ H => ∃ sd m DD, At K H0 sd m σ H ∧ t DD sd m ∧
  (∀ sd' m' σ' H', Keep K H H' → RS K H' sd' σ' → RM K H' m' → DD.nx sd' m' → D.nx σ' H') ∧
  (∀ d m' v H', Keep K H H' → RM K H' m' → RD K H' d v → DD.rt d m' → D.rt v H') ∧
  (∀ sd' m' σ' H', Keep K H H' → RS K H' sd' σ' → RM K H' m' → DD.bk sd' m' → D.bk σ' H') ∧
  (∀ sd' m' σ' H', Keep K H H' → RS K H' sd' σ' → RM K H' m' → DD.ct sd' m' → D.ct σ' H')
end
section
variable {K : PySem.W.Frag} {H0 H H' : Hp} {sd : DS} {m m' : M} {σ : St}
theorem At.to (a : At K H0 sd m σ H) (k : Keep K H H') (r : RM K H' m') : At K H0 sd m' σ H' := ⟨a.s.mono k, r, a.k.trans k⟩
theorem At.toS {sd' : DS} {σ' : St} (a : At K H0 sd m σ H) (k : Keep K H H') (s : RS K H' sd' σ') (r : RM K H' m') : At K H0 sd' m' σ' H' := ⟨s, r, a.k.trans k⟩
end
section
variable {X : Cx} {H0 : Hp}
theorem peL {e : Expr} {t t' : TE} (h : PE X e t) (i : ∀ σ H Q, t' σ H Q → t σ H Q) : PE X e t' := ⟨fun pins s σ H Q I ht => h.run pins s σ H Q I (i _ _ _ ht)⟩
theorem ptL {e : Expr} {t t' : TT} (h : PT X e t) (i : ∀ σ H Q, t' σ H Q → t σ H Q) : PT X e t' := ⟨fun pins s σ H Q I ht => h.run pins s σ H Q I (i _ _ _ ht)⟩
theorem pwL {e : Expr} {t t' : TT} (h : PW X e t) (i : ∀ σ H Q, t' σ H Q → t σ H Q) : PW X e t' := ⟨fun wh pins s σ H Q I ht => h.run wh pins s σ H Q I (i _ _ _ ht)⟩
theorem paL {e : List Expr} {t t' : TA} (h : PA X e t) (i : ∀ σ H Q, t' σ H Q → t σ H Q) : PA X e t' := ⟨fun p pins s σ H Q I ht => h.run p pins s σ H Q I (i _ _ _ ht)⟩
theorem psL {e : Stmt} {t t' : TS} (h : PS X e t) (i : ∀ D σ H, t' D σ H → t D σ H) : PS X e t' := ⟨fun pins s σ H Q I ht => h.run pins s σ H Q I (i _ _ _ ht)⟩
theorem pssL {e : List Stmt} {t t' : TS} (h : PSs X e t) (i : ∀ D σ H, t' D σ H → t D σ H) : PSs X e t' := ⟨fun pins s σ H Q I ht => h.run pins s σ H Q I (i _ _ _ ht)⟩

/-! ### names, constants -/
def dVar (i : Nat) : TDE := fun sd m P => ∃ d, sd[i]? = some (some d) ∧ P d m
def dC (d : D) : TDE := fun _ m P => P d m
theorem l_var {K : PySem.W.Frag} {i : Nat} {σ : St} {H : Hp} {Q : VK} (h : lE K H0 (dVar i) σ H Q) : tVar i σ H Q := by
  obtain ⟨sd, m, P, a, ⟨d, e, p⟩, q⟩ := h
  obtain ⟨v, e1, r⟩ := a.s.get i d e
  exact ⟨v, e1, q d m v H (Keep.refl _) a.m r p⟩
theorem qv (i : Nat) {x : Str} {pos : Pos} (hN : X.N[i]? = some x := by rfl) (hv : Vis X.env.scope x := by first | exact Or.inl rfl | exact Or.inr (Or.inl rfl) | exact Or.inr (Or.inr rfl)) (hd : (x == ("__debug__" : Str)) = false := by decide)
    (hcd : (x == ("__classdict__" : Str)) = false := by decide) : PE X (.Name x pos) (lE X.K H0 (dVar i)) := peL (pv i hN hv hd hcd) fun _ _ _ => l_var
theorem l_c {K : PySem.W.Frag} {d : D} {v : V} {σ : St} {H : Hp} {Q : VK} (r : ∀ H, RD K H d v) (h : lE K H0 (dC d) σ H Q) : tC v σ H Q := by
  obtain ⟨sd, m, P, a, p, q⟩ := h
  exact q d m v H (Keep.refl _) a.m (r H) p
theorem qe_int {i : Int} {j pos} : PE X (.Constant (.int i) j pos) (lE X.K H0 (dC (.int i))) := peL pe_int fun _ _ _ => l_c fun _ => .int i
theorem qe_bl {i : Bool} {j pos} : PE X (.Constant (.bool i) j pos) (lE X.K H0 (dC (.bl i))) := peL pe_bl fun _ _ _ => l_c fun _ => .bl i
theorem qe_str {i : Str} {j pos} : PE X (.Constant (.str i) j pos) (lE X.K H0 (dC (.str i))) := peL pe_str fun _ _ _ => l_c fun _ => .str i
theorem qe_non {j pos} : PE X (.Constant .none j pos) (lE X.K H0 (dC .non)) := peL pe_non fun _ _ _ => l_c fun _ => .non
/-- a module's constant -/
theorem qe_glob {x : Str} {v : V} {d : D} {u : Value} {pos : Pos} (hg : Gl X x) (hm : X.mg x = some u) (r : RelV v u) (rd : ∀ H, RD X.K H d v) (hd : (x == ("__debug__" : Str)) = false := by decide) : PE X (.Name x pos) (lE X.K H0 (dC d)) :=
  peL (pe_glob hg hm r hd) fun _ _ _ => l_c rd
theorem qe_bltn {x : Str} {v : V} {d : D} {u : Value} {pos : Pos} (hg : Gl X x) (hm : X.mg x = none) (hv : bootBuiltins x = some u) (r : RelV v u) (rd : ∀ H, RD X.K H d v) (hn : x ≠ "__name__" := by decide) (hd : (x == ("__debug__" : Str)) = false := by decide) : PE X (.Name x pos) (lE X.K H0 (dC d)) :=
  peL (pe_bltn hg hm hv r hn hd) fun _ _ _ => l_c rd

/-! ### operators by values -/
abbrev R2D := D → D → M → DK → Prop
abbrev R1D := D → M → DK → Prop
abbrev RnD := List D → M → DK → Prop
def Wants (K : PySem.W.Frag) (H : Hp) (P : DK) (Q : VK) : Prop := ∀ d m' w H', Keep K H H' → RM K H' m' → RD K H' d w → P d m' → Q w H'
theorem Wants.mono {K : PySem.W.Frag} {H H' : Hp} {P : DK} {Q : VK} (h : Wants K H P Q) (k : Keep K H H') : Wants K H' P Q := fun d m' w H2 k2 => h d m' w H2 (k.trans k2)
def Lift2 (K : PySem.W.Frag) (r' : R2D) (r : R2) : Prop := ∀ H m x y u v P Q, RM K H m → RD K H x u → RD K H y v → r' x y m P → Wants K H P Q → r u v H Q
def Lift1 (K : PySem.W.Frag) (r' : R1D) (r : V → Hp → VK → Prop) : Prop := ∀ H m x u P Q, RM K H m → RD K H x u → r' x m P → Wants K H P Q → r u H Q
def LiftN (K : PySem.W.Frag) (r' : RnD) (r : List V → Hp → VK → Prop) : Prop := ∀ H m xs us P Q, RM K H m → RDs K H xs us → r' xs m P → Wants K H P Q → r us H Q
def dOp (r : R2D) (ta tb : TDE) : TDE := fun sd m P => ta sd m fun x m1 => tb sd m1 fun y m2 => r x y m2 P
def dUn (r : R1D) (ta : TDE) : TDE := fun sd m P => ta sd m fun x m1 => r x m1 P
theorem l_op {K : PySem.W.Frag} {r' : R2D} {r : R2} {ta tb : TDE} {σ : St} {H : Hp} {Q : VK} (l : Lift2 K r' r) (h : lE K H0 (dOp r' ta tb) σ H Q) : tOp r (lE K H0 ta) (lE K H0 tb) σ H Q := by
  obtain ⟨sd, m, P, a, p, q⟩ := h
  refine ⟨sd, m, _, a, p, fun x m1 u H1 k1 r1 d1 p1 => ?_⟩
  refine ⟨sd, m1, _, a.to k1 r1, p1, fun y m2 v H2 k2 r2 d2 p2 => ?_⟩
  exact l H2 m2 x y u v P Q r2 (d1.mono k2) d2 p2 fun d m' w H' k => q d m' w H' ((k1.trans k2).trans k)
theorem l_un {K : PySem.W.Frag} {r' : R1D} {r : V → Hp → VK → Prop} {ta : TDE} {σ : St} {H : Hp} {Q : VK} (l : Lift1 K r' r) (h : lE K H0 (dUn r' ta) σ H Q) : tUn r (lE K H0 ta) σ H Q := by
  obtain ⟨sd, m, P, a, p, q⟩ := h
  refine ⟨sd, m, _, a, p, fun x m1 u H1 k1 r1 d1 p1 => ?_⟩
  exact l H1 m1 x u P Q r1 d1 p1 fun d m' w H' k => q d m' w H' (k1.trans k)
structure OpD (X : Cx) (f : Value → Value → Sem Value) (r' : R2D) : Prop where
  ex : ∃ r, OpR X f r ∧ Lift2 X.K r' r
theorem qe_op {a b : Expr} {op : Operator} {pos : Pos} {r' : R2D} {ta tb : TDE} (o : OpD X (binaryOp op) r') (ha : PE X a (lE X.K H0 ta)) (hb : PE X b (lE X.K H0 tb)) : PE X (.BinOp a op b pos) (lE X.K H0 (dOp r' ta tb)) := by
  obtain ⟨r, h1, h2⟩ := o.ex
  exact peL (pe_op h1 ha hb) fun _ _ _ => l_op h2
theorem qe_cmp {a b : Expr} {op : CmpOp} {pos : Pos} {r' : R2D} {ta tb : TDE} (o : OpD X (compareOp op) r') (ha : PE X a (lE X.K H0 ta)) (hb : PE X b (lE X.K H0 tb)) (hm : behindInMarks op b = false) : PE X (.Compare a [op] [b] pos) (lE X.K H0 (dOp r' ta tb)) := by
  obtain ⟨r, h1, h2⟩ := o.ex
  exact peL (pe_cmpR h1 ha hb hm) fun _ _ _ => l_op h2
theorem OpD.or {f : Value → Value → Sem Value} {r r' : R2D} (h : OpD X f r) (h' : OpD X f r') : OpD X f (fun x y m P => r x y m P ∨ r' x y m P) := by
  obtain ⟨r1, h1, h2⟩ := h.ex
  obtain ⟨r3, h3, h4⟩ := h'.ex
  refine ⟨fun x y H Q => r1 x y H Q ∨ r3 x y H Q, ?_, ?_⟩
  · intro pins s σ H x y v u Q I rx ry q
    rcases q with q | q
    · exact h1 pins s σ H x y v u Q I rx ry q
    · exact h3 pins s σ H x y v u Q I rx ry q
  · intro H m x y u v P Q a b c d e
    exact d.imp (fun d => h2 H m x y u v P Q a b c d e) fun d => h4 H m x y u v P Q a b c d e
theorem OpD.imp {f : Value → Value → Sem Value} {r r' : R2D} (h : OpD X f r) (i : ∀ x y m P, r' x y m P → r x y m P) : OpD X f r' := by
  obtain ⟨r1, h1, h2⟩ := h.ex
  exact ⟨r1, h1, fun H m x y u v P Q a b c d e => h2 H m x y u v P Q a b c (i _ _ _ _ d) e⟩
end
end Q4

set_option Elab.async false
set_option linter.all false
set_option maxRecDepth 100000
namespace Q4
open PySem L2
section
variable {K : PySem.W.Frag} {H : Hp}
theorem RD.int_ {i : Int} {u : V} (h : RD K H (.int i) u) : u = .int i := by cases h; rfl
theorem RD.str_ {i : Str} {u : V} (h : RD K H (.str i) u) : u = .str i := by cases h; rfl
theorem RD.bl_ {i : Bool} {u : V} (h : RD K H (.bl i) u) : u = .bl i := by cases h; rfl
theorem RD.non_ {u : V} (h : RD K H .non u) : u = .non := by cases h; rfl
theorem RD.ref_ {a : Addr} {u : V} (h : RD K H (.ref a) u) : u = .ref a := by cases h; rfl
theorem RD.ty_ {n : String} {u : V} (h : RD K H (.ty n) u) : u = .ty n := by cases h; rfl
theorem RD.tup_ {xs : List D} {u : V} (h : RD K H (.tup xs) u) : ∃ a vs, u = .ref a ∧ SqT K H a vs ∧ RDs K H xs vs := by cases h; exact ⟨_, _, rfl, by assumption, by assumption⟩
theorem RD.rol_ {xs : List D} {u : V} (h : RD K H (.rol xs) u) : ∃ a vs, u = .ref a ∧ FrzL K H a vs ∧ RDs K H xs vs := by cases h; exact ⟨_, _, rfl, by assumption, by assumption⟩
theorem RD.btp_ {xs : List D} {u : V} (h : RD K H (.btp xs) u) : ∃ a vs, u = .ref a ∧ FrzB H a vs ∧ RDs K H xs vs := by cases h; exact ⟨_, _, rfl, by assumption, by assumption⟩
theorem RDs.one_ {x : D} {us : List V} (h : RDs K H [x] us) : ∃ u, us = [u] ∧ RD K H x u := by
  cases h with | cons a b => cases b; exact ⟨_, rfl, a⟩
theorem RDs.two_ {x y : D} {us : List V} (h : RDs K H [x, y] us) : ∃ u v, us = [u, v] ∧ RD K H x u ∧ RD K H y v := by
  cases h with | cons a b => cases b with | cons c d => cases d; exact ⟨_, _, rfl, a, c⟩
theorem RDs.three_ {x y z : D} {us : List V} (h : RDs K H [x, y, z] us) : ∃ u v w, us = [u, v, w] ∧ RD K H x u ∧ RD K H y v ∧ RD K H z w := by
  cases h with | cons a b => cases b with | cons c d => cases d with | cons e f => cases f; exact ⟨_, _, _, rfl, a, c, e⟩
theorem RDs.nil_ {us : List V} (h : RDs K H [] us) : us = [] := by cases h; rfl
end
/-- ints in, one scalar out -/
def rI2 (C : Int → Int → Prop) (g : Int → Int → D) : R2D := fun x y m P => match x, y with
  | .int i, .int j => C i j ∧ P (g i j) m
  | _, _ => False
section
variable {X : Cx} {f : Value → Value → Sem Value}
theorem opd_I {C : Int → Int → Prop} {g : Int → Int → V} {gd : Int → Int → D} (h : OpR X f (rI C g)) (r : ∀ H i j, RD X.K H (gd i j) (g i j)) : OpD X f (rI2 C gd) := by
  refine ⟨_, h, fun H m x y u v P Q rm rx ry p q => ?_⟩
  unfold rI2 at p
  split at p
  · obtain ⟨c, p⟩ := p
    cases rx.int_
    cases ry.int_
    exact ⟨_, _, rfl, rfl, c, q _ m _ H (Keep.refl _) rm (r H _ _) p⟩
  · exact p.elim
theorem opd_I0 {g : Int → Int → V} {gd : Int → Int → D} (h : OpR X f (rI0 g)) (r : ∀ H i j, RD X.K H (gd i j) (g i j)) : OpD X f (rI2 (fun _ _ => True) gd) := by
  refine ⟨_, h, fun H m x y u v P Q rm rx ry p q => ?_⟩
  unfold rI2 at p
  split at p
  · obtain ⟨c, p⟩ := p
    cases rx.int_
    cases ry.int_
    exact ⟨_, _, rfl, rfl, q _ m _ H (Keep.refl _) rm (r H _ _) p⟩
  · exact p.elim
/-! ### + -/
def rAdd : R2D := fun x y m P => match x, y with
  | .int i, .int j => P (.int (i + j)) m
  | .str a, .str b => a.length + b.length ≤ sizeLine ∧ P (.str (a ++ b)) m
  | .tup xs, .tup ys => xs.length + ys.length ≤ sizeLine ∧ P (.tup (xs ++ ys)) m
  | .ref a, .ref b => ∃ xs ys, m a = some (.lst xs) ∧ m b = some (.lst ys) ∧ xs.length + ys.length ≤ sizeLine ∧ ∀ p, m p = none → P (.ref p) (put m p (.lst (xs ++ ys)))
  | _, _ => False
theorem od_add : OpD X (binaryOp .Add) rAdd := by
  have h1 : OpD X (binaryOp .Add) (rI2 (fun _ _ => True) fun i j => .int (i + j)) := opd_I0 op_add fun _ _ _ => .int _
  have h2 : OpD X (binaryOp .Add) (fun x y m P => ∃ a b, x = .str a ∧ y = .str b ∧ a.length + b.length ≤ sizeLine ∧ P (.str (a ++ b)) m) := by
    refine ⟨_, op_add_str, fun H m x y u v P Q rm rx ry p q => ?_⟩
    obtain ⟨a, b, rfl, rfl, z, p⟩ := p
    cases rx.str_
    cases ry.str_
    exact ⟨_, _, rfl, rfl, z, q _ m _ H (Keep.refl _) rm (.str _) p⟩
  have h3 : OpD X (binaryOp .Add) (fun x y m P => ∃ xs ys, x = .tup xs ∧ y = .tup ys ∧ xs.length + ys.length ≤ sizeLine ∧ P (.tup (xs ++ ys)) m) := by
    refine ⟨_, op_catA, fun H m x y u v P Q rm rx ry p q => ?_⟩
    obtain ⟨xs, ys, rfl, rfl, z, p⟩ := p
    obtain ⟨a, vs, rfl, ha, r1⟩ := rx.tup_
    obtain ⟨b, us, rfl, hb, r2⟩ := ry.tup_
    refine ⟨a, b, vs, us, rfl, rfl, ha, hb, by rw [← r1.length, ← r2.length]; exact z, fun e => ?_, fun e e2 => ?_, fun e e2 p' hp => ?_⟩
    · subst e
      have : xs = [] := List.length_eq_zero_iff.mp r1.length
      subst this
      exact q _ m _ H (Keep.refl _) rm (.tup hb r2) p
    · subst e2
      have : ys = [] := List.length_eq_zero_iff.mp r2.length
      subst this
      exact q _ m _ H (Keep.refl _) rm (.tup ha (by simpa using r1)) p
    · exact q _ m _ _ (Keep.new hp) (rm.new hp) (.tup (.inl (.inl upd_same)) ((r1.append r2).mono (Keep.new hp))) p
  have h4 : OpD X (binaryOp .Add) (fun x y m P => ∃ a b xs ys, x = .ref a ∧ y = .ref b ∧ m a = some (.lst xs) ∧ m b = some (.lst ys) ∧ xs.length + ys.length ≤ sizeLine ∧ ∀ p, m p = none → P (.ref p) (put m p (.lst (xs ++ ys)))) := by
    refine ⟨_, op_cat, fun H m x y u v P Q rm rx ry p q => ?_⟩
    obtain ⟨a, b, xs, ys, rfl, rfl, ha, hb, z, p⟩ := p
    cases rx.ref_
    cases ry.ref_
    obtain ⟨vs, e1, r1⟩ := rm a _ ha
    obtain ⟨us, e2, r2⟩ := rm b _ hb
    refine ⟨a, b, vs, us, rfl, rfl, e1, e2, by rw [← r1.length, ← r2.length]; exact z, fun p' hp => ?_⟩
    exact q _ _ _ _ (Keep.new hp) (rm.newPut hp (r1.append r2)) (.ref p') (p p' (rm.free hp))
  refine (h1.or (h2.or (h3.or h4))).imp fun x y m P p => ?_
  unfold rAdd at p
  split at p
  · exact .inl ⟨trivial, p⟩
  · exact .inr (.inl ⟨_, _, rfl, rfl, p⟩)
  · exact .inr (.inr (.inl ⟨_, _, rfl, rfl, p⟩))
  · obtain ⟨xs, ys, p⟩ := p
    exact .inr (.inr (.inr ⟨_, _, xs, ys, rfl, rfl, p⟩))
  · exact p.elim
/-! ### other arithmetic -/
abbrev rSub : R2D := rI2 (fun _ _ => True) fun i j => .int (i - j)
theorem od_sub : OpD X (binaryOp .Sub) rSub := opd_I0 op_sub fun _ _ _ => .int _
abbrev rFdiv : R2D := rI2 CDivW fun i j => .int (i / j)
theorem od_fdiv : OpD X (binaryOp .FloorDiv) rFdiv := opd_I op_fdivW fun _ _ _ => .int _
abbrev rMod : R2D := rI2 (fun _ j => 0 < j) fun i j => .int (i % j)
theorem od_mod : OpD X (binaryOp .Mod) rMod := opd_I op_mod fun _ _ _ => .int _
abbrev rPow : R2D := rI2 CPow fun i j => .int (i ^ j.toNat)
theorem od_pow : OpD X (binaryOp .Pow) rPow := opd_I op_pow fun _ _ _ => .int _
def rMul : R2D := fun x y m P => match x, y with
  | .int i, .int j => CMul i j ∧ P (.int (i * j)) m
  | .ref a, .int k => ∃ xs, m a = some (.lst xs) ∧ -(2 ^ 63) ≤ k ∧ k < 2 ^ 63 ∧ xs.length * k.toNat ≤ sizeLine ∧ ∀ p, m p = none → P (.ref p) (put m p (.lst (List.replicate k.toNat xs).flatten))
  | _, _ => False
theorem RDs.flat {K : PySem.W.Frag} {H : Hp} {xs : List D} {vs : List V} (r : RDs K H xs vs) : ∀ n : Nat, RDs K H (List.replicate n xs).flatten (List.replicate n vs).flatten
  | 0 => .nil
  | n + 1 => by
    rw [List.replicate_succ, List.replicate_succ, List.flatten_cons, List.flatten_cons]
    exact r.append (r.flat n)
theorem od_mul : OpD X (binaryOp .Mult) rMul := by
  have h1 : OpD X (binaryOp .Mult) (rI2 CMul fun i j => .int (i * j)) := opd_I op_mul fun _ _ _ => .int _
  have h2 : OpD X (binaryOp .Mult) (fun x y m P => ∃ a k xs, x = .ref a ∧ y = .int k ∧ m a = some (.lst xs) ∧ -(2 ^ 63) ≤ k ∧ k < 2 ^ 63 ∧ xs.length * k.toNat ≤ sizeLine ∧ ∀ p, m p = none → P (.ref p) (put m p (.lst (List.replicate k.toNat xs).flatten))) := by
    refine ⟨_, op_rep, fun H m x y u v P Q rm rx ry p q => ?_⟩
    obtain ⟨a, k, xs, rfl, rfl, ha, h1, h2, z, p⟩ := p
    cases rx.ref_
    cases ry.int_
    obtain ⟨vs, e1, r1⟩ := rm a _ ha
    refine ⟨a, k, vs, rfl, rfl, e1, h1, h2, by rw [← r1.length]; exact z, fun p' hp => ?_⟩
    exact q _ _ _ _ (Keep.new hp) (rm.newPut hp (r1.flat _)) (.ref p') (p p' (rm.free hp))
  refine (h1.or h2).imp fun x y m P p => ?_
  unfold rMul at p
  split at p
  · exact .inl p
  · obtain ⟨xs, p⟩ := p
    exact .inr ⟨_, _, xs, rfl, rfl, p⟩
  · exact p.elim
/-! ### order -/
def rLtD : R2D := rI2 (fun _ _ => True) fun i j => .bl (decide (i < j))
def rLeD : R2D := rI2 (fun _ _ => True) fun i j => .bl (decide (i ≤ j))
def rGtD : R2D := rI2 (fun _ _ => True) fun i j => .bl (decide (j < i))
def rGeD : R2D := rI2 (fun _ _ => True) fun i j => .bl (decide (j ≤ i))
theorem od_lt : OpD X (compareOp .Lt) rLtD := opd_I0 op_lt fun _ _ _ => .bl _
theorem od_le : OpD X (compareOp .LtE) rLeD := opd_I0 op_le fun _ _ _ => .bl _
theorem od_gt : OpD X (compareOp .Gt) rGtD := opd_I0 op_gt fun _ _ _ => .bl _
theorem od_ge : OpD X (compareOp .GtE) rGeD := opd_I0 op_ge fun _ _ _ => .bl _
end
/-! ### == -/
mutual
def D.py : D → PyData
  | .non => .none
  | .bl b => .bool b
  | .int i => .int i
  | .str x => .str x
  | .tup xs => .tuple (D.pys xs)
  | .rol _ => .dict []
  | .btp xs => .tuple (D.pys xs)
  | .ref _ => .dict []
  | .ty _ => .dict []
def D.pys : List D → List PyData
  | [] => []
  | x :: xs => x.py :: D.pys xs
end
mutual
theorem dp_of {K : PySem.W.Frag} {H : Hp} : ∀ {d : D} {v : V}, RD K H d v → d.py.canLay0 = true → Dp K H v d.py
  | _, _, .non, _ => .non
  | _, _, .bl b, _ => .bl b
  | _, _, .int b, _ => .int b
  | _, _, .str b, _ => .str b
  | _, _, .ref b, h => by simp [D.py, PyData.canLay0] at h
  | _, _, .ty b, h => by simp [D.py, PyData.canLay0] at h
  | _, _, .rol _ _, h => by simp [D.py, PyData.canLay0] at h
  | _, _, .btp (ds := ds) hs r, h => .tup hs.sq (dps_of r (by simpa [D.py, PyData.canLay0] using h))
  | _, _, .tup (ds := ds) hs r, h => .tup hs (dps_of r (by simpa [D.py, PyData.canLay0] using h))
theorem dps_of {K : PySem.W.Frag} {H : Hp} : ∀ {d : List D} {v : List V}, RDs K H d v → PyData.canLayAll0 (D.pys d) = true → DpAll K H v (D.pys d)
  | _, _, .nil, _ => .nil
  | _, _, .cons (d := d) (ds := ds) h r, z => by
    have z' : d.py.canLay0 = true ∧ PyData.canLayAll0 (D.pys ds) = true := by simpa [D.pys, PyData.canLayAll0] using z
    exact .cons (dp_of h z'.1) (dps_of r z'.2)
end
def okD (d : D) : Prop := SeqAt.shaped d.py = true
def eqD (x y : D) : Bool := PyData.eqv x.py y.py
def rEqD : R2D := fun x y m P => match x, y with
  | .int i, .int j => P (.bl (decide (i = j))) m
  | .str i, .str j => P (.bl (decide (i = j))) m
  | .bl i, .bl j => P (.bl (decide (i = j))) m
  | .int _, .str _ => P (.bl false) m
  | .str _, .int _ => P (.bl false) m
  | x, y => okD x ∧ okD y ∧ P (.bl (eqD x y)) m
def rNeD : R2D := fun x y m P => match x, y with
  | .int i, .int j => P (.bl (!decide (i = j))) m
  | .str i, .str j => P (.bl (!decide (i = j))) m
  | .bl i, .bl j => P (.bl (!decide (i = j))) m
  | .int _, .str _ => P (.bl true) m
  | .str _, .int _ => P (.bl true) m
  | x, y => okD x ∧ okD y ∧ P (.bl (!eqD x y)) m
section
variable {X : Cx}
theorem od_eq (hu : X.A.units + 64 < cLine) : OpD X (compareOp .Eq) rEqD := by
  have h1 : OpD X (compareOp .Eq) (fun x y m P => ∃ u v, (∀ H, RD X.K H x u → True) ∧ (∀ H w, RD X.K H x w → w = u) ∧ (∀ H w, RD X.K H y w → w = v) ∧ scal u v = true ∧ P (.bl (decide (u = v))) m) := by
    refine ⟨_, op_eq, fun H m x y u v P Q rm rx ry p q => ?_⟩
    obtain ⟨u', v', _, e1, e2, s, p⟩ := p
    cases e1 _ _ rx
    cases e2 _ _ ry
    exact ⟨s, q _ m _ H (Keep.refl _) rm (.bl _) p⟩
  have h2 : OpD X (compareOp .Eq) (fun x y m P => okD x ∧ okD y ∧ P (.bl (eqD x y)) m) := by
    refine ⟨_, op_eqD hu, fun H m x y u v P Q rm rx ry p q => ?_⟩
    obtain ⟨o1, o2, p⟩ := p
    exact ⟨_, _, dp_of rx (SeqAt.canLay_of_shaped o1), dp_of ry (SeqAt.canLay_of_shaped o2), o1, o2, q _ m _ H (Keep.refl _) rm (.bl _) p⟩
  refine (h1.or h2).imp fun x y m P p => ?_
  unfold rEqD at p
  split at p
  · exact .inl ⟨_, _, fun _ _ => trivial, fun _ _ r => r.int_, fun _ _ r => r.int_, rfl, by rw [dec_int, ← Bool.beq_eq_decide_eq] at *; simpa [Bool.beq_eq_decide_eq] using p⟩
  · exact .inl ⟨_, _, fun _ _ => trivial, fun _ _ r => r.str_, fun _ _ r => r.str_, rfl, by simpa using p⟩
  · exact .inl ⟨_, _, fun _ _ => trivial, fun _ _ r => r.bl_, fun _ _ r => r.bl_, rfl, by simpa using p⟩
  · exact .inl ⟨_, _, fun _ _ => trivial, fun _ _ r => r.int_, fun _ _ r => r.str_, rfl, by simpa using p⟩
  · exact .inl ⟨_, _, fun _ _ => trivial, fun _ _ r => r.str_, fun _ _ r => r.int_, rfl, by simpa using p⟩
  · exact .inr p
theorem od_ne (hu : X.A.units + 64 < cLine) : OpD X (compareOp .NotEq) rNeD := by
  have h1 : OpD X (compareOp .NotEq) (fun x y m P => ∃ u v, (∀ H w, RD X.K H x w → w = u) ∧ (∀ H w, RD X.K H y w → w = v) ∧ scal u v = true ∧ P (.bl (!decide (u = v))) m) := by
    refine ⟨_, op_ne, fun H m x y u v P Q rm rx ry p q => ?_⟩
    obtain ⟨u', v', e1, e2, s, p⟩ := p
    cases e1 _ _ rx
    cases e2 _ _ ry
    exact ⟨s, q _ m _ H (Keep.refl _) rm (.bl _) p⟩
  have h2 : OpD X (compareOp .NotEq) (fun x y m P => okD x ∧ okD y ∧ P (.bl (!eqD x y)) m) := by
    refine ⟨_, op_neD hu, fun H m x y u v P Q rm rx ry p q => ?_⟩
    obtain ⟨o1, o2, p⟩ := p
    exact ⟨_, _, dp_of rx (SeqAt.canLay_of_shaped o1), dp_of ry (SeqAt.canLay_of_shaped o2), o1, o2, q _ m _ H (Keep.refl _) rm (.bl _) p⟩
  refine (h1.or h2).imp fun x y m P p => ?_
  unfold rNeD at p
  split at p
  · exact .inl ⟨_, _, fun _ _ r => r.int_, fun _ _ r => r.int_, rfl, by simpa using p⟩
  · exact .inl ⟨_, _, fun _ _ r => r.str_, fun _ _ r => r.str_, rfl, by simpa using p⟩
  · exact .inl ⟨_, _, fun _ _ r => r.bl_, fun _ _ r => r.bl_, rfl, by simpa using p⟩
  · exact .inl ⟨_, _, fun _ _ r => r.int_, fun _ _ r => r.str_, rfl, by simpa using p⟩
  · exact .inl ⟨_, _, fun _ _ r => r.str_, fun _ _ r => r.int_, rfl, by simpa using p⟩
  · exact .inr p
end
end Q4

set_option Elab.async false
set_option linter.all false
set_option maxRecDepth 100000
namespace Q4
open PySem L2
section
variable {X : Cx} {H0 : Hp}
/-! ### tests -/
def dB (t : TDE) : TDT := fun sd m P => t sd m fun x m1 => match x with | .bl b => P b m1 | _ => False
def dAnd (t u : TDT) : TDT := fun sd m P => t sd m fun c m1 => if c = true then u sd m1 P else P false m1
def dOr (t u : TDT) : TDT := fun sd m P => t sd m fun c m1 => if c = true then P true m1 else u sd m1 P
def dNot (t : TDT) : TDT := fun sd m P => t sd m fun c m1 => P (!c) m1
section
variable {K : PySem.W.Frag} {σ : St} {H : Hp}
theorem l_B {t : TDE} {Q : Bool → Hp → Prop} (h : lT K H0 (dB t) σ H Q) : tB (lE K H0 t) σ H Q := by
  obtain ⟨sd, m, P, a, p, q⟩ := h
  refine ⟨sd, m, _, a, p, fun d m' v H' k r rd p' => ?_⟩
  cases d with
  | bl b => cases rd.bl_; exact ⟨b, rfl, q b m' H' k r p'⟩
  | _ => exact p'.elim
theorem l_and {t u : TDT} {Q : Bool → Hp → Prop} (h : lT K H0 (dAnd t u) σ H Q) : tAnd (lT K H0 t) (lT K H0 u) σ H Q := by
  obtain ⟨sd, m, P, a, p, q⟩ := h
  refine ⟨sd, m, _, a, p, fun b m' H' k r p' => ?_⟩
  cases b with
  | true => exact ⟨sd, m', P, a.to k r, p', fun b m2 H2 k2 => q b m2 H2 (k.trans k2)⟩
  | false => exact q _ m' H' k r p'
theorem l_or {t u : TDT} {Q : Bool → Hp → Prop} (h : lT K H0 (dOr t u) σ H Q) : tOr (lT K H0 t) (lT K H0 u) σ H Q := by
  obtain ⟨sd, m, P, a, p, q⟩ := h
  refine ⟨sd, m, _, a, p, fun b m' H' k r p' => ?_⟩
  cases b with
  | true => exact q _ m' H' k r p'
  | false => exact ⟨sd, m', P, a.to k r, p', fun b m2 H2 k2 => q b m2 H2 (k.trans k2)⟩
theorem l_not {t : TDT} {Q : Bool → Hp → Prop} (h : lT K H0 (dNot t) σ H Q) : tNot (lT K H0 t) σ H Q := by
  obtain ⟨sd, m, P, a, p, q⟩ := h
  exact ⟨sd, m, _, a, p, fun b m' H' k r p' => q _ m' H' k r p'⟩
end
theorem qt_val {e : Expr} {t : TDE} (h : PE X e (lE X.K H0 t)) (he : ∀ whole, isTrue e X.env whole = (do let v ← whole; standAt e.pos; holding [v] (truthy v)) := by intro _; rfl) : PT X e (lT X.K H0 (dB t)) := ptL (pt_val h he) fun _ _ _ => l_B
theorem l_tst {K : PySem.W.Frag} {σ : St} {H : Hp} {r' : R2D} {r : R2} {ta tb : TDE} {Q : Bool → Hp → Prop} (l : Lift2 K r' r) (h : lT K H0 (dB (dOp r' ta tb)) σ H Q) : tTest (tOp r (lE K H0 ta) (lE K H0 tb)) σ H Q := by
  refine l_op (K := K) (H0 := H0) l ?_
  obtain ⟨sd, m, P, a, p, q⟩ := h
  refine ⟨sd, m, _, a, p, fun d m' v H' k r rd p' => ?_⟩
  cases d with
  | bl b => cases rd.bl_; exact ⟨b, rfl, q b m' H' k r p'⟩
  | _ => exact p'.elim
theorem qt_cmp {a b : Expr} {op : CmpOp} {pos : Pos} {r' : R2D} {ta tb : TDE} (o : OpD X (compareOp op) r') (ha : PE X a (lE X.K H0 ta)) (hb : PE X b (lE X.K H0 tb)) (hm : behindInMarks op b = false) : PT X (.Compare a [op] [b] pos) (lT X.K H0 (dB (dOp r' ta tb))) := by
  obtain ⟨r, h1, h2⟩ := o.ex
  exact ptL (pt_cmpR h1 ha hb hm) fun _ _ _ => l_tst h2
theorem qw_and1 {a : Expr} {t : TDT} {pos : Pos} (h : PT X a (lT X.K H0 t)) : PW X (.BoolOp .And [a] pos) (lT X.K H0 t) := pw_and1 h
theorem qw_or1 {a : Expr} {t : TDT} {pos : Pos} (h : PT X a (lT X.K H0 t)) : PW X (.BoolOp .Or [a] pos) (lT X.K H0 t) := pw_or1 h
theorem qw_and {a b : Expr} {rest : List Expr} {t u : TDT} {pos : Pos} (ha : PT X a (lT X.K H0 t)) (hb : PW X (.BoolOp .And (b :: rest) pos) (lT X.K H0 u)) : PW X (.BoolOp .And (a :: b :: rest) pos) (lT X.K H0 (dAnd t u)) := pwL (pw_and ha hb) fun _ _ _ => l_and
theorem qw_or {a b : Expr} {rest : List Expr} {t u : TDT} {pos : Pos} (ha : PT X a (lT X.K H0 t)) (hb : PW X (.BoolOp .Or (b :: rest) pos) (lT X.K H0 u)) : PW X (.BoolOp .Or (a :: b :: rest) pos) (lT X.K H0 (dOr t u)) := pwL (pw_or ha hb) fun _ _ _ => l_or
theorem qt_not {a : Expr} {t : TDT} {pos : Pos} (ha : PT X a (lT X.K H0 t)) : PT X (.UnaryOp .Not a pos) (lT X.K H0 (dNot t)) := ptL (pt_not ha) fun _ _ _ => l_not
/-! ### and, or, not as values (bools) -/
def dAndV (ta tb : TDE) : TDE := fun sd m P => ta sd m fun x m1 => match x with | .bl c => if c = true then tb sd m1 P else P (.bl false) m1 | _ => False
def dOrV (ta tb : TDE) : TDE := fun sd m P => ta sd m fun x m1 => match x with | .bl c => if c = true then P (.bl true) m1 else tb sd m1 P | _ => False
def dNotV (ta : TDE) : TDE := fun sd m P => ta sd m fun x m1 => match x with | .bl c => P (.bl (!c)) m1 | _ => False
theorem qe_one {a : Expr} {op} {t : TDE} {pos : Pos} (h : PE X a (lE X.K H0 t)) : PE X (.BoolOp op [a] pos) (lE X.K H0 t) := pe_one h
theorem qe_and {a b : Expr} {rest : List Expr} {ta tb : TDE} {pos : Pos} (ha : PE X a (lE X.K H0 ta)) (hb : PE X (.BoolOp .And (b :: rest) pos) (lE X.K H0 tb)) : PE X (.BoolOp .And (a :: b :: rest) pos) (lE X.K H0 (dAndV ta tb)) := peL (pe_and ha hb) fun σ H Q h => by
  obtain ⟨sd, m, P, a, p, q⟩ := h
  refine ⟨sd, m, _, a, p, fun d m' v H' k r rd p' => ?_⟩
  cases d with
  | bl b =>
    cases rd.bl_
    refine ⟨b, rfl, ?_⟩
    cases b with
    | true => exact ⟨sd, m', P, a.to k r, p', fun b m2 v H2 k2 => q b m2 v H2 (k.trans k2)⟩
    | false => exact q _ m' _ H' k r (.bl _) p'
  | _ => exact p'.elim
theorem qe_or {a b : Expr} {rest : List Expr} {ta tb : TDE} {pos : Pos} (ha : PE X a (lE X.K H0 ta)) (hb : PE X (.BoolOp .Or (b :: rest) pos) (lE X.K H0 tb)) : PE X (.BoolOp .Or (a :: b :: rest) pos) (lE X.K H0 (dOrV ta tb)) := peL (pe_or ha hb) fun σ H Q h => by
  obtain ⟨sd, m, P, a, p, q⟩ := h
  refine ⟨sd, m, _, a, p, fun d m' v H' k r rd p' => ?_⟩
  cases d with
  | bl b =>
    cases rd.bl_
    refine ⟨b, rfl, ?_⟩
    cases b with
    | false => exact ⟨sd, m', P, a.to k r, p', fun b m2 v H2 k2 => q b m2 v H2 (k.trans k2)⟩
    | true => exact q _ m' _ H' k r (.bl _) p'
  | _ => exact p'.elim
theorem qe_not {a : Expr} {ta : TDE} {pos : Pos} (ha : PE X a (lE X.K H0 ta)) : PE X (.UnaryOp .Not a pos) (lE X.K H0 (dNotV ta)) := peL (pe_not ha) fun σ H Q h => by
  obtain ⟨sd, m, P, a, p, q⟩ := h
  refine ⟨sd, m, _, a, p, fun d m' v H' k r rd p' => ?_⟩
  cases d with
  | bl b => cases rd.bl_; exact ⟨b, rfl, q _ m' _ H' k r (.bl _) p'⟩
  | _ => exact p'.elim
def dIfE (t : TDT) (ta tb : TDE) : TDE := fun sd m P => t sd m fun c m1 => if c = true then ta sd m1 P else tb sd m1 P
theorem qe_if {c a b : Expr} {t : TDT} {ta tb : TDE} {pos : Pos} (hc : PT X c (lT X.K H0 t)) (ha : PE X a (lE X.K H0 ta)) (hb : PE X b (lE X.K H0 tb)) : PE X (.IfExp c a b pos) (lE X.K H0 (dIfE t ta tb)) := peL (pe_ifExp hc ha hb) fun σ H Q h => by
  obtain ⟨sd, m, P, a, p, q⟩ := h
  refine ⟨sd, m, _, a, p, fun b m' H' k r p' => ?_⟩
  cases b with
  | true => exact ⟨sd, m', P, a.to k r, p', fun b m2 v H2 k2 => q b m2 v H2 (k.trans k2)⟩
  | false => exact ⟨sd, m', P, a.to k r, p', fun b m2 v H2 k2 => q b m2 v H2 (k.trans k2)⟩
/-- a op b op' c -/
def dChain (r r' : R2D) (ta tb tc : TDE) : TDE := fun sd m P => ta sd m fun x m1 => tb sd m1 fun y m2 => r x y m2 fun z m3 => match z with
  | .bl k => if k = true then tc sd m3 fun w m4 => r' y w m4 P else P (.bl false) m3
  | _ => False
theorem l_chain {K : PySem.W.Frag} {r r' : R2D} {s s' : R2} {ta tb tc : TDE} {σ : St} {H : Hp} {Q : VK} (l : Lift2 K r s) (l' : Lift2 K r' s') (h : lE K H0 (dChain r r' ta tb tc) σ H Q) : tChain s s' (lE K H0 ta) (lE K H0 tb) (lE K H0 tc) σ H Q := by
  obtain ⟨sd, m, P, a, p, q⟩ := h
  refine ⟨sd, m, _, a, p, fun x m1 u H1 k1 r1 d1 p1 => ?_⟩
  refine ⟨sd, m1, _, a.to k1 r1, p1, fun y m2 v H2 k2 r2 d2 p2 => ?_⟩
  refine l H2 m2 x y u v _ _ r2 (d1.mono k2) d2 p2 fun d m3 w H3 k3 r3 d3 p3 => ?_
  cases d with
  | bl b =>
    cases d3.bl_
    refine ⟨b, rfl, ?_⟩
    cases b with
    | true =>
      refine ⟨sd, m3, _, a.to ((k1.trans k2).trans k3) r3, p3, fun z m4 w H4 k4 r4 d4 p4 => ?_⟩
      exact l' H4 m4 y z v w P Q r4 (d2.mono (k3.trans k4)) d4 p4 fun d m' w H' k => q d m' w H' ((((k1.trans k2).trans k3).trans k4).trans k)
    | false => exact q _ m3 _ H3 ((k1.trans k2).trans k3) r3 (.bl _) p3
  | _ => exact p3.elim
theorem qe_chain {a b c : Expr} {op op' : CmpOp} {r r' : R2D} {ta tb tc : TDE} {pos : Pos} (o : OpD X (compareOp op) r) (o' : OpD X (compareOp op') r') (ha : PE X a (lE X.K H0 ta)) (hb : PE X b (lE X.K H0 tb)) (hc : PE X c (lE X.K H0 tc))
    (hm : lastMarks [op, op'] [b, c] = false := by with_unfolding_all rfl) : PE X (.Compare a [op, op'] [b, c] pos) (lE X.K H0 (dChain r r' ta tb tc)) := by
  obtain ⟨s, h1, h2⟩ := o.ex
  obtain ⟨s', h1', h2'⟩ := o'.ex
  exact peL (pe_chain h1 h1' ha hb hc hm) fun _ _ _ => l_chain h2 h2'
theorem qt_chain {a b c : Expr} {op op' : CmpOp} {r r' : R2D} {ta tb tc : TDE} {pos : Pos} (o : OpD X (compareOp op) r) (o' : OpD X (compareOp op') r') (ha : PE X a (lE X.K H0 ta)) (hb : PE X b (lE X.K H0 tb)) (hc : PE X c (lE X.K H0 tc))
    (hm : lastMarks [op, op'] [b, c] = false := by with_unfolding_all rfl) : PT X (.Compare a [op, op'] [b, c] pos) (lT X.K H0 (dB (dChain r r' ta tb tc))) := by
  obtain ⟨s, h1, h2⟩ := o.ex
  obtain ⟨s', h1', h2'⟩ := o'.ex
  refine ptL (pt_chain h1 h1' ha hb hc hm) fun σ H Q h => ?_
  refine l_chain (K := X.K) (H0 := H0) h2 h2' ?_
  obtain ⟨sd, m, P, a, p, q⟩ := h
  refine ⟨sd, m, _, a, p, fun d m' v H' k r rd p' => ?_⟩
  cases d with
  | bl b => cases rd.bl_; exact ⟨b, rfl, q b m' H' k r p'⟩
  | _ => exact p'.elim
/-! ### truth of lists, tuples, texts, ints -/
def truD : D → M → (Bool → M → Prop) → Prop := fun x m P => match x with
  | .bl b => P b m
  | .int i => P (i != 0) m
  | .str y => y.length ≤ sizeLine ∧ P ((y.length : Int) != 0) m
  | .tup xs => P (!xs.isEmpty) m
  | .non => P false m
  | .rol xs => P (!xs.isEmpty) m
  | .ref a => ∃ xs, m a = some (.lst xs) ∧ P (!xs.isEmpty) m
  | _ => False
def dTru (t : TDE) : TDT := fun sd m P => t sd m fun x m1 => truD x m1 P
theorem RDs.isEmpty {K : PySem.W.Frag} {H : Hp} : ∀ {xs : List D} {vs : List V}, RDs K H xs vs → xs.isEmpty = vs.isEmpty
  | _, _, .nil => rfl
  | _, _, .cons _ _ => rfl
theorem qt_tru {a : Expr} {t : TDE} (ha : PE X a (lE X.K H0 t)) (he : ∀ whole, isTrue a X.env whole = (do let v ← whole; standAt a.pos; holding [v] (truthy v)) := by intro _; rfl) : PT X a (lT X.K H0 (dTru t)) := ptL (pt_truth ha he) fun σ H Q h => by
  obtain ⟨sd, m, P, a, p, q⟩ := h
  refine ⟨sd, m, _, a, p, fun d m' v H' k r rd p' => ?_⟩
  cases d with
  | bl b => cases rd.bl_; exact ⟨b, rfl, q b m' H' k r p'⟩
  | int b => cases rd.int_; exact ⟨_, rfl, q _ m' H' k r p'⟩
  | non => cases rd.non_; exact ⟨_, rfl, q _ m' H' k r p'⟩
  | str b => cases rd.str_; exact ⟨_, ⟨p'.1, rfl⟩, q _ m' H' k r p'.2⟩
  | tup xs =>
    obtain ⟨a, vs, rfl, h1, h2⟩ := rd.tup_
    exact ⟨_, .inr (.inl ⟨vs, h1, rfl⟩), q _ m' H' k r (by rw [← h2.isEmpty]; exact p')⟩
  | ref a =>
    cases rd.ref_
    obtain ⟨xs, h1, p'⟩ := p'
    obtain ⟨vs, e1, r1⟩ := r a _ h1
    exact ⟨_, .inl ⟨vs, .inl (.inl e1), rfl⟩, q _ m' H' k r (by rw [← r1.isEmpty]; exact p')⟩
  | rol xs =>
    obtain ⟨a, vs, rfl, h1, h2⟩ := rd.rol_
    exact ⟨_, .inl ⟨vs, h1.sq, rfl⟩, q _ m' H' k r (by rw [← h2.isEmpty]; exact p')⟩
  | btp n => exact p'.elim
  | ty n => exact p'.elim
/-! ### argument lists, displays -/
def dNil : TDA := fun _ m P => P [] m
def dCons (ta : TDE) (tr : TDA) : TDA := fun sd m P => ta sd m fun x m1 => tr sd m1 fun xs m2 => P (x :: xs) m2
theorem qa_nil : PA X [] (lA X.K H0 dNil) := paL pa_nil fun σ H Q h => by
  obtain ⟨sd, m, P, a, p, q⟩ := h
  exact q [] m [] H (Keep.refl _) a.m .nil p
theorem l_cons {K : PySem.W.Frag} {ta : TDE} {tr : TDA} {σ : St} {H : Hp} {Q : List V → Hp → Prop} (h : lA K H0 (dCons ta tr) σ H Q) : tCons (lE K H0 ta) (lA K H0 tr) σ H Q := by
  obtain ⟨sd, m, P, a, p, q⟩ := h
  refine ⟨sd, m, _, a, p, fun x m1 u H1 k1 r1 d1 p1 => ?_⟩
  exact ⟨sd, m1, _, a.to k1 r1, p1, fun xs m2 us H2 k2 r2 d2 p2 => q _ m2 _ H2 (k1.trans k2) r2 (.cons (d1.mono k2) d2) p2⟩
theorem qa_cons {e : Expr} {es : List Expr} {te : TDE} {t : TDA} (ha : PE X e (lE X.K H0 te)) (hr : PA X es (lA X.K H0 t)) (hs : starEach (e :: es) X.env = (false, eval e X.env) :: starEach es X.env := by rfl) : PA X (e :: es) (lA X.K H0 (dCons te t)) :=
  paL (pa_cons ha hr hs) fun _ _ _ => l_cons
def dTup (t : TDA) : TDE := fun sd m P => t sd m fun xs m1 => xs.length ≤ sizeLine ∧ P (.tup xs) m1
def dLst (t : TDA) : TDE := fun sd m P => t sd m fun xs m1 => xs.length ≤ sizeLine ∧ ∀ p, m1 p = none → P (.ref p) (put m1 p (.lst xs))
theorem qe_tup {es : List Expr} {x1} {pos : Pos} {t : TDA} (h : PA X es (lA X.K H0 t)) : PE X (.Tuple es x1 pos) (lE X.K H0 (dTup t)) := peL (pe_tup h) fun σ H Q h => by
  obtain ⟨sd, m, P, a, p, q⟩ := h
  refine ⟨sd, m, _, a, p, fun xs m1 us H1 k1 r1 d1 p1 => ⟨by rw [← d1.length]; exact p1.1, fun z hz => ?_⟩⟩
  exact q _ m1 _ _ (k1.trans (Keep.new hz)) (r1.new hz) (.tup (.inl (.inl upd_same)) (d1.mono (Keep.new hz))) p1.2
theorem qe_lst {es : List Expr} {pos : Pos} {t : TDA} (h : PA X es (lA X.K H0 t)) : PE X (.List es pos) (lE X.K H0 (dLst t)) := peL (pe_lst h) fun σ H Q h => by
  obtain ⟨sd, m, P, a, p, q⟩ := h
  refine ⟨sd, m, _, a, p, fun xs m1 us H1 k1 r1 d1 p1 => ⟨by rw [← d1.length]; exact p1.1, fun z hz => ?_⟩⟩
  exact q _ _ _ _ (k1.trans (Keep.new hz)) (r1.newPut hz d1) (.ref z) (p1.2 z (r1.free hz))
/-! ### subscripts -/
def rIxD : R2D := fun x y m P => match x, y with
  | .tup xs, .int i => ∃ d, atI xs i = some d ∧ P d m
  | .str z, .int i => z.length ≤ sizeLine ∧ ∃ c, atI z.cps.toList i = some c ∧ P (.str ⟨#[c]⟩) m
  | .rol xs, .int i => ∃ d, atI xs i = some d ∧ P d m
  | .ref a, .int i => ∃ xs d, m a = some (.lst xs) ∧ atI xs i = some d ∧ P d m
  | _, _ => False
theorem RDs.atI {K : PySem.W.Frag} {H : Hp} {xs : List D} {vs : List V} {i : Int} {d : D} (r : RDs K H xs vs) (h : L2.atI xs i = some d) : ∃ v, L2.atI vs i = some v ∧ RD K H d v := by
  unfold L2.atI at h ⊢
  rw [← r.length]
  cases e : ixN xs.length i with
  | none => rw [e] at h; cases h
  | some j => rw [e] at h; exact r.get (by simpa using h)
theorem lift_ix {K : PySem.W.Frag} : Lift2 K rIxD (rIx K) := fun H m x y u v P Q rm rx ry p q => by
  unfold rIxD at p
  split at p
  · obtain ⟨d, h, p⟩ := p
    obtain ⟨a, vs, rfl, h1, h2⟩ := rx.tup_
    cases ry.int_
    obtain ⟨w, e, rd⟩ := h2.atI h
    exact .inr (.inl ⟨a, vs, _, w, rfl, rfl, h1, e, q _ m _ H (Keep.refl _) rm rd p⟩)
  · obtain ⟨z, c, h, p⟩ := p
    cases rx.str_
    cases ry.int_
    exact .inr (.inr ⟨_, _, c, rfl, rfl, z, h, q _ m _ H (Keep.refl _) rm (.str _) p⟩)
  · obtain ⟨d, h, p⟩ := p
    obtain ⟨a, vs, rfl, h1, h2⟩ := rx.rol_
    cases ry.int_
    obtain ⟨w, e, rd⟩ := h2.atI h
    exact .inl ⟨a, vs, _, w, rfl, rfl, h1.sq, e, q _ m _ H (Keep.refl _) rm rd p⟩
  · obtain ⟨xs, d, h, e, p⟩ := p
    cases rx.ref_
    cases ry.int_
    obtain ⟨vs, e1, r1⟩ := rm _ _ h
    obtain ⟨w, e', rd⟩ := r1.atI e
    exact .inl ⟨_, vs, _, w, rfl, rfl, .inl (.inl e1), e', q _ m _ H (Keep.refl _) rm rd p⟩
  · exact p.elim
theorem qe_ix {a b : Expr} {ta tb : TDE} {pos : Pos} (ha : PE X a (lE X.K H0 ta)) (hb : PE X b (lE X.K H0 tb)) (hs : PlainIx b) : PE X (.Subscript a b pos) (lE X.K H0 (dOp rIxD ta tb)) := peL (pe_ix ix_seq ha hb hs) fun _ _ _ => l_op lift_ix
/-! ### built-ins by name -/
def dCB (r : RnD) (t : TDA) : TDE := fun sd m P => t sd m fun xs m1 => r xs m1 P
structure CallD (X : Cx) (f : Value) (r' : RnD) : Prop where
  ex : ∃ r, CallR X f r ∧ LiftN X.K r' r
theorem CallD.or {f : Value} {r r' : RnD} (h : CallD X f r) (h' : CallD X f r') : CallD X f (fun x m P => r x m P ∨ r' x m P) := by
  obtain ⟨r1, h1, h2⟩ := h.ex
  obtain ⟨r3, h3, h4⟩ := h'.ex
  refine ⟨fun x H Q => r1 x H Q ∨ r3 x H Q, ?_, ?_⟩
  · intro pins s σ H xs us Q I r q
    rcases q with q | q
    · exact h1 pins s σ H xs us Q I r q
    · exact h3 pins s σ H xs us Q I r q
  · intro H m x u P Q a b d e
    exact d.imp (fun d => h2 H m x u P Q a b d e) fun d => h4 H m x u P Q a b d e
theorem CallD.imp {f : Value} {r r' : RnD} (h : CallD X f r) (i : ∀ x m P, r' x m P → r x m P) : CallD X f r' := by
  obtain ⟨r1, h1, h2⟩ := h.ex
  exact ⟨r1, h1, fun H m x u P Q a b d e => h2 H m x u P Q a b (i _ _ _ d) e⟩
theorem l_cb {K : PySem.W.Frag} {r' : RnD} {r : List V → Hp → VK → Prop} {t : TDA} {σ : St} {H : Hp} {Q : VK} (l : LiftN K r' r) (h : lE K H0 (dCB r' t) σ H Q) : tCB r (lA K H0 t) σ H Q := by
  obtain ⟨sd, m, P, a, p, q⟩ := h
  exact ⟨sd, m, _, a, p, fun xs m1 us H1 k1 r1 d1 p1 => l H1 m1 xs us P Q r1 d1 p1 fun d m' w H' k => q d m' w H' (k1.trans k)⟩
theorem qe_callB {e : Expr} {es : List Expr} {x : Str} {p pos : Pos} {id : String} {r : RnD} {t : TDA} (hc : CallD X (.builtin id) r) (hg : Gl X x) (hm : X.mg x = none) (hv : bootBuiltins x = some (.builtin id)) (ha : PA X (e :: es) (lA X.K H0 t)) (hn : x ≠ "__name__" := by decide) (hdb : (x == ("__debug__" : Str)) = false := by decide)
    (he : starEach (e :: es) X.env = (false, eval e X.env) :: starEach es X.env := by rfl) (hpl : (backTo pos (starEach es X.env)).any (·.1) = false := by rfl) : PE X (.Call (.Name x p) (e :: es) [] pos) (lE X.K H0 (dCB r t)) := by
  obtain ⟨r, h1, h2⟩ := hc.ex
  exact peL (pe_callB h1 hg hm hv ha hn hdb he hpl) fun _ _ _ => l_cb h2
theorem qe_callTy {e : Expr} {es : List Expr} {x : Str} {p pos : Pos} {T : String} {r : RnD} {t : TDA} (hc : CallD X (.type T) r) (hg : Gl X x) (hm : X.mg x = none) (hv : bootBuiltins x = some (.type T)) (ha : PA X (e :: es) (lA X.K H0 t)) (hn : x ≠ "__name__" := by decide) (hdb : (x == ("__debug__" : Str)) = false := by decide)
    (he : starEach (e :: es) X.env = (false, eval e X.env) :: starEach es X.env := by rfl) (hpl : (backTo pos (starEach es X.env)).any (·.1) = false := by rfl) : PE X (.Call (.Name x p) (e :: es) [] pos) (lE X.K H0 (dCB r t)) := by
  obtain ⟨r, h1, h2⟩ := hc.ex
  exact peL (pe_callTy h1 hg hm hv ha hn hdb he hpl) fun _ _ _ => l_cb h2
end
end Q4

set_option Elab.async false
set_option linter.all false
set_option maxRecDepth 100000
namespace Q4
open PySem L2
/-! ### statements -/
def dNext : TDS := fun D sd m => D.nx sd m
def dSeq (t u : TDS) : TDS := fun D sd m => ∃ J : DS → M → Prop, t { D with nx := J } sd m ∧ ∀ sd' m', J sd' m' → Fg (u D) sd' m'
def dBreak : TDS := fun D sd m => D.bk sd m
def dCont : TDS := fun D sd m => D.ct sd m
def dDrop (t : TDE) : TDS := fun D sd m => t sd m fun _ m1 => D.nx sd m1
def dRet (t : TDE) : TDS := fun D sd m => t sd m D.rt
def dRetN : TDS := fun D _ m => D.rt .non m
def dIf (c : TDT) (t u : TDS) : TDS := fun D sd m => c sd m fun b m1 => if b = true then t D sd m1 else u D sd m1
def dNever : TDS := fun _ _ _ => False
abbrev TDG := D → DS → M → (DS → M → Prop) → Prop
def lG (K : PySem.W.Frag) (H0 : Hp) (vs : List Nat) (g : TDG) : TG := fun v σ H Q => ∃ d sd m P, At K H0 sd m σ H ∧ RD K H d v ∧ g d sd m P ∧
  ∀ sd' m' σ' H', Keep K H H' → RS K H' sd' σ' → RM K H' m' → wipe σ' vs = wipe σ vs → P sd' m' → Q σ' H'
abbrev TDGs := List D → DS → M → (DS → M → Prop) → Prop
def lGs (K : PySem.W.Frag) (H0 : Hp) (vs : List Nat) (g : TDGs) : TGs := fun v σ H Q => ∃ d sd m P, At K H0 sd m σ H ∧ RDs K H d v ∧ g d sd m P ∧
  ∀ sd' m' σ' H', Keep K H H' → RS K H' sd' σ' → RM K H' m' → wipe σ' vs = wipe σ vs → P sd' m' → Q σ' H'
def dName (i : Nat) : TDG := fun d sd m P => P (sd.set i (some d)) m
def dGNil : TDGs := fun ds sd m P => ds = [] ∧ P sd m
def dGCons (t : TDG) (u : TDGs) : TDGs := fun ds sd m P => ∃ d r, ds = d :: r ∧ t d sd m fun sd' m' => u r sd' m' P
def dGTup (n : Nat) (t : TDGs) : TDG := fun d sd m P => ∃ xs, d = .tup xs ∧ xs.length = n ∧ t xs sd m P
def dAsg (t : TDE) (g : TDG) : TDS := fun D sd m => t sd m fun x m1 => g x sd m1 D.nx
theorem wipe_set {σ : St} {i : Nat} {x : Option V} : ∀ {vs : List Nat}, i ∈ vs → wipe (σ.set i x) vs = wipe σ vs
  | [], h => absurd h (by simp)
  | v :: vs, h => by
    unfold wipe
    by_cases e : i ∈ vs
    · rw [wipe_set e]
    · have : i = v := by simpa [e] using h
      subst this
      have : ∀ ws : List Nat, i ∉ ws → wipe (σ.set i x) ws = (wipe σ ws).set i x := by
        intro ws
        induction ws with
        | nil => intro _; rfl
        | cons w ws ih =>
          intro hw
          unfold wipe
          rw [ih fun z => hw (List.mem_cons_of_mem _ z), List.set_comm _ _ (fun z => hw (by rw [z]; exact List.mem_cons_self))]
      rw [this vs e, List.set_set]
theorem wipe_wipe {σ : St} : ∀ {vs : List Nat}, wipe (wipe σ vs) vs = wipe σ vs := by
  intro vs
  refine List.ext_getElem? fun j => ?_
  by_cases hj : j ∈ vs
  · have : ∀ (τ : St) (ws : List Nat), j ∈ ws → (wipe τ ws)[j]? = if j < τ.length then some none else none := by
      intro τ ws
      induction ws with
      | nil => intro h; simp at h
      | cons w ws ih =>
        intro h
        unfold wipe
        by_cases e : w = j
        · subst e
          rw [List.getElem?_set]
          simp [wipe_length]
        · rw [List.getElem?_set_ne e]
          exact ih ((List.mem_cons.mp h).resolve_left fun z => e z.symm)
    rw [this _ _ hj, this _ _ hj, wipe_length]
  · rw [wipe_out hj]
section
variable {X : Cx} {H0 : Hp}
theorem qss_nil : PSs X [] (lS X.K H0 dNext) := pssL pss_nil fun D σ H h => by
  obtain ⟨sd, m, DD, a, p, q⟩ := h
  exact q.1 sd m σ H (Keep.refl _) a.s a.m p
theorem l_seq {K : PySem.W.Frag} {t u : TDS} {D : Ends} {σ : St} {H : Hp} (h : lS K H0 (dSeq t u) D σ H) : tSeq (lS K H0 t) (lS K H0 u) D σ H := by
  obtain ⟨sd, m, DD, a, ⟨J, p, hJ⟩, q1, q2, q3, q4⟩ := h
  refine ⟨sd, m, _, a, p, fun sd' m' σ' H' k s r p' => ?_, q2, q3, q4⟩
  obtain ⟨m2, hl, p2⟩ := hJ sd' m' p'
  exact ⟨sd', m2, DD, a.toS k s (r.less hl), p2, fun a b c d k2 => q1 a b c d (k.trans k2), fun a b c d k2 => q2 a b c d (k.trans k2), fun a b c d k2 => q3 a b c d (k.trans k2), fun a b c d k2 => q4 a b c d (k.trans k2)⟩
theorem qss_cons {st : Stmt} {rest : List Stmt} {t u : TDS} (h1 : PS X st (lS X.K H0 t)) (h2 : PSs X rest (lS X.K H0 u)) : PSs X (st :: rest) (lS X.K H0 (dSeq t u)) := pssL (pss_cons h1 h2) fun _ _ _ => l_seq
theorem qss_one {st : Stmt} {t : TDS} (h1 : PS X st (lS X.K H0 t)) : PSs X [st] (lS X.K H0 t) := pss_one h1
theorem qs_pass {pos : Pos} : PS X (.Pass pos) (lS X.K H0 dNext) := psL ps_pass fun D σ H h => by
  obtain ⟨sd, m, DD, a, p, q⟩ := h
  exact q.1 sd m σ H (Keep.refl _) a.s a.m p
theorem qs_break {pos : Pos} : PS X (.Break pos) (lS X.K H0 dBreak) := psL ps_break fun D σ H h => by
  obtain ⟨sd, m, DD, a, p, q⟩ := h
  exact q.2.2.1 sd m σ H (Keep.refl _) a.s a.m p
theorem qs_continue {pos : Pos} : PS X (.Continue pos) (lS X.K H0 dCont) := psL ps_continue fun D σ H h => by
  obtain ⟨sd, m, DD, a, p, q⟩ := h
  exact q.2.2.2 sd m σ H (Keep.refl _) a.s a.m p
theorem qs_expr {e : Expr} {pos : Pos} {t : TDE} (he : PE X e (lE X.K H0 t)) (hs : swapsWith e none pos.line X.env = pure false := by rfl) : PS X (.Expr e pos) (lS X.K H0 (dDrop t)) := psL (ps_expr he hs) fun D σ H h => by
  obtain ⟨sd, m, DD, a, p, q⟩ := h
  exact ⟨sd, m, _, a, p, fun d m' v H' k r _ p' => q.1 sd m' σ H' k (a.s.mono k) r p'⟩
theorem qs_ret {e : Expr} {pos : Pos} {t : TDE} (he : PE X e (lE X.K H0 t)) : PS X (.Return (some e) pos) (lS X.K H0 (dRet t)) := psL (ps_ret he) fun D σ H h => by
  obtain ⟨sd, m, DD, a, p, q⟩ := h
  exact ⟨sd, m, _, a, p, q.2.1⟩
theorem qs_retN {pos : Pos} : PS X (.Return none pos) (lS X.K H0 dRetN) := psL ps_retN fun D σ H h => by
  obtain ⟨sd, m, DD, a, p, q⟩ := h
  exact q.2.1 .non m .non H (Keep.refl _) a.m .non p
theorem qs_if {c : Expr} {a b : List Stmt} {pos : Pos} {tc : TDT} {t u : TDS} (hc : PT X c (lT X.K H0 tc)) (ha : PSs X a (lS X.K H0 t)) (hb : PSs X b (lS X.K H0 u)) : PS X (.If c a b pos) (lS X.K H0 (dIf tc t u)) := psL (ps_if hc ha hb) fun D σ H h => by
  obtain ⟨sd, m, DD, a, p, q1, q2, q3, q4⟩ := h
  refine ⟨sd, m, _, a, p, fun b m' H' k r p' => ?_⟩
  cases b with
  | true => exact ⟨sd, m', DD, a.to k r, p', fun a b c d k2 => q1 a b c d (k.trans k2), fun a b c d k2 => q2 a b c d (k.trans k2), fun a b c d k2 => q3 a b c d (k.trans k2), fun a b c d k2 => q4 a b c d (k.trans k2)⟩
  | false => exact ⟨sd, m', DD, a.to k r, p', fun a b c d k2 => q1 a b c d (k.trans k2), fun a b c d k2 => q2 a b c d (k.trans k2), fun a b c d k2 => q3 a b c d (k.trans k2), fun a b c d k2 => q4 a b c d (k.trans k2)⟩
theorem qs_never {st : Stmt} : PS X st (lS X.K H0 dNever) := psL ps_never fun D σ H h => by
  obtain ⟨sd, m, DD, a, p, q⟩ := h
  exact p.elim
/-! ### targets -/
theorem qg_name {i : Nat} {x : Str} {pos : Pos} {vs : List Nat} (hN : X.N.Nodup) (hi : X.N[i]? = some x) (hx : Loc X.env.scope x) (hv : i ∈ vs) (hf : X.fn x = true ∨ X.env.scope.names.lookup x = some .local := by first | exact .inl rfl | exact .inr rfl | assumption) : PG X (.Name x pos) (lG X.K H0 vs (dName i)) := by
  refine ⟨fun pins s σ H v u Q I r h => (pg_name hN hi hx hf).run pins s σ H v u Q I r ?_⟩
  obtain ⟨d, sd, m, P, a, rd, p, q⟩ := h
  exact q _ m _ H (Keep.refl _) (a.s.set i rd) a.m (wipe_set hv) p
theorem qgs_nil {vs : List Nat} : PGs X [] (lGs X.K H0 vs dGNil) := by
  refine ⟨fun pins s σ H v us Q I r h => pgs_nil.run pins s σ H v us Q I r ?_⟩
  obtain ⟨d, sd, m, P, a, rd, ⟨e, p⟩, q⟩ := h
  subst e
  exact ⟨rd.nil_, q sd m σ H (Keep.refl _) a.s a.m rfl p⟩
theorem qgs_cons {e : Expr} {es : List Expr} {vs : List Nat} {t : TDG} {u : TDGs} (h1 : PG X e (lG X.K H0 vs t)) (h2 : PGs X es (lGs X.K H0 vs u)) (hs : (assignEach (e :: es) X.env).map (·.2) = assign e X.env :: (assignEach es X.env).map (·.2) := by rfl) : PGs X (e :: es) (lGs X.K H0 vs (dGCons t u)) := by
  refine ⟨fun pins s σ H v us Q I r h => (pgs_cons h1 h2 hs).run pins s σ H v us Q I r ?_⟩
  obtain ⟨d, sd, m, P, a, rd, ⟨x, xs, e, p⟩, q⟩ := h
  subst e
  cases rd with
  | cons r1 r2 =>
    refine ⟨_, _, rfl, x, sd, m, _, a, r1, p, fun sd' m' σ' H' k s r w p' => ?_⟩
    exact ⟨xs, sd', m', P, a.toS k s r, r2.mono k, p', fun sd2 m2 σ2 H2 k2 s2 r2 w2 => q sd2 m2 σ2 H2 (k.trans k2) s2 r2 (w2.trans w)⟩
theorem qg_tup {es : List Expr} {k : Nat} {pos : Pos} {vs : List Nat} {t : TDGs} {n : Nat} (hc : X.calm = true) (h : PGs X es (lGs X.K H0 vs t)) (hn : (assignEach es X.env).length = n := by rfl) (hst : (assignEach es X.env).findIdx? (·.1) = none := by rfl) : PG X (.Tuple es k pos) (lG X.K H0 vs (dGTup n t)) := by
  refine ⟨fun pins s σ H v u Q I r h' => (pg_tup hc h hn hst).run pins s σ H v u Q I r ?_⟩
  obtain ⟨d, sd, m, P, a, rd, ⟨xs, e, hl, p⟩, q⟩ := h'
  subst e
  obtain ⟨b, ws, rfl, h1, h2⟩ := rd.tup_
  exact ⟨b, ws, rfl, h1, by rw [← h2.length]; exact hl, xs, sd, m, P, a, h2, p, q⟩
theorem l_asg {K : PySem.W.Frag} {t : TDE} {g : TDG} {vs : List Nat} {D : Ends} {σ : St} {H : Hp} (h : lS K H0 (dAsg t g) D σ H) : tAsg (lE K H0 t) (lG K H0 vs g) D σ H := by
  obtain ⟨sd, m, DD, a, p, q⟩ := h
  refine ⟨sd, m, _, a, p, fun d m' v H' k r rd p' => ?_⟩
  exact ⟨d, sd, m', _, a.to k r, rd, p', fun sd2 m2 σ2 H2 k2 s2 r2 _ => q.1 sd2 m2 σ2 H2 (k.trans k2) s2 r2⟩
theorem qs_asg {tg e : Expr} {pos : Pos} {t : TDE} {g : TDG} {vs : List Nat} (he : PE X e (lE X.K H0 t)) (hg : PG X tg (lG X.K H0 vs g)) (hs : swapsWithSole [tg] e pos.line X.env = pure false := by rfl) (hw : swappedStores [tg] e X.env = pure none := by rfl)
    (h1 : (assignEach [tg] X.env).map (·.2) = [assign tg X.env] := by rfl) : PS X (.Assign [tg] e pos) (lS X.K H0 (dAsg t g)) := psL (ps_asg he hg hs hw h1) fun _ _ _ => l_asg
theorem qs_set {i : Nat} {x : Str} {e : Expr} {t : TDE} {pos pos' : Pos} (hN : X.N.Nodup) (hi : X.N[i]? = some x) (hx : Loc X.env.scope x) (he : PE X e (lE X.K H0 t)) (hs : swapsWith e (some (.Name x pos')) pos.line X.env = pure false := by rfl) (hf : X.fn x = true ∨ X.env.scope.names.lookup x = some .local := by first | exact .inl rfl | exact .inr rfl | assumption) :
    PS X (.Assign [.Name x pos'] e pos) (lS X.K H0 (dAsg t (dName i))) := psL (ps_set hN hi hx he hs hf) fun D σ H h => by
  obtain ⟨sd, m, DD, a, p, q⟩ := h
  exact ⟨sd, m, _, a, p, fun d m' v H' k r rd p' => q.1 _ m' _ H' k ((a.s.mono k).set i rd) r p'⟩
/-- o[i] = e of a list -/
def dGSub (to ti : TDE) : TDG := fun v sd m P => to sd m fun o m1 => ti sd m1 fun i m2 => match o, i with
  | .ref a, .int k => ∃ xs j, m2 a = some (.lst xs) ∧ ixN xs.length k = some j ∧ P sd (put m2 a (.lst (xs.set j v)))
  | _, _ => False
theorem qg_sub {o i : Expr} {to ti : TDE} {pos : Pos} {vs : List Nat} (ho : PE X o (lE X.K H0 to)) (hi : PE X i (lE X.K H0 ti)) (ha : ∀ v, assign (.Subscript o i pos) X.env v = (do
      let ov ← holding [v] (eval o X.env)
      let iv ← holding [v, ov] (eval i X.env)
      standAt pos
      holding [v, ov, iv] (setItem ov iv v)
      release [v, ov, iv] []) := by intro _; rfl) : PG X (.Subscript o i pos) (lG X.K H0 vs (dGSub to ti)) := by
  refine ⟨fun pins s σ H v u Q I r h => (pg_sub ho hi set_list ha).run pins s σ H v u Q I r ?_⟩
  obtain ⟨d, sd, m, P, a, rd, p, q⟩ := h
  refine ⟨sd, m, _, a, p, fun x m1 w H1 k1 r1 d1 p1 => ?_⟩
  refine ⟨sd, m1, _, a.to k1 r1, p1, fun y m2 w2 H2 k2 r2 d2 p2 => ?_⟩
  split at p2
  · obtain ⟨xs, j, e, hj, p2⟩ := p2
    cases d1.ref_
    cases d2.int_
    obtain ⟨ws, e1, rr⟩ := r2 _ _ e
    exact ⟨_, ws, _, j, rfl, rfl, e1, by rw [← rr.length]; exact hj, q sd _ σ _ ((k1.trans k2).trans (Keep.lst e1)) (a.s.mono ((k1.trans k2).trans (Keep.lst e1))) (r2.setPut e1 (RDs.set (rd.mono (k1.trans k2)) j rr)) rfl p2⟩
  · exact p2.elim
/-- name op= e: the operator's own rule (ints) -/
def rInp (f : Int → Int → Int) : R2D := fun x y m P => match x, y with | .int i, .int j => P (.int (f i j)) m | _, _ => False
def dAug (i : Nat) (t : TDE) (r : R2D) : TDS := fun D sd m => ∃ x, sd[i]? = some (some x) ∧ t sd m fun y m1 => r x y m1 fun z m2 => D.nx (sd.set i (some z)) m2
theorem qs_augI {f : Int → Int → Int} {i : Nat} {x : Str} {e : Expr} {t : TDE} {op : Operator} {pos pos' : Pos} (hN : X.N.Nodup) (hi : X.N[i]? = some x) (hx : Loc X.env.scope x) (he : PE X e (lE X.K H0 t)) (ho : PIp X op (ipI f)) (hf : X.fn x = true ∨ X.env.scope.names.lookup x = some .local := by first | exact .inl rfl | exact .inr rfl | assumption) :
    PS X (.AugAssign (.Name x pos') op e pos) (lS X.K H0 (dAug i t (rInp f))) := psL (ps_aug hN hi hx he ho hf) fun D σ H h => by
  obtain ⟨sd, m, DD, a, ⟨d, e1, p⟩, q⟩ := h
  obtain ⟨v, e2, rd⟩ := a.s.get i d e1
  refine ⟨v, e2, sd, m, _, a, p, fun y m1 w H1 k1 r1 d1 p1 => ?_⟩
  unfold rInp at p1
  split at p1
  · cases rd.int_
    cases d1.int_
    exact ⟨_, _, rfl, rfl, q.1 _ m1 _ H1 k1 ((a.s.mono k1).set i (.int _)) r1 p1⟩
  · exact p1.elim
/-! ### while -/
def dWhile (c : TDT) (tb : TDS) : TDS := fun D sd m => ∃ W : Nat → DS → M → Prop, (∃ n, W n sd m) ∧ ∀ n sd m, W n sd m →
  c sd m fun b m1 => if b = true then tb { D with nx := Fg fun sd' m' => ∃ n', n' < n ∧ W n' sd' m', ct := Fg fun sd' m' => ∃ n', n' < n ∧ W n' sd' m', bk := D.nx } sd m1 else D.nx sd m1
theorem qs_while {c : Expr} {body : List Stmt} {tc : TDT} {tb : TDS} {pos : Pos} (hp : PassesOwn (model X.prog X.w) X.A X.env X.xe) (hc : PT X c (lT X.K H0 tc)) (hb : PSs X body (lS X.K H0 tb)) : PS X (.While c body [] pos) (lS X.K H0 (dWhile tc tb)) := psL (ps_while hp hc hb) fun D σ H h => by
  obtain ⟨sd, m, DD, a, ⟨W, ⟨n0, w0⟩, turn⟩, q1, q2, q3, q4⟩ := h
  refine ⟨fun n σ' H' => ∃ sd' m', Keep X.K H H' ∧ RS X.K H' sd' σ' ∧ RM X.K H' m' ∧ W n sd' m', ⟨n0, sd, m, Keep.refl _, a.s, a.m, w0⟩, ?_⟩
  rintro n σ1 H1 ⟨sd1, m1, k1, s1, r1, w1⟩
  refine ⟨sd1, m1, _, a.toS k1 s1 r1, turn n sd1 m1 w1, fun b m2 H2 k2 r2 p2 => ?_⟩
  cases b with
  | true =>
    refine ⟨fun σ' H' => ∃ n', n' < n ∧ ∃ sd' m', Keep X.K H H' ∧ RS X.K H' sd' σ' ∧ RM X.K H' m' ∧ W n' sd' m', fun σ' H' z => z, ?_⟩
    refine ⟨sd1, m2, _, a.toS (k1.trans k2) (s1.mono k2) r2, p2, ?_, ?_, ?_, ?_⟩
    · rintro sd3 m3 σ3 H3 k3 s3 r3 ⟨m4, hl, n', hn, w⟩
      exact ⟨n', hn, sd3, m4, (k1.trans k2).trans k3, s3, r3.less hl, w⟩
    · exact fun a b c d k3 => q2 a b c d ((k1.trans k2).trans k3)
    · exact fun a b c d k3 => q1 a b c d ((k1.trans k2).trans k3)
    · rintro sd3 m3 σ3 H3 k3 s3 r3 ⟨m4, hl, n', hn, w⟩
      exact ⟨n', hn, sd3, m4, (k1.trans k2).trans k3, s3, r3.less hl, w⟩
  | false => exact q1 sd1 m2 σ1 H2 (k1.trans k2) (s1.mono k2) r2 p2
/-! ### what is walked -/
abbrev DIt := Nat → M → Option D → Prop
def LiftIt (K : PySem.W.Frag) (H1 : Hp) (J : DIt) (J' : It) : Prop := ∀ H, Keep K H1 H → ∀ i m, RM K H m → ∀ o, J i m o → match o with
  | none => J'.stop i H
  | some x => J'.go i H ∧ ∀ v H', J'.yld i H v H' → Keep K H H' ∧ RM K H' m ∧ RD K H' x v
abbrev TDI := DS → M → (DIt → M → Prop) → Prop
def lI (K : PySem.W.Frag) (H0 : Hp) (wi : TDI) : TI := fun σ H R => ∃ sd m P, At K H0 sd m σ H ∧ wi sd m P ∧ ∀ J m' J' H', Keep K H H' → RM K H' m' → LiftIt K H' J J' → P J m' → R J' H'
theorem piL {tg e : Expr} {t t' : TI} (h : PI X tg e t) (i : ∀ σ H Q, t' σ H Q → t σ H Q) : PI X tg e t' := ⟨fun pins s σ H Q I ht => h.run pins s σ H Q I (i _ _ _ ht)⟩
def jTup (xs : List D) : DIt := fun i _ o => o = xs[i]?
def jLst (a : Addr) : DIt := fun i m o => ∃ xs, m a = some (.lst xs) ∧ o = xs[i]?
def jRng (lo : Int) (n : Nat) : DIt := fun i _ o => o = if i < n then some (.int (lo + i)) else none
/-- a tuple -/
def iT (t : TDE) : TDI := fun sd m P => t sd m fun x m1 => match x with | .tup xs => P (jTup xs) m1 | _ => False
/-- a list -/
def iL (t : TDE) : TDI := fun sd m P => t sd m fun x m1 => match x with | .rol xs => P (jTup xs) m1 | .ref a => (∃ xs, m1 a = some (.lst xs)) ∧ P (jLst a) m1 | _ => False
theorem lift_tup {K : PySem.W.Frag} {H : Hp} {b : Addr} {xs : List D} {vs : List V} (h1 : SqT K H b vs) (h2 : RDs K H xs vs) : LiftIt K H (jTup xs) (Itt K b) := fun H2 k2 i m2 r2 o e => by
  have e : o = xs[i]? := e
  cases e2 : xs[i]? with
  | none =>
    rw [e2] at e
    subst e
    exact ⟨vs, k2.t _ _ h1, by rw [← h2.length]; exact List.getElem?_eq_none_iff.mp e2⟩
  | some x =>
    rw [e2] at e
    subst e
    obtain ⟨u, e3, r3⟩ := h2.get e2
    refine ⟨⟨vs, u, k2.t _ _ h1, e3⟩, fun v H3 y => ?_⟩
    obtain ⟨e4, y⟩ := y
    have e5 := y vs (k2.t _ _ h1)
    rw [e3] at e5
    cases e5
    subst e4
    exact ⟨Keep.refl _, r2, r3.mono k2⟩
theorem lift_rol {K : PySem.W.Frag} {H : Hp} {b : Addr} {xs : List D} {vs : List V} (h1 : FrzL K H b vs) (h2 : RDs K H xs vs) : LiftIt K H (jTup xs) (Itl K b) := fun H2 k2 i m2 r2 o e => by
  have e : o = xs[i]? := e
  have g1 := (k2.f _ _ h1).sq
  cases e2 : xs[i]? with
  | none =>
    rw [e2] at e
    subst e
    exact ⟨vs, g1, by rw [← h2.length]; exact List.getElem?_eq_none_iff.mp e2⟩
  | some x =>
    rw [e2] at e
    subst e
    obtain ⟨u, e3, r3⟩ := h2.get e2
    refine ⟨⟨vs, u, g1, e3⟩, fun v H3 y => ?_⟩
    obtain ⟨e4, y⟩ := y
    have e5 := y vs g1
    rw [e3] at e5
    cases e5
    subst e4
    exact ⟨Keep.refl _, r2, r3.mono k2⟩
theorem lift_lst {K : PySem.W.Frag} {H : Hp} {b : Addr} : LiftIt K H (jLst b) (Itl K b) := fun H2 k2 i m2 r2 o e => by
  obtain ⟨ys, hy, e⟩ := e
  obtain ⟨ws, e1, g2⟩ := r2 _ _ hy
  have g1 : SqL K H2 b ws := .inl (.inl e1)
  cases e2 : ys[i]? with
  | none =>
    rw [e2] at e
    subst e
    exact ⟨ws, g1, by rw [← g2.length]; exact List.getElem?_eq_none_iff.mp e2⟩
  | some x =>
    rw [e2] at e
    subst e
    obtain ⟨u, e3, r3⟩ := g2.get e2
    refine ⟨⟨ws, u, g1, e3⟩, fun v H3 y => ?_⟩
    obtain ⟨e4, y⟩ := y
    have e5 := y ws g1
    rw [e3] at e5
    cases e5
    subst e4
    exact ⟨Keep.refl _, r2, r3⟩
theorem qi_tup {tg l : Expr} {t : TDE} (hl : PE X l (lE X.K H0 t)) : PI X tg l (lI X.K H0 (iT t)) := piL (pi_tup hl) fun σ H Q h => by
  obtain ⟨sd, m, P, a, p, q⟩ := h
  refine ⟨sd, m, _, a, p, fun d m' v H' k r rd p' => ?_⟩
  cases d with
  | tup xs =>
    obtain ⟨b, vs, rfl, h1, h2⟩ := rd.tup_
    refine ⟨b, rfl, ⟨vs, h1⟩, q _ m' _ H' k r (fun H2 k2 i m2 r2 o e => ?_) p'⟩
    have e : o = xs[i]? := e
    cases e2 : xs[i]? with
    | none =>
      rw [e2] at e
      subst e
      exact ⟨vs, k2.t _ _ h1, by rw [← h2.length]; exact List.getElem?_eq_none_iff.mp e2⟩
    | some x =>
      rw [e2] at e
      subst e
      obtain ⟨u, e3, r3⟩ := h2.get e2
      refine ⟨⟨vs, u, k2.t _ _ h1, e3⟩, fun v H3 y => ?_⟩
      obtain ⟨e4, y⟩ := y
      have e5 := y vs (k2.t _ _ h1)
      rw [e3] at e5
      cases e5
      subst e4
      exact ⟨Keep.refl _, r2, r3.mono k2⟩
  | _ => exact p'.elim
theorem qi_list {tg l : Expr} {t : TDE} (hl : PE X l (lE X.K H0 t)) : PI X tg l (lI X.K H0 (iL t)) := piL (pi_list hl) fun σ H Q h => by
  obtain ⟨sd, m, P, a, p, q⟩ := h
  refine ⟨sd, m, _, a, p, fun d m' v H' k r rd p' => ?_⟩
  cases d with
  | ref b =>
    cases rd.ref_
    obtain ⟨⟨xs, hx⟩, p'⟩ := p'
    have sq : ∀ {H2 : Hp} {m2 : M} {ys : List D}, RM X.K H2 m2 → m2 b = some (.lst ys) → ∃ vs, SqL X.K H2 b vs ∧ RDs X.K H2 ys vs := fun r2 h2 => by
      obtain ⟨vs, e1, r1⟩ := r2 _ _ h2; exact ⟨vs, .inl (.inl e1), r1⟩
    obtain ⟨vs, h1, h2⟩ := sq r hx
    refine ⟨b, rfl, ⟨vs, h1⟩, q _ m' _ H' k r (fun H2 k2 i m2 r2 o e => ?_) p'⟩
    obtain ⟨ys, hy, e⟩ := e
    obtain ⟨ws, g1, g2⟩ := sq r2 hy
    cases e2 : ys[i]? with
    | none =>
      rw [e2] at e
      subst e
      exact ⟨ws, g1, by rw [← g2.length]; exact List.getElem?_eq_none_iff.mp e2⟩
    | some x =>
      rw [e2] at e
      subst e
      obtain ⟨u, e3, r3⟩ := g2.get e2
      refine ⟨⟨ws, u, g1, e3⟩, fun v H3 y => ?_⟩
      obtain ⟨e4, y⟩ := y
      have e5 := y ws g1
      rw [e3] at e5
      cases e5
      subst e4
      exact ⟨Keep.refl _, r2, r3⟩
  | rol xs =>
    obtain ⟨b, vs, rfl, h1, h2⟩ := rd.rol_
    refine ⟨b, rfl, ⟨vs, h1.sq⟩, q _ m' _ H' k r (fun H2 k2 i m2 r2 o e => ?_) p'⟩
    have e : o = xs[i]? := e
    have g1 := (k2.f _ _ h1).sq
    cases e2 : xs[i]? with
    | none =>
      rw [e2] at e
      subst e
      exact ⟨vs, g1, by rw [← h2.length]; exact List.getElem?_eq_none_iff.mp e2⟩
    | some x =>
      rw [e2] at e
      subst e
      obtain ⟨u, e3, r3⟩ := h2.get e2
      refine ⟨⟨vs, u, g1, e3⟩, fun v H3 y => ?_⟩
      obtain ⟨e4, y⟩ := y
      have e5 := y vs g1
      rw [e3] at e5
      cases e5
      subst e4
      exact ⟨Keep.refl _, r2, r3.mono k2⟩
  | _ => exact p'.elim
theorem lift_rng {K : PySem.W.Frag} {H : Hp} {lo : Int} {n : Nat} : LiftIt K H (jRng lo n) (Itr lo n) := fun H2 k2 i m2 r2 o e => by
  have e : o = if i < n then some (.int (lo + i)) else none := e
  by_cases h : i < n
  · rw [if_pos h] at e
    subst e
    refine ⟨h, fun v H3 y => ?_⟩
    obtain ⟨e4, y⟩ := y
    subst e4 y
    exact ⟨Keep.refl _, r2, .int _⟩
  · rw [if_neg h] at e
    subst e
    exact Nat.le_of_not_lt h
def iR1 (t : TDA) : TDI := fun sd m P => t sd m fun xs m1 => match xs with | [.int j] => -(2 ^ 62) ≤ j ∧ j < 2 ^ 62 ∧ P (jRng 0 j.toNat) m1 | _ => False
def iR2 (t : TDA) : TDI := fun sd m P => t sd m fun xs m1 => match xs with | [.int i, .int j] => (-(2 ^ 62) ≤ i ∧ i < 2 ^ 62 ∧ -(2 ^ 62) ≤ j ∧ j < 2 ^ 62) ∧ P (jRng i (j - i).toNat) m1 | _ => False
theorem qi_range1 {tg a : Expr} {t : TDA} {p pos : Pos} (hg : Gl X "range") (hm : X.mg "range" = none) (ha : PA X [a] (lA X.K H0 t)) (hs : starEach [a] X.env = [(false, eval a X.env)] := by rfl) : PI X tg (.Call (.Name "range" p) [a] [] pos) (lI X.K H0 (iR1 t)) := piL (pi_range1 hg hm ha hs) fun σ H Q h => by
  obtain ⟨sd, m, P, a, p, q⟩ := h
  refine ⟨sd, m, _, a, p, fun d m' v H' k r rd p' => ?_⟩
  split at p'
  · obtain ⟨u, rfl, r1⟩ := rd.one_
    cases r1.int_
    exact ⟨_, rfl, p'.1, p'.2.1, q _ m' _ H' k r lift_rng p'.2.2⟩
  · exact p'.elim
theorem qi_range2 {tg a b : Expr} {t : TDA} {p pos : Pos} (hg : Gl X "range") (hm : X.mg "range" = none) (ha : PA X [a, b] (lA X.K H0 t)) (hs : starEach [a, b] X.env = [(false, eval a X.env), (false, eval b X.env)] := by rfl) (hs2 : starEach [b] X.env = [(false, eval b X.env)] := by rfl) :
    PI X tg (.Call (.Name "range" p) [a, b] [] pos) (lI X.K H0 (iR2 t)) := piL (pi_range2 hg hm ha hs hs2) fun σ H Q h => by
  obtain ⟨sd, m, P, a, p, q⟩ := h
  refine ⟨sd, m, _, a, p, fun d m' v H' k r rd p' => ?_⟩
  split at p'
  · obtain ⟨u, w, rfl, r1, r2⟩ := rd.two_
    cases r1.int_
    cases r2.int_
    exact ⟨_, _, rfl, p'.1, q _ m' _ H' k r lift_rng p'.2⟩
  · exact p'.elim
/-! ### for -/
def dFor (wi : TDI) (g : TDG) (tb : TDS) : TDS := fun D sd m => wi sd m fun J m1 => ∃ (N : Nat) (W : Nat → DS → M → Prop), W 0 sd m1 ∧ ∀ i sd m, W i sd m → i ≤ N ∧ ∃ o, J i m o ∧ match o with
  | none => D.nx sd m
  | some x => g x sd m fun sd2 m2 => tb { D with nx := Fg (W (i + 1)), ct := Fg (W (i + 1)), bk := D.nx } sd2 m2
/-- a loop's reading over any lifted iterable -/
theorem for_core {K : PySem.W.Frag} {g : TDG} {tb : TDS} {vs : List Nat} {J : DIt} {J' : It} {H H1 : Hp} {sd : DS} {m1 : M} {σ : St} {DD : DEnds} {D : Ends} (k0 : Keep K H0 H) (k1 : Keep K H H1) (s1 : RS K H1 sd σ) (r1 : RM K H1 m1) (l1 : LiftIt K H1 J J')
    (q1 : ∀ sd' m' σ' H', Keep K H H' → RS K H' sd' σ' → RM K H' m' → DD.nx sd' m' → D.nx σ' H') (q2 : ∀ d m' v H', Keep K H H' → RM K H' m' → RD K H' d v → DD.rt d m' → D.rt v H')
    (p : ∃ (N : Nat) (W : Nat → DS → M → Prop), W 0 sd m1 ∧ ∀ i sd m, W i sd m → i ≤ N ∧ ∃ o, J i m o ∧ match o with
      | none => DD.nx sd m
      | some x => g x sd m fun sd2 m2 => tb { DD with nx := Fg (W (i + 1)), ct := Fg (W (i + 1)), bk := DD.nx } sd2 m2) :
    ∃ W : Nat → Nat → St → Hp → Prop, (∃ m, W 0 m σ H1) ∧ ∀ i m σ H, W i m σ H →
      (J'.stop i H ∧ D.nx σ H) ∨ (J'.go i H ∧ ∃ N : St → Hp → Prop, (∀ σ' H', N σ' H' → ∃ m', m' < m ∧ W (i + 1) m' σ' H') ∧ ∀ x H', J'.yld i H x H' → lG K H0 vs g x σ H' fun σ2 H2 => lS K H0 tb { D with nx := N, ct := N, bk := D.nx } σ2 H2) := by
  obtain ⟨N, W, w0, turn⟩ := p
  refine ⟨fun i n σ' H' => n = N - i ∧ ∃ sd' m', Keep K H1 H' ∧ RS K H' sd' σ' ∧ RM K H' m' ∧ W i sd' m', ⟨N, rfl, sd, m1, Keep.refl _, s1, r1, w0⟩, ?_⟩
  rintro i n σ2 H2 ⟨rfl, sd2, m2, k2, s2, r2, w2⟩
  obtain ⟨hi, o, jo, rest⟩ := turn i sd2 m2 w2
  have L := l1 H2 k2 i m2 r2 o jo
  cases o with
  | none => exact .inl ⟨L, q1 sd2 m2 σ2 H2 (k1.trans k2) s2 r2 rest⟩
  | some x =>
    refine .inr ⟨L.1, fun σ3 H3 => ∃ sd' m', Keep K H1 H3 ∧ RS K H3 sd' σ3 ∧ RM K H3 m' ∧ W (i + 1) sd' m', ?_, fun v H3 y => ?_⟩
    · rintro σ3 H3 ⟨sd3, m3, k3, s3, r3, w3⟩
      have := (turn (i + 1) sd3 m3 w3).1
      exact ⟨N - (i + 1), by omega, rfl, sd3, m3, k3, s3, r3, w3⟩
    · obtain ⟨k3, r3, d3⟩ := L.2 v H3 y
      refine ⟨x, sd2, m2, _, ⟨s2.mono k3, r3, k0.trans (k1.trans (k2.trans k3))⟩, d3, rest, fun sd4 m4 σ4 H4 k4 s4 r4 _ p4 => ?_⟩
      have K4 : Keep K H1 H4 := k2.trans (k3.trans k4)
      refine ⟨sd4, m4, _, ⟨s4, r4, k0.trans (k1.trans K4)⟩, p4, ?_, ?_, ?_, ?_⟩
      · exact fun sd5 m5 σ5 H5 k5 s5 r5 ⟨m6, hl, w5⟩ => ⟨sd5, m6, K4.trans k5, s5, r5.less hl, w5⟩
      · exact fun a b c d k5 => q2 a b c d ((k1.trans K4).trans k5)
      · exact fun a b c d k5 => q1 a b c d ((k1.trans K4).trans k5)
      · exact fun sd5 m5 σ5 H5 k5 s5 r5 ⟨m6, hl, w5⟩ => ⟨sd5, m6, K4.trans k5, s5, r5.less hl, w5⟩
theorem qs_for {tg iter : Expr} {body : List Stmt} {wi : TDI} {g : TDG} {tb : TDS} {pos : Pos} {vs : List Nat} (hp : PassesOwn (model X.prog X.w) X.A X.env X.xe) (hc : X.calm = true) (hi : PI X tg iter (lI X.K H0 wi)) (hg : PG X tg (lG X.K H0 vs g)) (hb : PSs X body (lS X.K H0 tb))
    (hs : ∀ x, foldedSetIterable iter X.env x = pure x := by intro _; rfl) : PS X (.For tg iter body [] pos) (lS X.K H0 (dFor wi g tb)) := psL (ps_for hp hc hi hg hb hs) fun D σ H h => by
  obtain ⟨sd, m, DD, a, p, q1, q2, q3, q4⟩ := h
  exact ⟨sd, m, _, a, p, fun J m1 J' H1 k1 r1 l1 p1 => for_core a.k k1 (a.s.mono k1) r1 l1 q1 q2 p1⟩
end
end Q4

set_option Elab.async false
set_option linter.all false
set_option maxRecDepth 100000
namespace Q4
open PySem L2
section
variable {X : Cx} {H0 : Hp}
/-- a list: one that may change, or a locked one -/
def isL (m : M) (x : D) (ys : List D) : Prop := match x with | .rol xs => xs = ys | .ref a => m a = some (.lst ys) | _ => False
theorem RM.list {K : PySem.W.Frag} {H : Hp} {m : M} {x : D} {u : V} (r : RM K H m) (rd : RD K H x u) {ys : List D} (h : isL m x ys) : ∃ a vs, u = .ref a ∧ SqL K H a vs ∧ RDs K H ys vs := by
  unfold isL at h
  split at h
  · subst h
    obtain ⟨a, vs, rfl, h1, h2⟩ := rd.rol_
    exact ⟨a, vs, rfl, h1.sq, h2⟩
  · cases rd.ref_
    obtain ⟨vs, e1, r1⟩ := r _ _ h
    exact ⟨_, vs, rfl, .inl (.inl e1), r1⟩
  · exact h.elim
theorem rds_ints {K : PySem.W.Frag} {H : Hp} : ∀ {ns : List Int} {vs : List V}, RDs K H (ns.map D.int) vs → vs = ns.map V.int
  | [], _, .nil => rfl
  | n :: ns, _, .cons h r => by cases h.int_; rw [rds_ints r]; rfl
theorem rds_bls {K : PySem.W.Frag} {H : Hp} : ∀ {ns : List Bool} {vs : List V}, RDs K H (ns.map D.bl) vs → vs = ns.map V.bl
  | [], _, .nil => rfl
  | n :: ns, _, .cons h r => by cases h.bl_; rw [rds_bls r]; rfl
theorem rds_strs {K : PySem.W.Frag} {H : Hp} : ∀ {ns : List Str} {vs : List V}, RDs K H (ns.map D.str) vs → vs = ns.map V.str
  | [], _, .nil => rfl
  | n :: ns, _, .cons h r => by cases h.str_; rw [rds_strs r]; rfl
/-! ### len -/
def rLen : RnD := fun xs m P => match xs with
  | [.tup ys] => P (.int ys.length) m
  | [.str z] => z.length ≤ sizeLine ∧ P (.int z.length) m
  | [x] => ∃ ys, isL m x ys ∧ P (.int ys.length) m
  | _ => False
theorem cd_len : CallD X (.builtin "len") rLen := by
  have h1 : CallD X (.builtin "len") (fun xs m P => (∃ ys, xs = [.tup ys] ∧ P (.int ys.length) m) ∨ ∃ x ys, xs = [x] ∧ isL m x ys ∧ P (.int ys.length) m) := by
    refine ⟨_, call_len_seq, fun H m xs us P Q rm rx p q => ?_⟩
    rcases p with ⟨ys, rfl, p⟩ | ⟨a, ys, rfl, h, p⟩
    · obtain ⟨u, rfl, r⟩ := rx.one_
      obtain ⟨a, vs, rfl, h1, h2⟩ := r.tup_
      exact ⟨a, vs, rfl, .inr h1, q _ m _ H (Keep.refl _) rm (by rw [← h2.length]; exact .int _) p⟩
    · obtain ⟨u, rfl, r⟩ := rx.one_
      obtain ⟨a, vs, rfl, h1, h2⟩ := rm.list r h
      exact ⟨a, vs, rfl, .inl h1, q _ m _ H (Keep.refl _) rm (by rw [← h2.length]; exact .int _) p⟩
  have h2 : CallD X (.builtin "len") (fun xs m P => ∃ z, xs = [.str z] ∧ z.length ≤ sizeLine ∧ P (.int z.length) m) := by
    refine ⟨_, call_len_str, fun H m xs us P Q rm rx p q => ?_⟩
    obtain ⟨z, rfl, h, p⟩ := p
    obtain ⟨u, rfl, r⟩ := rx.one_
    cases r.str_
    exact ⟨z, rfl, h, q _ m _ H (Keep.refl _) rm (.int _) p⟩
  refine (h1.or h2).imp fun xs m P p => ?_
  unfold rLen at p
  split at p
  · exact .inl (.inl ⟨_, rfl, p⟩)
  · exact .inr ⟨_, rfl, p⟩
  · obtain ⟨ys, h, p⟩ := p
    exact .inl (.inr ⟨_, ys, rfl, h, p⟩)
  · exact p.elim
/-! ### abs, int, bool, str -/
def rAbs : RnD := fun xs m P => match xs with | [.int i] => P (.int (if i < 0 then -i else i)) m | _ => False
theorem cd_abs : CallD X (.builtin "abs") rAbs := by
  refine ⟨_, call_abs, fun H m xs us P Q rm rx p q => ?_⟩
  unfold rAbs at p
  split at p
  · obtain ⟨u, rfl, r⟩ := rx.one_
    cases r.int_
    exact ⟨_, rfl, q _ m _ H (Keep.refl _) rm (.int _) p⟩
  · exact p.elim
def rInt : RnD := fun xs m P => match xs with | [.int i] => P (.int i) m | [.bl k] => P (.int (if k then 1 else 0)) m | [.str a] => ∃ n, PySem.intText? a = some n ∧ a.length ≤ 640 ∧ P (.int n) m | _ => False
theorem cd_int : CallD X (.type "int") rInt := by
  have h1 : CallD X (.type "int") (fun xs m P => (∃ i, xs = [.int i] ∧ P (.int i) m) ∨ ∃ k : Bool, xs = [.bl k] ∧ P (.int (if k then 1 else 0)) m) := by
    refine ⟨_, call_int1, fun H m xs us P Q rm rx p q => ?_⟩
    rcases p with ⟨ys, rfl, p⟩ | ⟨a, rfl, p⟩
    · obtain ⟨u, rfl, r⟩ := rx.one_
      cases r.int_
      exact .inl ⟨_, rfl, q _ m _ H (Keep.refl _) rm (.int _) p⟩
    · obtain ⟨u, rfl, r⟩ := rx.one_
      cases r.bl_
      exact .inr ⟨_, rfl, q _ m _ H (Keep.refl _) rm (.int _) p⟩
  have h2 : CallD X (.type "int") (fun xs m P => ∃ z n, xs = [.str z] ∧ PySem.intText? z = some n ∧ z.length ≤ 640 ∧ P (.int n) m) := by
    refine ⟨_, call_int_str, fun H m xs us P Q rm rx p q => ?_⟩
    obtain ⟨z, n, rfl, h, h2, p⟩ := p
    obtain ⟨u, rfl, r⟩ := rx.one_
    cases r.str_
    exact ⟨z, n, rfl, h, h2, q _ m _ H (Keep.refl _) rm (.int _) p⟩
  refine (h1.or h2).imp fun xs m P p => ?_
  unfold rInt at p
  split at p
  · exact .inl (.inl ⟨_, rfl, p⟩)
  · exact .inl (.inr ⟨_, rfl, p⟩)
  · obtain ⟨n, p⟩ := p
    exact .inr ⟨_, n, rfl, p⟩
  · exact p.elim
def rStr : RnD := fun xs m P => match xs with | [.int i] => i.natAbs.log2 < 1920 ∧ P (.str (toString i)) m | _ => False
theorem cd_str : CallD X (.type "str") rStr := by
  refine ⟨_, call_str_int, fun H m xs us P Q rm rx p q => ?_⟩
  unfold rStr at p
  split at p
  · obtain ⟨u, rfl, r⟩ := rx.one_
    cases r.int_
    exact ⟨_, rfl, p.1, q _ m _ H (Keep.refl _) rm (.str _) p.2⟩
  · exact p.elim
/-! ### tuple, list -/
def rTuple : RnD := fun xs m P => match xs with | [.tup ys] => P (.tup ys) m | [x] => ∃ ys, isL m x ys ∧ P (.tup ys) m | _ => False
theorem cd_tuple : CallD X (.type "tuple") rTuple := by
  refine ⟨_, call_tuple_of, fun H m xs us P Q rm rx p q => ?_⟩
  unfold rTuple at p
  split at p
  · obtain ⟨u, rfl, r⟩ := rx.one_
    obtain ⟨a, vs, rfl, h1, h2⟩ := r.tup_
    exact ⟨a, vs, rfl, .inr ⟨h1, q _ m _ H (Keep.refl _) rm (.tup h1 h2) p⟩⟩
  · obtain ⟨u, rfl, r⟩ := rx.one_
    obtain ⟨ys, h, p⟩ := p
    obtain ⟨_, vs, rfl, h1, h2⟩ := rm.list r h
    exact ⟨_, vs, rfl, .inl ⟨h1, fun l hl => q _ m _ _ (Keep.new hl) (rm.new hl) (.tup (.inl (.inl upd_same)) (h2.mono (Keep.new hl))) p⟩⟩
  · exact p.elim
def rList : RnD := fun xs m P => match xs with | [.tup ys] => ∀ l, m l = none → P (.ref l) (put m l (.lst ys)) | [x] => ∃ ys, isL m x ys ∧ ∀ l, m l = none → P (.ref l) (put m l (.lst ys)) | _ => False
theorem cd_list : CallD X (.type "list") rList := by
  refine ⟨_, call_list_of, fun H m xs us P Q rm rx p q => ?_⟩
  unfold rList at p
  split at p
  · obtain ⟨u, rfl, r⟩ := rx.one_
    obtain ⟨a, vs, rfl, h1, h2⟩ := r.tup_
    exact ⟨a, vs, rfl, .inr h1, fun l hl => q _ _ _ _ (Keep.new hl) (rm.newPut hl h2) (.ref l) (p l (rm.free hl))⟩
  · obtain ⟨u, rfl, r⟩ := rx.one_
    obtain ⟨ys, h, p⟩ := p
    obtain ⟨_, vs, rfl, h1, h2⟩ := rm.list r h
    exact ⟨_, vs, rfl, .inl h1, fun l hl => q _ _ _ _ (Keep.new hl) (rm.newPut hl h2) (.ref l) (p l (rm.free hl))⟩
  · exact p.elim
/-! ### sum, all, any over lists -/
def rSumD : RnD := fun xs m P => match xs with | [x] => ∃ ns : List Int, isL m x (ns.map D.int) ∧ P (.int ns.sum) m | _ => False
theorem cd_sum (hc : X.calm = true) : CallD X (.builtin "sum") rSumD := by
  refine ⟨_, cr_sum hc, fun H m xs us P Q rm rx p q => ?_⟩
  unfold rSumD at p
  split at p
  · obtain ⟨u, rfl, r⟩ := rx.one_
    obtain ⟨ys, h, p⟩ := p
    obtain ⟨_, vs, rfl, h1, h2⟩ := rm.list r h
    cases rds_ints h2
    exact ⟨_, _, rfl, h1, q _ m _ H (Keep.refl _) rm (.int _) p⟩
  · exact p.elim
def rAllD : RnD := fun xs m P => match xs with | [x] => ∃ ns : List Bool, isL m x (ns.map D.bl) ∧ P (.bl (ns.all id)) m | _ => False
theorem cd_all (hc : X.calm = true) : CallD X (.builtin "all") rAllD := by
  refine ⟨_, cr_all hc, fun H m xs us P Q rm rx p q => ?_⟩
  unfold rAllD at p
  split at p
  · obtain ⟨u, rfl, r⟩ := rx.one_
    obtain ⟨ys, h, p⟩ := p
    obtain ⟨_, vs, rfl, h1, h2⟩ := rm.list r h
    cases rds_bls h2
    exact ⟨_, _, rfl, h1, q _ m _ H (Keep.refl _) rm (.bl _) p⟩
  · exact p.elim
def rAnyD : RnD := fun xs m P => match xs with | [x] => ∃ ns : List Bool, isL m x (ns.map D.bl) ∧ P (.bl (ns.any id)) m | _ => False
theorem cd_any (hc : X.calm = true) : CallD X (.builtin "any") rAnyD := by
  refine ⟨_, cr_any hc, fun H m xs us P Q rm rx p q => ?_⟩
  unfold rAnyD at p
  split at p
  · obtain ⟨u, rfl, r⟩ := rx.one_
    obtain ⟨ys, h, p⟩ := p
    obtain ⟨_, vs, rfl, h1, h2⟩ := rm.list r h
    cases rds_bls h2
    exact ⟨_, _, rfl, h1, q _ m _ H (Keep.refl _) rm (.bl _) p⟩
  · exact p.elim
def rMaxD : RnD := fun xs m P => match xs with
  | [.int i, .int j] => P (.int (if j > i then j else i)) m
  | [x] => ∃ ns : List Int, isL m x (ns.map D.int) ∧ 0 < ns.length ∧ ∀ k, k ∈ ns → (∀ y, y ∈ ns → y ≤ k) → P (.int k) m
  | _ => False
theorem cd_max (hc : X.calm = true) : CallD X (.builtin "max") rMaxD := by
  have h1 : CallD X (.builtin "max") (fun xs m P => ∃ i j, xs = [.int i, .int j] ∧ P (.int (if j > i then j else i)) m) := by
    refine ⟨_, call_max2 hc, fun H m xs us P Q rm rx p q => ?_⟩
    obtain ⟨i, j, rfl, p⟩ := p
    obtain ⟨u, v, rfl, r1, r2⟩ := rx.two_
    cases r1.int_
    cases r2.int_
    exact ⟨i, j, rfl, q _ m _ H (Keep.refl _) rm (.int _) p⟩
  have h2 : CallD X (.builtin "max") (fun xs m P => ∃ x, ∃ ns : List Int, xs = [x] ∧ isL m x (ns.map D.int) ∧ 0 < ns.length ∧ ∀ k, k ∈ ns → (∀ y, y ∈ ns → y ≤ k) → P (.int k) m) := by
    refine ⟨_, cr_max hc, fun H m xs us P Q rm rx p q => ?_⟩
    obtain ⟨a, ns, rfl, h, z, p⟩ := p
    obtain ⟨u, rfl, r⟩ := rx.one_
    obtain ⟨_, vs, rfl, h1, h2⟩ := rm.list r h
    cases rds_ints h2
    exact ⟨_, _, rfl, h1, z, fun k hk hy => q _ m _ H (Keep.refl _) rm (.int _) (p k hk hy)⟩
  refine (h1.or h2).imp fun xs m P p => ?_
  unfold rMaxD at p
  split at p
  · exact .inl ⟨_, _, rfl, p⟩
  · obtain ⟨n, p⟩ := p
    exact .inr ⟨_, n, rfl, p⟩
  · exact p.elim
/-! ### isinstance of a built-in class -/
def tyN (m : M) : D → Option String
  | .non => some "NoneType" | .bl _ => some "bool" | .int _ => some "int" | .str _ => some "str" | .tup _ => some "tuple"
  | .rol _ => some "list"
  | .ref a => match m a with | some (.lst _) => some "list" | _ => none
  | .ty _ => none
  | .btp _ => some "tuple"
def rIsD : RnD := fun xs m P => match xs with | [x, .ty T] => ∃ n b, tyN m x = some n ∧ kitB n T = some b ∧ P (.bl b) m | _ => False
theorem tyX_of {K : PySem.W.Frag} {H : Hp} {m : M} {x : D} {u : V} {n : String} (rm : RM K H m) (r : RD K H x u) (h : tyN m x = some n) : TyX K H u (.type n) := by
  cases x with
  | non => cases r.non_; cases h; exact .base .non
  | bl b => cases r.bl_; cases h; exact .base (.bl b)
  | int b => cases r.int_; cases h; exact .base (.int b)
  | str b => cases r.str_; cases h; exact .base (.str b)
  | tup xs =>
    obtain ⟨a, vs, rfl, h1, h2⟩ := r.tup_
    cases h
    rcases h1 with (h1 | ⟨o, h1⟩) | ⟨o, its, k, h1, h2, _⟩
    · exact .base (.tup h1)
    · exact .fTuple h1
    · exact .kTuple h1 h2
  | ref a =>
    cases r.ref_
    have h : (match m a with | some (.lst _) => some "list" | _ => none) = some n := h
    split at h
    · rename_i e
      cases h
      obtain ⟨vs, e1, _⟩ := rm _ _ e
      exact .base (.lst e1)
    · cases h
  | rol xs =>
    obtain ⟨a, vs, rfl, h1, h2⟩ := r.rol_
    cases h
    rcases h1 with ⟨o, h1⟩ | ⟨o, its, k, h1, h2, _⟩
    · exact .base (.frz h1)
    · exact .kList h1 h2
  | btp xs =>
    obtain ⟨a, vs, rfl, h1, h2⟩ := r.btp_
    cases h
    obtain ⟨its, k, h1⟩ := h1
    exact .fTuple h1
  | ty n => cases h
theorem cd_isi : CallD X (.builtin "isinstance") rIsD := by
  refine ⟨_, call_isi, fun H m xs us P Q rm rx p q => ?_⟩
  unfold rIsD at p
  split at p
  · obtain ⟨u, v, rfl, r1, r2⟩ := rx.two_
    cases r2.ty_
    obtain ⟨n, b, h1, h2, p⟩ := p
    exact ⟨_, _, _, _, b, rfl, .ty _, tyX_of rm r1 h1, kit_ty h2, q _ m _ H (Keep.refl _) rm (.bl _) p⟩
  · exact p.elim
/-! ### methods of built-in types -/
abbrev RmD := D → List D → M → DK → Prop
structure MethD (X : Cx) (T id : String) (ty : D → M → Prop) (r' : RmD) : Prop where
  ex : ∃ r, MtR X id r ∧ (∀ H m x u, RM X.K H m → RD X.K H x u → ty x m → tyV X.K T u H) ∧ ∀ H m x u xs us P Q, RM X.K H m → RD X.K H x u → RDs X.K H xs us → r' x xs m P → Wants X.K H P Q → r u us H Q
def dBM (ty : D → M → Prop) (r : RmD) (to : TDE) (t : TDA) : TDE := fun sd m P => to sd m fun x m1 => ty x m1 ∧ t sd m1 fun xs m2 => r x xs m2 P
theorem qe_bm {T id : String} {name : Str} {o e : Expr} {es : List Expr} {apos cpos : Pos} {ty : D → M → Prop} {r : RmD} {to : TDE} {t : TDA} (hm : MethD X T id ty r) (pa : PlainAttrs T) (slot : Slot T name id) (hty : typeOf (.builtin id) = pure (.type "method_descriptor")) (ho : PE X o (lE X.K H0 to)) (ha : PA X (e :: es) (lA X.K H0 t))
    (hbase : attributeBase o name X.env (eval o X.env) = eval o X.env := by rfl)
    (hfew : ((backTo cpos (starEach (e :: es) X.env)).all (fun x => !x.1) && (backToKw cpos (keywordEach [] X.env)).all (fun x => x.1.isSome)
      && decide ((e :: es).length + ([] : List Keyword).length + (if ([] : List Keyword).isEmpty then 0 else 1) < 30)) = true := by rfl)
    (hline : (apos.endLine == cpos.line) = true := by rfl) (hs : starEach (e :: es) X.env = (false, eval e X.env) :: starEach es X.env := by rfl) (hplain : (backTo cpos (starEach es X.env)).any (·.1) = false := by rfl) :
    PE X (.Call (.Attribute o name apos) (e :: es) [] cpos) (lE X.K H0 (dBM ty r to t)) := by
  obtain ⟨r1, h1, h2, h3⟩ := hm.ex
  refine peL (pe_bm pa slot hty h1 ho ha hbase hfew hline hs hplain) fun σ H Q h => ?_
  obtain ⟨sd, m, P, a, p, q⟩ := h
  refine ⟨sd, m, _, a, p, fun x m1 u H1 k1 r1 d1 p1 => ⟨h2 H1 m1 x u r1 d1 p1.1, ?_⟩⟩
  exact ⟨sd, m1, _, a.to k1 r1, p1.2, fun xs m2 us H2 k2 r2 d2 p2 => h3 H2 m2 x u xs us P Q r2 (d1.mono k2) d2 p2 fun d m' w H' k => q d m' w H' ((k1.trans k2).trans k)⟩
def isLst (x : D) (m : M) : Prop := match x with | .ref a => ∃ xs, m a = some (.lst xs) | _ => False
def rApp : RmD := fun x ys m P => match x, ys with | .ref a, [y] => ∃ xs, m a = some (.lst xs) ∧ xs.length < sizeLine ∧ P .non (put m a (.lst (xs ++ [y]))) | _, _ => False
theorem md_append : MethD X "list" "list.append" isLst rApp := by
  refine ⟨_, mt_append, fun H m x u rm rx h => ?_, fun H m x u xs us P Q rm rx rs p q => ?_⟩
  · unfold isLst at h
    split at h
    · cases rx.ref_
      obtain ⟨xs, h⟩ := h
      obtain ⟨vs, e, _⟩ := rm _ _ h
      exact .inl ⟨rfl, _, .inl (.inl e)⟩
    · exact h.elim
  · unfold rApp at p
    split at p
    · cases rx.ref_
      obtain ⟨w, rfl, r⟩ := rs.one_
      obtain ⟨xs, h, z, p⟩ := p
      obtain ⟨vs, e, rr⟩ := rm _ _ h
      exact ⟨_, vs, w, rfl, rfl, e, by rw [← rr.length]; exact z, q _ _ _ _ (Keep.lst e) (rm.setPut e (rr.append (.cons r .nil))) .non p⟩
    · exact p.elim
/-! ### slices -/
abbrev TDO := DS → M → (Option Int → M → Prop) → Prop
def lO (K : PySem.W.Frag) (H0 : Hp) (t : TDO) : TO := fun σ H Q => ∃ sd m P, At K H0 sd m σ H ∧ t sd m P ∧ ∀ o m' H', Keep K H H' → RM K H' m' → P o m' → Q o H'
def dNoPart : TDO := fun _ m P => P none m
def dPart (t : TDE) : TDO := fun sd m P => t sd m fun x m1 => match x with | .int i => P (some i) m1 | _ => False
theorem poL {e : Option Expr} {t t' : TO} (h : PO X e t) (i : ∀ σ H Q, t' σ H Q → t σ H Q) : PO X e t' := ⟨fun pins s σ H Q I ht => h.run pins s σ H Q I (i _ _ _ ht)⟩
theorem qo_none : PO X none (lO X.K H0 dNoPart) := poL po_none fun σ H Q h => by
  obtain ⟨sd, m, P, a, p, q⟩ := h
  exact q none m H (Keep.refl _) a.m p
theorem qo_some {e : Expr} {t : TDE} (h : PE X e (lE X.K H0 t)) : PO X (some e) (lO X.K H0 (dPart t)) := poL (po_some h) fun σ H Q h => by
  obtain ⟨sd, m, P, a, p, q⟩ := h
  refine ⟨sd, m, _, a, p, fun d m' v H' k r rd p' => ?_⟩
  cases d with
  | int i => cases rd.int_; exact ⟨i, rfl, q _ m' H' k r p'⟩
  | _ => exact p'.elim
def cutL {α : Type} (xs : List α) (lo hi : Option Int) : List α := (xs.drop (HT.sIx xs.length 0 lo)).take (HT.sIx xs.length xs.length hi - HT.sIx xs.length 0 lo)
def rSlD (x : D) (l u : Option Int) (m : M) (P : DK) : Prop := match x with
  | .tup xs => P (.tup (cutL xs l u)) m
  | .str z => z.length ≤ sizeLine ∧ P (.str (cutS z l u)) m
  | x => ∃ xs, isL m x xs ∧ ∀ p, m p = none → P (.ref p) (put m p (.lst (cutL xs l u)))
def dSl (t : TDE) (tl th : TDO) : TDE := fun sd m P => t sd m fun x m1 => tl sd m1 fun l m2 => th sd m2 fun u m3 => rSlD x l u m3 P
theorem RDs.cut {K : PySem.W.Frag} {H : Hp} {xs : List D} {vs : List V} (r : RDs K H xs vs) (lo hi : Option Int) : RDs K H (cutL xs lo hi) (cutV vs lo hi) := by
  unfold cutL cutV
  rw [← r.length]
  exact (r.drop _).take _
theorem qe_slice {e : Expr} {lo hi : Option Expr} {p2 pos : Pos} {t : TDE} {tl th : TDO} (he : PE X e (lE X.K H0 t)) (hl : PO X lo (lO X.K H0 tl)) (hu : PO X hi (lO X.K H0 th)) : PE X (.Subscript e (.Slice lo hi none p2) pos) (lE X.K H0 (dSl t tl th)) :=
  peL (pe_slice (sl_tupA.or (sl_str.or sl_list)) he hl hu) fun σ H Q h => by
    obtain ⟨sd, m, P, a, p, q⟩ := h
    refine ⟨sd, m, _, a, p, fun x m1 u H1 k1 r1 d1 p1 => ⟨sd, m1, _, a.to k1 r1, p1, fun l m2 H2 k2 r2 p2 => ⟨sd, m2, _, a.to (k1.trans k2) r2, p2, fun o m3 H3 k3 r3 p3 => ?_⟩⟩⟩
    have k : Keep X.K H H3 := (k1.trans k2).trans k3
    have d3 := d1.mono (k2.trans k3)
    unfold rSlD at p3
    split at p3
    · rename_i xs
      obtain ⟨b, vs, rfl, h1, h2⟩ := d3.tup_
      refine .inl ⟨b, vs, rfl, h1, fun e => ?_, fun e z hz => ?_⟩
      · refine q _ m3 _ H3 k r3 ?_ p3
        refine .tup h1 ?_
        have e' : cutL xs l o = xs := by
          unfold cutL
          rw [h2.length, e.1, e.2, List.drop_zero, Nat.sub_zero, ← h2.length]
          exact List.take_length
        rw [e']
        exact h2
      · exact q _ m3 _ _ (k.trans (Keep.new hz)) (r3.new hz) (.tup (.inl (.inl upd_same)) ((h2.cut l o).mono (Keep.new hz))) p3
    · cases d3.str_
      exact .inr (.inl ⟨_, rfl, p3.1, q _ m3 _ H3 k r3 (.str _) p3.2⟩)
    · obtain ⟨xs, h, p3⟩ := p3
      obtain ⟨_, vs, rfl, h1, h2⟩ := r3.list d3 h
      exact .inr (.inr ⟨_, vs, rfl, h1, fun z hz => q _ _ _ _ (k.trans (Keep.new hz)) (r3.newPut hz (h2.cut l o)) (.ref z) (p3 z (r3.free hz))⟩)
end
end Q4

set_option Elab.async false
set_option linter.all false
set_option maxRecDepth 100000
namespace Q4
open PySem L2
open PyProof.Rows (envOfC)
def Ret (P : DK) : DK := fun d m => ∃ m', Less m' m ∧ P d m'
abbrev DSp := List D → M → DK → DXK → Prop
def XRel (K : PySem.W.Frag) (H : Hp) : Option (List (Str × D)) → Option Addr → Prop
  | none, none => True
  | some fs, some d => ∃ gs, H d = some (.xd gs) ∧ RDs K H (fs.map (·.2)) (gs.map (·.2)) ∧ fs.map (·.1) = gs.map (·.1)
  | _, _ => False
def WantsX (K : PySem.W.Frag) (H : Hp) (EX : DXK) (E : XK) : Prop := ∀ c fo m' od H', Keep K H H' → RM K H' m' → XRel K H' fo od → EX c fo m' → E c od H'
def noX : DXK := fun _ _ _ => False
def lSp (K : PySem.W.Frag) (d : DSp) : Sp := fun vs H Q E => ∃ ds m P EX, RDs K H ds vs ∧ RM K H m ∧ d ds m P EX ∧ Wants K H P Q ∧ WantsX K H EX E
theorem wantsX0 {K : PySem.W.Frag} {H : Hp} {E : XK} : WantsX K H noX E := fun _ _ _ _ _ _ _ _ h => h.elim
section
variable {X : Cx} {H0 : Hp}
/-! ### calls of defs that raise nothing -/
def dCall (d : DSp) (t : TDA) : TDE := fun sd m P => t sd m fun xs m1 => d xs m1 P noX
theorem l_call {K : PySem.W.Frag} {d : DSp} {E : XK} {t : TDA} {σ : St} {H : Hp} {Q : VK} (h : lE K H0 (dCall d t) σ H Q) : tCall (lSp K d) [] E (lA K H0 t) σ H Q := by
  obtain ⟨sd, m, P, a, p, q⟩ := h
  refine ⟨sd, m, _, a, p, fun xs m1 us H1 k1 r1 d1 p1 => ?_⟩
  show lSp K d (us ++ []) H1 Q E
  rw [List.append_nil]
  exact ⟨xs, m1, P, noX, d1, r1, p1, fun d m' w H' k => q d m' w H' (k1.trans k), wantsX0⟩
theorem qe_call {CX : CXT} {k : Nat} {f : Addr} {fd : FuncData} {ps : List Str} {d : DSp} {E : XK} {x : Str} {p pos : Pos} {e : Expr} {es : List Expr} {t : TDA} (F : FnOk X.prog X.w X.K X.mg X.base CX k f fd ps (lSp X.K d)) (hr : Room k X.A) (hg : Gl X x) (hm : X.mg x = some (.ref f)) (hk : PySem.W.keepIn X.K (.ref f) = true) (hb : Binds X.K fd ps []) (hx : Passes CX X E)
    (ha : PA X (e :: es) (lA X.K H0 t)) (hdb : (x == ("__debug__" : Str)) = false := by decide) (he : starEach (e :: es) X.env = (false, eval e X.env) :: starEach es X.env := by rfl) (hpl : (backTo pos (starEach es X.env)).any (·.1) = false := by rfl) :
    PE X (.Call (.Name x p) (e :: es) [] pos) (lE X.K H0 (dCall d t)) := peL (pe_call F hr hg hm hk hb .nil hx ha hdb he hpl) fun _ _ _ => l_call
theorem qe_call0 {CX : CXT} {k : Nat} {f : Addr} {fd : FuncData} {ps : List Str} {d : DSp} {E : XK} {x : Str} {p pos : Pos} (F : FnOk X.prog X.w X.K X.mg X.base CX k f fd ps (lSp X.K d)) (hr : Room k X.A) (hg : Gl X x) (hm : X.mg x = some (.ref f)) (hk : PySem.W.keepIn X.K (.ref f) = true) (hb : Binds X.K fd ps []) (hx : Passes CX X E)
    (hdb : (x == ("__debug__" : Str)) = false := by decide) : PE X (.Call (.Name x p) [] [] pos) (lE X.K H0 (dCall d dNil)) := peL (pe_call0 F hr hg hm hk hb .nil hx hdb) fun σ H Q h => by
  have h' := l_call (K := X.K) (E := E) h
  obtain ⟨sd, m, P, a, p, q⟩ := h
  exact ⟨[], m, P, noX, .nil, a.m, p, q, wantsX0⟩
/-! ### a def -/
def dstart (N : List Str) (ds : List D) : DS := ds.map some ++ List.replicate (N.length - ds.length) none
theorem Fun.okD {P : Program} {w : World} {K : PySem.W.Frag} {mg : Str → Option Value} {base : Heap} {x qual : Str} {st : Stmt} {f : Addr} {fd : FuncData} {N ps : List Str} {k : Nat} {d : DSp} (F : Fun K x qual st f fd) (S : FnScope N ps (defScope st)) (len : ∀ ds m P EX, d ds m P EX → ds.length = ps.length)
    (t : TDS) (hread : ∀ ds m P EX, d ds m P EX → t { nx := fun _ m' => Ret P .non m', rt := Ret P } (dstart N ds) m)
    (hbody : ∀ (cdv : Value) (A : Around) (outer : List Env) (s : Shared) (H : Hp) (E : XK), Room k (A.deeper (envOfC qual (defScope st) s.heap.objs.size f cdv)) → PSs (cxOf CX0 P w K mg base N qual (defScope st) f cdv A outer s H E).nox (defBody st) (lS K H t)) :
    FnOk P w K mg base CX0 (k + 1) f fd ps (lSp K d) := by
  refine F.ok S (fun vs H Q E h => ?_) (fun cdv A outer s H vs Q E hr h => ?_)
  · obtain ⟨ds, m, P, EX, r, _, h, _⟩ := h
    rw [← r.length]
    exact len _ _ _ _ h
  · obtain ⟨ds, m, P', EX, r, rm, h, q, _⟩ := h
    refine ⟨_, hbody cdv A outer s H E hr, dstart N ds, m, _, ⟨RS.start r, rm, Keep.refl _⟩, hread ds m P' EX h, ?_, ?_, ?_, ?_⟩
    · rintro sd' m' σ' H' k s r ⟨m2, l, p⟩
      exact q _ m2 _ H' k (r.less l) .non p
    · rintro d m' v H' k r rd ⟨m2, l, p⟩
      exact q _ m2 _ H' k (r.less l) rd p
    · exact fun _ _ _ _ _ _ _ h => h
    · exact fun _ _ _ _ _ _ _ h => h
/-! ### comprehensions -/
def dYes : TDT := fun _ m P => P true m
theorem qts_nil : PTs X [] (lT X.K H0 dYes) := ⟨fun pins s σ H Q I h => pts_nil.run pins s σ H Q I (by
  obtain ⟨sd, m, P, a, p, q⟩ := h
  exact q true m H (Keep.refl _) a.m p)⟩
theorem qts_one {c : Expr} {t : TDT} (h : PT X c (lT X.K H0 t)) : PTs X [c] (lT X.K H0 t) := pts_one h
def wipeD (sd : DS) : List Nat → DS
  | [] => sd
  | v :: vs => (wipeD sd vs).set v none
theorem RS.wipe {K : PySem.W.Frag} {H : Hp} {sd : DS} {σ : St} (r : RS K H sd σ) : ∀ vs : List Nat, RS K H (wipeD sd vs) (L2.wipe σ vs)
  | [] => r
  | v :: vs => by
    have ih := r.wipe vs
    unfold wipeD L2.wipe
    refine ⟨by rw [List.length_set, List.length_set, ih.len], fun j d e => ?_⟩
    by_cases hj : v = j
    · subst hj
      rw [List.getElem?_set] at e
      simp at e
    · rw [List.getElem?_set_ne hj] at e ⊢
      exact ih.get j d e
/-- [e for g in wi if tt]: the new list's items so far are acc -/
def dLc (wi : TDI) (g : TDG) (tt : TDT) (te : TDE) (vs : List Nat) : TDE := fun sd m P => wi sd m fun J m1 => ∀ p, m1 p = none → ∃ (N : Nat) (W : Nat → List D → M → Prop), W 0 [] m1 ∧ ∀ i acc m2, W i acc m2 → i ≤ N ∧ ∃ o, J i (put m2 p (.lst acc)) o ∧ match o with
  | none => P (.ref p) (put m2 p (.lst acc))
  | some x => g x (wipeD sd vs) (put m2 p (.lst acc)) fun sd2 m3 => tt sd2 m3 fun b m4 =>
    if b = true then te sd2 m4 fun y m5 => ∃ m6, Less (put m6 p (.lst acc)) m5 ∧ acc.length < sizeLine ∧ W (i + 1) (acc ++ [y]) m6 else ∃ m6, Less (put m6 p (.lst acc)) m4 ∧ W (i + 1) acc m6
theorem lc_core {K : PySem.W.Frag} {g : TDG} {tt : TDT} {te : TDE} {vs : List Nat} {J : DIt} {J' : It} {H H1 : Hp} {sd : DS} {m1 : M} {σ : St} {P : DK} {Q : VK} (k0 : Keep K H0 H) (k1 : Keep K H H1) (s0 : RS K H sd σ) (r1 : RM K H1 m1) (l1 : LiftIt K H1 J J')
    (q : ∀ d m' v H', Keep K H H' → RM K H' m' → RD K H' d v → P d m' → Q v H') {D : Addr} (hD : H1 D = none)
    (p : ∃ (N : Nat) (W : Nat → List Q4.D → M → Prop), W 0 [] m1 ∧ ∀ i acc m2, W i acc m2 → i ≤ N ∧ ∃ o, J i (put m2 D (.lst acc)) o ∧ match o with
      | none => P (.ref D) (put m2 D (.lst acc))
      | some x => g x (wipeD sd vs) (put m2 D (.lst acc)) fun sd2 m3 => tt sd2 m3 fun b m4 =>
        if b = true then te sd2 m4 fun y m5 => ∃ m6, Less (put m6 D (.lst acc)) m5 ∧ acc.length < sizeLine ∧ W (i + 1) (acc ++ [y]) m6 else ∃ m6, Less (put m6 D (.lst acc)) m4 ∧ W (i + 1) acc m6) :
    ∃ W : Nat → Nat → Hp → Prop, (∃ m, W 0 m (upd H1 D (.lst []))) ∧ ∀ i m H, W i m H →
      (J'.stop i H ∧ Q (.ref D) H) ∨ (J'.go i H ∧ ∃ Nx : Hp → Prop, (∀ H', Nx H' → ∃ m', m' < m ∧ W (i + 1) m' H') ∧ ∀ x H', J'.yld i H x H' → lG K H0 vs g x (L2.wipe σ vs) H' fun σ2 H2 => L2.wipe σ2 vs = L2.wipe σ vs ∧ lT K H0 tt σ2 H2 fun b H3 =>
        if b = true then lE K H0 te σ2 H3 fun y H4 => ∃ acc, H4 D = some (.lst acc) ∧ acc.length < sizeLine ∧ Nx (upd H4 D (.lst (acc ++ [y]))) else Nx H3) := by
  obtain ⟨N, W, w0, turn⟩ := p
  refine ⟨fun i n H' => n = N - i ∧ ∃ acc m', Keep K H1 H' ∧ RM K H' (put m' D (.lst acc)) ∧ W i acc m', ⟨N, rfl, [], m1, Keep.new hD, r1.newPut hD .nil, w0⟩, ?_⟩
  rintro i n H2 ⟨rfl, acc, m2, k2, r2, w2⟩
  obtain ⟨hi, o, jo, rest⟩ := turn i acc m2 w2
  have L := l1 H2 k2 i _ r2 o jo
  cases o with
  | none => exact .inl ⟨L, q _ _ _ H2 (k1.trans k2) r2 (.ref D) rest⟩
  | some x =>
    refine .inr ⟨L.1, fun H3 => ∃ acc m', Keep K H1 H3 ∧ RM K H3 (put m' D (.lst acc)) ∧ W (i + 1) acc m', ?_, fun v H3 y => ?_⟩
    · rintro H3 ⟨acc3, m3, k3, r3, w3⟩
      have := (turn (i + 1) acc3 m3 w3).1
      exact ⟨N - (i + 1), by omega, rfl, acc3, m3, k3, r3, w3⟩
    · obtain ⟨k3, r3, d3⟩ := L.2 v H3 y
      have K3 : Keep K H H3 := k1.trans (k2.trans k3)
      refine ⟨x, wipeD sd vs, _, _, ⟨(s0.mono K3).wipe vs, r3, k0.trans K3⟩, d3, rest, fun sd4 m4 σ4 H4 k4 s4 r4 hw p4 => ⟨hw.trans wipe_wipe, ?_⟩⟩
      have K4 : Keep K H H4 := K3.trans k4
      refine ⟨sd4, m4, _, ⟨s4, r4, k0.trans K4⟩, p4, fun b m5 H5 k5 r5 p5 => ?_⟩
      have K5 : Keep K H1 H5 := (k2.trans k3).trans (k4.trans k5)
      cases b with
      | true =>
        refine ⟨sd4, m5, _, ⟨s4.mono k5, r5, k0.trans (K4.trans k5)⟩, p5, fun z m6 w H6 k6 r6 d6 p6 => ?_⟩
        obtain ⟨m7, hl7, hz, w7⟩ := p6
        have r6 := r6.less hl7
        obtain ⟨us, e1, rr⟩ := r6 D _ put_same
        refine ⟨us, e1, by rw [← rr.length]; exact hz, acc ++ [z], m7, (K5.trans k6).trans (Keep.lst e1), ?_, w7⟩
        have := r6.setPut e1 (rr.append (.cons d6 .nil))
        rw [put_put] at this
        exact this
      | false =>
        obtain ⟨m7, hl7, w7⟩ := p5
        exact ⟨acc, m7, K5, r5.less hl7, w7⟩
theorem l_lc {K : PySem.W.Frag} {wi : TDI} {g : TDG} {tt : TDT} {te : TDE} {vs : List Nat} {σ : St} {H : Hp} {Q : VK} (h : lE K H0 (dLc wi g tt te vs) σ H Q) : tLc (lI K H0 wi) (lG K H0 vs g) (lT K H0 tt) (lE K H0 te) vs σ H Q := by
  obtain ⟨sd, m, P, a, p, q⟩ := h
  exact ⟨sd, m, _, a, p, fun J m1 J' H1 k1 r1 l1 p1 D hD => lc_core a.k k1 a.s r1 l1 q hD (p1 D (r1.free hD))⟩
theorem qe_lc {elt tg iter : Expr} {ifs : List Expr} {scope : Scope} {own : List (Str × Nat)} {pos : Pos} {wi : TDI} {g : TDG} {tt : TDT} {te : TDE} (hc : X.calm = true) (hN : X.N.Nodup) (hi : PI X tg iter (lI X.K H0 wi)) (ok : BlkOk X.N X.env.scope scope own)
    (hg : ∀ (s : Shared) (H : Hp) (C : Addr) (cl : List (Str × Addr)) (fp : List Addr), PG (X.blk s H scope (compEnvC scope cl C X.env) fp) tg (lG X.K H0 (own.map (·.2)) g)) (ht : ∀ (s : Shared) (H : Hp) (C : Addr) (cl : List (Str × Addr)) (fp : List Addr), PTs (X.blk s H scope (compEnvC scope cl C X.env) fp) ifs (lT X.K H0 tt))
    (he : ∀ (s : Shared) (H : Hp) (C : Addr) (cl : List (Str × Addr)) (fp : List Addr), PE (X.blk s H scope (compEnvC scope cl C X.env) fp) elt (lE X.K H0 te)) (hs : ∀ x, foldedSetIterable iter X.env x = pure x := by intro _; rfl) :
    PE X (.ListComp elt [⟨tg, iter, ifs, 0⟩] scope pos) (lE X.K H0 (dLc wi g tt te (own.map (·.2)))) := peL (pe_lc hc hN hi ok hg ht he hs) fun _ _ _ => l_lc
theorem qs_setLc {i : Nat} {y : Str} {py : Pos} {elt tg iter : Expr} {ifs : List Expr} {scope : Scope} {own : List (Str × Nat)} {pos spos : Pos} {wi : TDI} {g : TDG} {tt : TDT} {te : TDE} (hc : X.calm = true) (hN : X.N.Nodup) (hy : X.N[i]? = some y) (hyl : X.env.scope.names.lookup y = some .local)
    (hsw : swapsWith (.ListComp elt [⟨tg, iter, ifs, 0⟩] scope pos) (some (.Name y py)) spos.line X.env = pure true) (hi : PI X tg iter (lI X.K H0 wi)) (ok : BlkOk X.N X.env.scope scope own)
    (hg : ∀ (s : Shared) (H : Hp) (C : Addr) (cl : List (Str × Addr)) (fp : List Addr), PG (X.blk s H scope (compEnvC scope cl C X.env) fp) tg (lG X.K H0 (own.map (·.2)) g)) (ht : ∀ (s : Shared) (H : Hp) (C : Addr) (cl : List (Str × Addr)) (fp : List Addr), PTs (X.blk s H scope (compEnvC scope cl C X.env) fp) ifs (lT X.K H0 tt))
    (he : ∀ (s : Shared) (H : Hp) (C : Addr) (cl : List (Str × Addr)) (fp : List Addr), PE (X.blk s H scope (compEnvC scope cl C X.env) fp) elt (lE X.K H0 te)) (hs : ∀ x, foldedSetIterable iter X.env x = pure x := by intro _; rfl) :
    PS X (.Assign [.Name y py] (.ListComp elt [⟨tg, iter, ifs, 0⟩] scope pos) spos) (lS X.K H0 (dAsg (dLc wi g tt te (own.map (·.2))) (dName i))) := psL (ps_setLc hc hN hy hyl hsw hi ok hg ht he hs) fun D σ H h => by
  obtain ⟨sd, m, DD, a, p, q⟩ := h
  refine l_lc (K := X.K) (H0 := H0) ⟨sd, m, _, a, p, fun d m' v H' k r rd p' => q.1 _ m' _ H' k ((a.s.mono k).set i rd) r p'⟩
end
end Q4

set_option Elab.async false
set_option linter.all false
set_option maxRecDepth 100000
namespace Q4
open PySem L2
section
variable {sd : DS} {m m1 : M} {P : DK} {D' : DEnds} {t u : TDS} {ta tb te : TDE} {tt : TDT} {d x y : D}
/-! ### steps: statements -/
theorem s_seq (h : t { D' with nx := u D' } sd m) : dSeq t u D' sd m := ⟨u D', h, fun _ _ h => ⟨_, Less.refl _, h⟩⟩
/-- ways that meet: what holds where they meet -/
theorem s_cut (J : DS → M → Prop) (h : t { D' with nx := Fg J } sd m) (hJ : ∀ sd' m', J sd' m' → u D' sd' m') : dSeq t u D' sd m := ⟨Fg J, h, fun sd' m' ⟨m2, hl, j⟩ => ⟨m2, hl, hJ sd' m2 j⟩⟩
theorem s_seqA {g : TDG} (h : ta sd m fun x m1 => g x sd m1 (u D')) : dSeq (dAsg ta g) u D' sd m := s_seq h
theorem s_seqD (h : ta sd m fun _ m1 => u D' sd m1) : dSeq (dDrop ta) u D' sd m := s_seq h
theorem s_seqIR (h : tt sd m fun b m1 => if b = true then dRet ta { D' with nx := u D' } sd m1 else u D' sd m1) : dSeq (dIf tt (dRet ta) dNext) u D' sd m := s_seq h
theorem s_seqIS {v : TDS} (h : tt sd m fun b m1 => if b = true then dSeq v (dRet ta) { D' with nx := u D' } sd m1 else u D' sd m1) : dSeq (dIf tt (dSeq v (dRet ta)) dNext) u D' sd m := s_seq h
theorem s_seqISS {v w : TDS} (h : tt sd m fun b m1 => if b = true then dSeq v (dSeq w (dRet ta)) { D' with nx := u D' } sd m1 else u D' sd m1) : dSeq (dIf tt (dSeq v (dSeq w (dRet ta))) dNext) u D' sd m := s_seq h
theorem s_seqIRC {k : List D} (h : tt sd m fun b m1 => if b = true then dRet ta { D' with nx := u D' } sd m1 else u D' sd m1) : dSeq (dIf tt (dRet ta) dNext) u D' sd m := s_seq h
theorem s_aug {i : Nat} {r : R2D} (h1 : sd[i]? = some (some x)) (h : ta sd m fun y m1 => r x y m1 fun z m2 => D'.nx (sd.set i (some z)) m2) : dAug i ta r D' sd m := ⟨x, h1, h⟩
theorem s_dNext (h : D'.nx sd m) : dNext D' sd m := h
theorem s_next (h : D'.nx sd m) : dNext D' sd m := h
theorem s_asg {g : TDG} (h : ta sd m fun x m1 => g x sd m1 D'.nx) : dAsg ta g D' sd m := h
theorem s_if (h : tt sd m fun b m1 => if b = true then t D' sd m1 else u D' sd m1) : dIf tt t u D' sd m := h
theorem s_ret (h : ta sd m D'.rt) : dRet ta D' sd m := h
theorem s_drop (h : ta sd m fun _ m1 => D'.nx sd m1) : dDrop ta D' sd m := h
theorem s_for {wi : TDI} {g : TDG} (h : wi sd m fun J m1 => ∃ (N : Nat) (W : Nat → DS → M → Prop), W 0 sd m1 ∧ ∀ i sd m, W i sd m → i ≤ N ∧ ∃ o, J i m o ∧ match o with
  | none => D'.nx sd m
  | some x => g x sd m fun sd2 m2 => t { D' with nx := Fg (W (i + 1)), ct := Fg (W (i + 1)), bk := D'.nx } sd2 m2) : dFor wi g t D' sd m := h
theorem s_name {i : Nat} {Q : DS → M → Prop} (h : Q (sd.set i (some d)) m) : dName i d sd m Q := h
/-! ### expressions -/
theorem s_var {i : Nat} (h : sd[i]? = some (some d)) (q : P d m) : dVar i sd m P := ⟨d, h, q⟩
theorem s_c (q : P d m) : dC d sd m P := q
theorem s_op {r : R2D} (h : ta sd m fun x m1 => tb sd m1 fun y m2 => r x y m2 P) : dOp r ta tb sd m P := h
theorem s_cb {r : RnD} {t : TDA} (h : t sd m fun xs m1 => r xs m1 P) : dCB r t sd m P := h
theorem s_call {r : DSp} {t : TDA} (h : t sd m fun xs m1 => r xs m1 P noX) : dCall r t sd m P := h
theorem s_nil {Q : List D → M → Prop} (h : Q [] m) : dNil sd m Q := h
theorem s_cons {t : TDA} {Q : List D → M → Prop} (h : ta sd m fun x m1 => t sd m1 fun xs m2 => Q (x :: xs) m2) : dCons ta t sd m Q := h
theorem s_tup {t : TDA} (h : t sd m fun xs m1 => xs.length ≤ sizeLine ∧ P (.tup xs) m1) : dTup t sd m P := h
theorem s_lst {t : TDA} (h : t sd m fun xs m1 => xs.length ≤ sizeLine ∧ ∀ p, m1 p = none → P (.ref p) (put m1 p (.lst xs))) : dLst t sd m P := h
theorem s_ifE (h : tt sd m fun c m1 => if c = true then ta sd m1 P else tb sd m1 P) : dIfE tt ta tb sd m P := h
theorem s_andV (h : ta sd m fun x m1 => match x with | .bl c => if c = true then tb sd m1 P else P (.bl false) m1 | _ => False) : dAndV ta tb sd m P := h
theorem s_orV (h : ta sd m fun x m1 => match x with | .bl c => if c = true then P (.bl true) m1 else tb sd m1 P | _ => False) : dOrV ta tb sd m P := h
theorem s_notV (h : ta sd m fun x m1 => match x with | .bl c => P (.bl (!c)) m1 | _ => False) : dNotV ta sd m P := h
theorem s_bm {ty : D → M → Prop} {r : RmD} {t : TDA} (h : ta sd m fun x m1 => ty x m1 ∧ t sd m1 fun xs m2 => r x xs m2 P) : dBM ty r ta t sd m P := h
theorem s_sl {tl th : TDO} (h : ta sd m fun x m1 => tl sd m1 fun l m2 => th sd m2 fun u m3 => rSlD x l u m3 P) : dSl ta tl th sd m P := h
theorem r_slT {xs : List D} {l u : Option Int} (q : P (.tup (cutL xs l u)) m) : rSlD (.tup xs) l u m P := q
theorem r_slS {z : Str} {l u : Option Int} (h : z.length ≤ sizeLine) (q : P (.str (cutS z l u)) m) : rSlD (.str z) l u m P := ⟨h, q⟩
theorem r_slL {a : Addr} {xs : List D} {l u : Option Int} (h : m a = some (.lst xs)) (q : ∀ p, m p = none → P (.ref p) (put m p (.lst (cutL xs l u)))) : rSlD (.ref a) l u m P := ⟨xs, h, q⟩
theorem r_slR {xs : List D} {l u : Option Int} (q : ∀ p, m p = none → P (.ref p) (put m p (.lst (cutL xs l u)))) : rSlD (.rol xs) l u m P := ⟨xs, rfl, q⟩
theorem s_opn {Q : Option Int → M → Prop} (h : Q none m) : dNoPart sd m Q := h
theorem s_ops {Q : Option Int → M → Prop} (h : ta sd m fun x m1 => match x with | .int i => Q (some i) m1 | _ => False) : dPart ta sd m Q := h
/-! ### tests -/
section
variable {Q : Bool → M → Prop} {t1 t2 : TDT}
theorem s_B (h : ta sd m fun x m1 => match x with | .bl b => Q b m1 | _ => False) : dB ta sd m Q := h
theorem s_and (h : t1 sd m fun c m1 => if c = true then t2 sd m1 Q else Q false m1) : dAnd t1 t2 sd m Q := h
theorem s_or (h : t1 sd m fun c m1 => if c = true then Q true m1 else t2 sd m1 Q) : dOr t1 t2 sd m Q := h
theorem s_not (h : t1 sd m fun c m1 => Q (!c) m1) : dNot t1 sd m Q := h
theorem s_tru (h : ta sd m fun x m1 => truD x m1 Q) : dTru ta sd m Q := h
theorem s_yes (h : Q true m) : dYes sd m Q := h
theorem s_truB {b : Bool} (h : Q b m) : truD (.bl b) m Q := h
theorem s_truT {xs : List D} (h : Q (!xs.isEmpty) m) : truD (.tup xs) m Q := h
end
theorem s_chain {r r' : R2D} {tc : TDE} (h : ta sd m fun x m1 => tb sd m1 fun y m2 => r x y m2 fun z m3 => match z with
  | .bl k => if k = true then tc sd m3 fun w m4 => r' y w m4 P else P (.bl false) m3
  | _ => False) : dChain r r' ta tb tc sd m P := h
/-! ### operators on known values -/
section
variable {i j : Int} {a b : Addr} {xs ys : List D} {z w : Str}
theorem r_I {C : Int → Int → Prop} {g : Int → Int → D} (c : C i j) (q : P (g i j) m) : rI2 C g (.int i) (.int j) m P := ⟨c, q⟩
theorem r_addI (q : P (.int (i + j)) m) : rAdd (.int i) (.int j) m P := q
theorem r_addS (h : z.length + w.length ≤ sizeLine) (q : P (.str (z ++ w)) m) : rAdd (.str z) (.str w) m P := ⟨h, q⟩
theorem r_addT (h : xs.length + ys.length ≤ sizeLine) (q : P (.tup (xs ++ ys)) m) : rAdd (.tup xs) (.tup ys) m P := ⟨h, q⟩
theorem r_addL (h1 : m a = some (.lst xs)) (h2 : m b = some (.lst ys)) (h : xs.length + ys.length ≤ sizeLine) (q : ∀ p, m p = none → P (.ref p) (put m p (.lst (xs ++ ys)))) : rAdd (.ref a) (.ref b) m P := ⟨xs, ys, h1, h2, h, q⟩
theorem r_sub (q : P (.int (i - j)) m) : rSub (.int i) (.int j) m P := ⟨trivial, q⟩
theorem r_mul (c : CMul i j) (q : P (.int (i * j)) m) : rMul (.int i) (.int j) m P := ⟨c, q⟩
theorem r_mod (c : 0 < j) (q : P (.int (i % j)) m) : rMod (.int i) (.int j) m P := ⟨c, q⟩
theorem r_fdiv (c : CDivW i j) (q : P (.int (i / j)) m) : rFdiv (.int i) (.int j) m P := ⟨c, q⟩
theorem r_pow (c : CPow i j) (q : P (.int (i ^ j.toNat)) m) : rPow (.int i) (.int j) m P := ⟨c, q⟩
theorem r_lt (q : P (.bl (decide (i < j))) m) : rLtD (.int i) (.int j) m P := ⟨trivial, q⟩
theorem r_le (q : P (.bl (decide (i ≤ j))) m) : rLeD (.int i) (.int j) m P := ⟨trivial, q⟩
theorem r_gt (q : P (.bl (decide (j < i))) m) : rGtD (.int i) (.int j) m P := ⟨trivial, q⟩
theorem r_ge (q : P (.bl (decide (j ≤ i))) m) : rGeD (.int i) (.int j) m P := ⟨trivial, q⟩
theorem r_eqI (q : P (.bl (decide (i = j))) m) : rEqD (.int i) (.int j) m P := q
theorem r_eqS (q : P (.bl (decide (z = w))) m) : rEqD (.str z) (.str w) m P := q
theorem r_eqIS (q : P (.bl false) m) : rEqD (.int i) (.str w) m P := q
theorem r_eqSI (q : P (.bl false) m) : rEqD (.str w) (.int i) m P := q
theorem r_neI (q : P (.bl (!decide (i = j))) m) : rNeD (.int i) (.int j) m P := q
theorem r_neS (q : P (.bl (!decide (z = w))) m) : rNeD (.str z) (.str w) m P := q
theorem r_ixT (e : atI xs i = some d) (q : P d m) : rIxD (.tup xs) (.int i) m P := ⟨d, e, q⟩
theorem r_ixL (h : m a = some (.lst xs)) (e : atI xs i = some d) (q : P d m) : rIxD (.ref a) (.int i) m P := ⟨xs, d, h, e, q⟩
theorem r_ixR (e : atI xs i = some d) (q : P d m) : rIxD (.rol xs) (.int i) m P := ⟨d, e, q⟩
theorem r_ixS {c : Nat} (h : z.length ≤ sizeLine) (e : atI z.cps.toList i = some c) (q : P (.str ⟨#[c]⟩) m) : rIxD (.str z) (.int i) m P := ⟨h, c, e, q⟩
theorem r_lenT (q : P (.int xs.length) m) : rLen [.tup xs] m P := q
theorem r_lenL (h : m a = some (.lst xs)) (q : P (.int xs.length) m) : rLen [.ref a] m P := ⟨xs, h, q⟩
theorem r_lenR (q : P (.int xs.length) m) : rLen [.rol xs] m P := ⟨xs, rfl, q⟩
theorem r_lenS (h : z.length ≤ sizeLine) (q : P (.int z.length) m) : rLen [.str z] m P := ⟨h, q⟩
theorem r_int (q : P (.int i) m) : rInt [.int i] m P := q
theorem r_abs (q : P (.int (if i < 0 then -i else i)) m) : rAbs [.int i] m P := q
theorem r_str (h : i.natAbs.log2 < 1920) (q : P (.str (toString i)) m) : rStr [.int i] m P := ⟨h, q⟩
theorem r_tupL (h : m a = some (.lst xs)) (q : P (.tup xs) m) : rTuple [.ref a] m P := ⟨xs, h, q⟩
theorem r_tupR (q : P (.tup xs) m) : rTuple [.rol xs] m P := ⟨xs, rfl, q⟩
theorem r_tupT (q : P (.tup xs) m) : rTuple [.tup xs] m P := q
theorem r_is {n T : String} {bb : Bool} (h : tyN m x = some n) (h2 : kitB n T = some bb) (q : P (.bl bb) m) : rIsD [x, .ty T] m P := ⟨n, bb, h, h2, q⟩
theorem r_app (h : m a = some (.lst xs)) (z : xs.length < sizeLine) (q : P .non (put m a (.lst (xs ++ [y])))) : rApp (.ref a) [y] m P := ⟨xs, h, z, q⟩
theorem s_gsub {to ti : TDE} {v : D} {Q : DS → M → Prop} (h : to sd m fun o m1 => ti sd m1 fun i m2 => match o, i with
  | .ref a, .int k => ∃ xs j, m2 a = some (.lst xs) ∧ ixN xs.length k = some j ∧ Q sd (put m2 a (.lst (xs.set j v)))
  | _, _ => False) : dGSub to ti v sd m Q := h
theorem r_set {k : Int} {j : Nat} {v : D} {Q : M → Prop} (h : m a = some (.lst xs)) (e : ixN xs.length k = some j) (q : Q (put m a (.lst (xs.set j v)))) : ∃ xs j, m a = some (.lst xs) ∧ ixN xs.length k = some j ∧ Q (put m a (.lst (xs.set j v))) := ⟨xs, j, h, e, q⟩
theorem r_isl (h : m a = some (.lst xs)) : isLst (.ref a) m := ⟨xs, h⟩
end
/-! ### loops -/
section
variable {g : TDG} {n : Nat} {lo : Int} {xs : List D} {a : Addr}
theorem f_rng (W : Nat → DS → M → Prop) (h0 : W 0 sd m) (hs : ∀ i sd m, i < n → W i sd m → g (.int (lo + i)) sd m fun sd2 m2 => t { D' with nx := Fg (W (i + 1)), ct := Fg (W (i + 1)), bk := D'.nx } sd2 m2) (hd : ∀ sd m, W n sd m → D'.nx sd m) :
    ∃ (N : Nat) (W : Nat → DS → M → Prop), W 0 sd m ∧ ∀ i sd m, W i sd m → i ≤ N ∧ ∃ o, jRng lo n i m o ∧ match o with
      | none => D'.nx sd m
      | some x => g x sd m fun sd2 m2 => t { D' with nx := Fg (W (i + 1)), ct := Fg (W (i + 1)), bk := D'.nx } sd2 m2 := by
  -- beyond n nothing holds: W is cut there
  refine ⟨n, fun i sd m => i ≤ n ∧ (i ≤ n → W i sd m), ⟨Nat.zero_le _, fun _ => h0⟩, ?_⟩
  rintro i sd m ⟨hi, w⟩
  refine ⟨hi, ?_⟩
  by_cases e : i < n
  · refine ⟨some (.int (lo + i)), (if_pos e).symm, ?_⟩
    have q := hs i sd m e (w hi)
    have eq : (fun (sd : DS) (m : M) => i + 1 ≤ n ∧ (i + 1 ≤ n → W (i + 1) sd m)) = W (i + 1) := by
      funext sd m
      exact propext ⟨fun z => z.2 z.1, fun z => ⟨e, fun _ => z⟩⟩
    show g (.int (lo + i)) sd m fun sd2 m2 => t { D' with nx := Fg fun (sd : DS) (m : M) => i + 1 ≤ n ∧ (i + 1 ≤ n → W (i + 1) sd m), ct := Fg fun (sd : DS) (m : M) => i + 1 ≤ n ∧ (i + 1 ≤ n → W (i + 1) sd m), bk := D'.nx } sd2 m2
    rw [eq]
    exact q
  · have : i = n := by omega
    subst this
    exact ⟨none, (if_neg e).symm, hd sd m (w hi)⟩
theorem f_tup (W : Nat → DS → M → Prop) (h0 : W 0 sd m) (hs : ∀ i x sd m, xs[i]? = some x → W i sd m → g x sd m fun sd2 m2 => t { D' with nx := Fg (W (i + 1)), ct := Fg (W (i + 1)), bk := D'.nx } sd2 m2) (hd : ∀ sd m, W xs.length sd m → D'.nx sd m) :
    ∃ (N : Nat) (W : Nat → DS → M → Prop), W 0 sd m ∧ ∀ i sd m, W i sd m → i ≤ N ∧ ∃ o, jTup xs i m o ∧ match o with
      | none => D'.nx sd m
      | some x => g x sd m fun sd2 m2 => t { D' with nx := Fg (W (i + 1)), ct := Fg (W (i + 1)), bk := D'.nx } sd2 m2 := by
  refine ⟨xs.length, fun i sd m => i ≤ xs.length ∧ (i ≤ xs.length → W i sd m), ⟨Nat.zero_le _, fun _ => h0⟩, ?_⟩
  rintro i sd m ⟨hi, w⟩
  refine ⟨hi, ?_⟩
  by_cases e : i < xs.length
  · refine ⟨some xs[i], (List.getElem?_eq_getElem e).symm, ?_⟩
    have q := hs i xs[i] sd m (List.getElem?_eq_getElem e) (w hi)
    have eq : (fun (sd : DS) (m : M) => i + 1 ≤ xs.length ∧ (i + 1 ≤ xs.length → W (i + 1) sd m)) = W (i + 1) := by
      funext sd m
      exact propext ⟨fun z => z.2 z.1, fun z => ⟨e, fun _ => z⟩⟩
    show g xs[i] sd m fun sd2 m2 => t { D' with nx := Fg fun (sd : DS) (m : M) => i + 1 ≤ xs.length ∧ (i + 1 ≤ xs.length → W (i + 1) sd m), ct := Fg fun (sd : DS) (m : M) => i + 1 ≤ xs.length ∧ (i + 1 ≤ xs.length → W (i + 1) sd m), bk := D'.nx } sd2 m2
    rw [eq]
    exact q
  · have : i = xs.length := by omega
    subst this
    exact ⟨none, (List.getElem?_eq_none (Nat.le_refl _)).symm, hd sd m (w hi)⟩
theorem f_lst (W : Nat → DS → M → Prop) (h0 : W 0 sd m) (hl : ∀ i sd m, i ≤ xs.length → W i sd m → m a = some (.lst xs)) (hs : ∀ i x sd m, xs[i]? = some x → W i sd m → g x sd m fun sd2 m2 => t { D' with nx := Fg (W (i + 1)), ct := Fg (W (i + 1)), bk := D'.nx } sd2 m2) (hd : ∀ sd m, W xs.length sd m → D'.nx sd m) :
    ∃ (N : Nat) (W : Nat → DS → M → Prop), W 0 sd m ∧ ∀ i sd m, W i sd m → i ≤ N ∧ ∃ o, jLst a i m o ∧ match o with
      | none => D'.nx sd m
      | some x => g x sd m fun sd2 m2 => t { D' with nx := Fg (W (i + 1)), ct := Fg (W (i + 1)), bk := D'.nx } sd2 m2 := by
  refine ⟨xs.length, fun i sd m => i ≤ xs.length ∧ (i ≤ xs.length → W i sd m), ⟨Nat.zero_le _, fun _ => h0⟩, ?_⟩
  rintro i sd m ⟨hi, w⟩
  refine ⟨hi, ?_⟩
  by_cases e : i < xs.length
  · refine ⟨some xs[i], ⟨xs, hl i sd m hi (w hi), (List.getElem?_eq_getElem e).symm⟩, ?_⟩
    have q := hs i xs[i] sd m (List.getElem?_eq_getElem e) (w hi)
    have eq : (fun (sd : DS) (m : M) => i + 1 ≤ xs.length ∧ (i + 1 ≤ xs.length → W (i + 1) sd m)) = W (i + 1) := by
      funext sd m
      exact propext ⟨fun z => z.2 z.1, fun z => ⟨e, fun _ => z⟩⟩
    show g xs[i] sd m fun sd2 m2 => t { D' with nx := Fg fun (sd : DS) (m : M) => i + 1 ≤ xs.length ∧ (i + 1 ≤ xs.length → W (i + 1) sd m), ct := Fg fun (sd : DS) (m : M) => i + 1 ≤ xs.length ∧ (i + 1 ≤ xs.length → W (i + 1) sd m), bk := D'.nx } sd2 m2
    rw [eq]
    exact q
  · have : i = xs.length := by omega
    subst this
    exact ⟨none, ⟨xs, hl _ sd m hi (w hi), (List.getElem?_eq_none (Nat.le_refl _)).symm⟩, hd sd m (w hi)⟩
end
/-- a range's end: what is asked of it -/
theorem s_r1 {j : Int} {Q : DIt → M → Prop} (h : -(2 ^ 62) ≤ j ∧ j < 2 ^ 62) (q : Q (jRng 0 j.toNat) m) : (match [D.int j] with | [.int j] => -(2 ^ 62) ≤ j ∧ j < 2 ^ 62 ∧ Q (jRng 0 j.toNat) m | _ => False) := ⟨h.1, h.2, q⟩
theorem i_r1 {t : TDA} {Q : DIt → M → Prop} (h : t sd m fun xs m1 => match xs with | [.int j] => -(2 ^ 62) ≤ j ∧ j < 2 ^ 62 ∧ Q (jRng 0 j.toNat) m1 | _ => False) : iR1 t sd m Q := h
theorem i_t {Q : DIt → M → Prop} (h : ta sd m fun x m1 => match x with | .tup xs => Q (jTup xs) m1 | _ => False) : iT ta sd m Q := h
theorem i_l {Q : DIt → M → Prop} (h : ta sd m fun x m1 => match x with | .rol xs => Q (jTup xs) m1 | .ref a => (∃ xs, m1 a = some (.lst xs)) ∧ Q (jLst a) m1 | _ => False) : iL ta sd m Q := h
theorem iteD {c A B : Prop} [Decidable c] (h1 : c → A) (h2 : ¬ c → B) : if decide c = true then A else B := by
  by_cases h : c
  · rw [if_pos (decide_eq_true h)]; exact h1 h
  · rw [if_neg (by rw [decide_eq_true_eq]; exact h)]; exact h2 h
theorem iteN {c A B : Prop} [Decidable c] (h1 : ¬ c → A) (h2 : c → B) : if (!decide c) = true then A else B := by
  by_cases h : c
  · rw [decide_eq_true h]; exact h2 h
  · rw [decide_eq_false h]; exact h1 h
theorem ite_t {A B : Prop} (h : A) : if true = true then A else B := h
theorem ite_f {A B : Prop} (h : B) : if false = true then A else B := h
theorem iteB {b : Bool} {A B : Prop} (h1 : b = true → A) (h2 : b = false → B) : if b = true then A else B := by
  cases b with
  | true => exact h1 rfl
  | false => exact h2 rfl
end
end Q4

set_option Elab.async false
set_option linter.all false
set_option maxRecDepth 100000
namespace Q4
open PySem L2
/-! ### loops, comprehensions: said without iterators -/
/-- over the items xs -/
def FT (xs : List D) (g : TDG) (tb : TDS) : TDS := fun D sd m => ∃ W : Nat → DS → M → Prop, W 0 sd m ∧
  (∀ i x sd m, xs[i]? = some x → W i sd m → g x sd m fun sd2 m2 => tb { D with nx := Fg (W (i + 1)), ct := Fg (W (i + 1)), bk := D.nx } sd2 m2) ∧ ∀ sd m, W xs.length sd m → D.nx sd m
/-- over the list at a, which stays -/
def FL (a : Addr) (xs : List D) (g : TDG) (tb : TDS) : TDS := fun D sd m => ∃ W : Nat → DS → M → Prop, W 0 sd m ∧ (∀ i sd m, i ≤ xs.length → W i sd m → m a = some (.lst xs)) ∧
  (∀ i x sd m, xs[i]? = some x → W i sd m → g x sd m fun sd2 m2 => tb { D with nx := Fg (W (i + 1)), ct := Fg (W (i + 1)), bk := D.nx } sd2 m2) ∧ ∀ sd m, W xs.length sd m → D.nx sd m
def FR (lo : Int) (n : Nat) (g : TDG) (tb : TDS) : TDS := fun D sd m => ∃ W : Nat → DS → M → Prop, W 0 sd m ∧
  (∀ (i : Nat) sd m, i < n → W i sd m → g (.int (lo + i)) sd m fun sd2 m2 => tb { D with nx := Fg (W (i + 1)), ct := Fg (W (i + 1)), bk := D.nx } sd2 m2) ∧ ∀ sd m, W n sd m → D.nx sd m
/-- range(n) -/
def FR0 (n : Nat) (g : TDG) (tb : TDS) : TDS := fun D sd m => ∃ W : Nat → DS → M → Prop, W 0 sd m ∧
  (∀ (i : Nat) sd m, i < n → W i sd m → g (.int i) sd m fun sd2 m2 => tb { D with nx := Fg (W (i + 1)), ct := Fg (W (i + 1)), bk := D.nx } sd2 m2) ∧ ∀ sd m, W n sd m → D.nx sd m
def dForR1 (t : TDA) (g : TDG) (tb : TDS) : TDS := fun D sd m => t sd m fun xs m1 => match xs with | [.int j] => (-(2 ^ 62) ≤ j ∧ j < 2 ^ 62) ∧ FR0 j.toNat g tb D sd m1 | _ => False
def dForR2 (t : TDA) (g : TDG) (tb : TDS) : TDS := fun D sd m => t sd m fun xs m1 => match xs with | [.int i, .int j] => (-(2 ^ 62) ≤ i ∧ i < 2 ^ 62 ∧ -(2 ^ 62) ≤ j ∧ j < 2 ^ 62) ∧ FR i (j - i).toNat g tb D sd m1 | _ => False
def dForT (t : TDE) (g : TDG) (tb : TDS) : TDS := fun D sd m => t sd m fun x m1 => match x with | .tup xs => FT xs g tb D sd m1 | _ => False
def dForL (t : TDE) (g : TDG) (tb : TDS) : TDS := fun D sd m => t sd m fun x m1 => match x with | .rol xs => FT xs g tb D sd m1 | .ref a => ∃ xs, m1 a = some (.lst xs) ∧ FL a xs g tb D sd m1 | _ => False
section
variable {X : Cx} {H0 : Hp} {tg : Expr} {body : List Stmt} {g : TDG} {tb : TDS} {pos : Pos} {vs : List Nat}
theorem qs_forR1 {a : Expr} {t : TDA} {p p2 : Pos} (hp : PassesOwn (model X.prog X.w) X.A X.env X.xe) (hc : X.calm = true) (hgl : Gl X "range") (hm : X.mg "range" = none) (ha : PA X [a] (lA X.K H0 t)) (hg : PG X tg (lG X.K H0 vs g)) (hb : PSs X body (lS X.K H0 tb))
    (hs : starEach [a] X.env = [(false, eval a X.env)] := by rfl) (hf : ∀ x, foldedSetIterable (.Call (.Name "range" p) [a] [] p2) X.env x = pure x := by intro _; rfl) : PS X (.For tg (.Call (.Name "range" p) [a] [] p2) body [] pos) (lS X.K H0 (dForR1 t g tb)) :=
  psL (ps_for hp hc (pi_range1 hgl hm ha hs) hg hb hf) fun D σ H h => by
    obtain ⟨sd, m, DD, a, p, q1, q2, q3, q4⟩ := h
    refine ⟨sd, m, _, a, p, fun d m' v H' k r rd p' => ?_⟩
    split at p'
    · obtain ⟨u, rfl, r1⟩ := rd.one_
      cases r1.int_
      obtain ⟨⟨h1, h2⟩, W, w0, ws, wd⟩ := p'
      exact ⟨_, rfl, h1, h2, for_core a.k k (a.s.mono k) r lift_rng q1 q2 (f_rng W w0 (fun i sd m hi w => by rw [Int.zero_add]; exact ws i sd m hi w) wd)⟩
    · exact p'.elim
theorem qs_forR2 {a b : Expr} {t : TDA} {p p2 : Pos} (hp : PassesOwn (model X.prog X.w) X.A X.env X.xe) (hc : X.calm = true) (hgl : Gl X "range") (hm : X.mg "range" = none) (ha : PA X [a, b] (lA X.K H0 t)) (hg : PG X tg (lG X.K H0 vs g)) (hb : PSs X body (lS X.K H0 tb))
    (hs : starEach [a, b] X.env = [(false, eval a X.env), (false, eval b X.env)] := by rfl) (hs2 : starEach [b] X.env = [(false, eval b X.env)] := by rfl) (hf : ∀ x, foldedSetIterable (.Call (.Name "range" p) [a, b] [] p2) X.env x = pure x := by intro _; rfl) : PS X (.For tg (.Call (.Name "range" p) [a, b] [] p2) body [] pos) (lS X.K H0 (dForR2 t g tb)) :=
  psL (ps_for hp hc (pi_range2 hgl hm ha hs hs2) hg hb hf) fun D σ H h => by
    obtain ⟨sd, m, DD, a, p, q1, q2, q3, q4⟩ := h
    refine ⟨sd, m, _, a, p, fun d m' v H' k r rd p' => ?_⟩
    split at p'
    · obtain ⟨u, w, rfl, r1, r2⟩ := rd.two_
      cases r1.int_
      cases r2.int_
      obtain ⟨h1, W, w0, ws, wd⟩ := p'
      exact ⟨_, _, rfl, h1, for_core a.k k (a.s.mono k) r lift_rng q1 q2 (f_rng W w0 ws wd)⟩
    · exact p'.elim
theorem qs_forT {l : Expr} {t : TDE} (hp : PassesOwn (model X.prog X.w) X.A X.env X.xe) (hc : X.calm = true) (hl : PE X l (lE X.K H0 t)) (hg : PG X tg (lG X.K H0 vs g)) (hb : PSs X body (lS X.K H0 tb)) (hf : ∀ x, foldedSetIterable l X.env x = pure x := by intro _; rfl) : PS X (.For tg l body [] pos) (lS X.K H0 (dForT t g tb)) :=
  psL (ps_for hp hc (pi_tup hl) hg hb hf) fun D σ H h => by
    obtain ⟨sd, m, DD, a, p, q1, q2, q3, q4⟩ := h
    refine ⟨sd, m, _, a, p, fun d m' v H' k r rd p' => ?_⟩
    cases d with
    | tup xs =>
      obtain ⟨b, ws, rfl, h1, h2⟩ := rd.tup_
      obtain ⟨W, w0, wst, wd⟩ := p'
      exact ⟨b, rfl, ⟨ws, h1⟩, for_core a.k k (a.s.mono k) r (lift_tup h1 h2) q1 q2 (f_tup W w0 wst wd)⟩
    | _ => exact p'.elim
theorem qs_forL {l : Expr} {t : TDE} (hp : PassesOwn (model X.prog X.w) X.A X.env X.xe) (hc : X.calm = true) (hl : PE X l (lE X.K H0 t)) (hg : PG X tg (lG X.K H0 vs g)) (hb : PSs X body (lS X.K H0 tb)) (hf : ∀ x, foldedSetIterable l X.env x = pure x := by intro _; rfl) : PS X (.For tg l body [] pos) (lS X.K H0 (dForL t g tb)) :=
  psL (ps_for hp hc (pi_list hl) hg hb hf) fun D σ H h => by
    obtain ⟨sd, m, DD, a, p, q1, q2, q3, q4⟩ := h
    refine ⟨sd, m, _, a, p, fun d m' v H' k r rd p' => ?_⟩
    cases d with
    | rol xs =>
      obtain ⟨b, ws, rfl, h1, h2⟩ := rd.rol_
      obtain ⟨W, w0, wst, wd⟩ := p'
      exact ⟨b, rfl, ⟨ws, h1.sq⟩, for_core a.k k (a.s.mono k) r (lift_rol h1 h2) q1 q2 (f_tup W w0 wst wd)⟩
    | ref b =>
      cases rd.ref_
      obtain ⟨xs, h, W, w0, wl, wst, wd⟩ := p'
      obtain ⟨ws, e1, r1⟩ := r _ _ h
      exact ⟨b, rfl, ⟨ws, .inl (.inl e1)⟩, for_core a.k k (a.s.mono k) r lift_lst q1 q2 (f_lst W w0 wl wst wd)⟩
    | _ => exact p'.elim
end
/-! ### comprehensions -/
/-- one turn: the item x, the list so far acc at p -/
def CTurn (g : TDG) (tt : TDT) (te : TDE) (vs : List Nat) (sd : DS) (p : Addr) (W' : List D → M → Prop) (x : D) (acc : List D) (m2 : M) : Prop :=
  g x (wipeD sd vs) (put m2 p (.lst acc)) fun sd2 m3 => tt sd2 m3 fun b m4 =>
    if b = true then te sd2 m4 fun y m5 => ∃ m6, Less (put m6 p (.lst acc)) m5 ∧ acc.length < sizeLine ∧ W' (acc ++ [y]) m6 else ∃ m6, Less (put m6 p (.lst acc)) m4 ∧ W' acc m6
def CT (xs : List D) (g : TDG) (tt : TDT) (te : TDE) (vs : List Nat) (sd : DS) (m1 : M) (P : DK) : Prop := ∀ p, m1 p = none → ∃ W : Nat → List D → M → Prop, W 0 [] m1 ∧
  (∀ i x acc m2, xs[i]? = some x → W i acc m2 → CTurn g tt te vs sd p (W (i + 1)) x acc m2) ∧ ∀ acc m2, W xs.length acc m2 → P (.ref p) (put m2 p (.lst acc))
def CL (a : Addr) (xs : List D) (g : TDG) (tt : TDT) (te : TDE) (vs : List Nat) (sd : DS) (m1 : M) (P : DK) : Prop := ∀ p, m1 p = none → ∃ W : Nat → List D → M → Prop, W 0 [] m1 ∧ (∀ i acc m2, i ≤ xs.length → W i acc m2 → m2 a = some (.lst xs)) ∧
  (∀ i x acc m2, xs[i]? = some x → W i acc m2 → CTurn g tt te vs sd p (W (i + 1)) x acc m2) ∧ ∀ acc m2, W xs.length acc m2 → P (.ref p) (put m2 p (.lst acc))
def CR0 (n : Nat) (g : TDG) (tt : TDT) (te : TDE) (vs : List Nat) (sd : DS) (m1 : M) (P : DK) : Prop := ∀ p, m1 p = none → ∃ W : Nat → List D → M → Prop, W 0 [] m1 ∧
  (∀ (i : Nat) acc m2, i < n → W i acc m2 → CTurn g tt te vs sd p (W (i + 1)) (.int i) acc m2) ∧ ∀ acc m2, W n acc m2 → P (.ref p) (put m2 p (.lst acc))
def CR (lo : Int) (n : Nat) (g : TDG) (tt : TDT) (te : TDE) (vs : List Nat) (sd : DS) (m1 : M) (P : DK) : Prop := ∀ p, m1 p = none → ∃ W : Nat → List D → M → Prop, W 0 [] m1 ∧
  (∀ (i : Nat) acc m2, i < n → W i acc m2 → CTurn g tt te vs sd p (W (i + 1)) (.int (lo + i)) acc m2) ∧ ∀ acc m2, W n acc m2 → P (.ref p) (put m2 p (.lst acc))
section
variable {g : TDG} {tt : TDT} {te : TDE} {vs : List Nat} {sd : DS} {m1 : M} {P : DK} {p : Addr}
theorem c_cut {n : Nat} {W : Nat → List D → M → Prop} {i : Nat} {x : D} {acc : List D} {m2 : M} (e : i + 1 ≤ n) (h : CTurn g tt te vs sd p (W (i + 1)) x acc m2) : CTurn g tt te vs sd p (fun acc m => i + 1 ≤ n ∧ (i + 1 ≤ n → W (i + 1) acc m)) x acc m2 := by
  have eq : (fun (acc : List D) (m : M) => i + 1 ≤ n ∧ (i + 1 ≤ n → W (i + 1) acc m)) = W (i + 1) := by
    funext acc m
    exact propext ⟨fun z => z.2 z.1, fun z => ⟨e, fun _ => z⟩⟩
  rw [eq]
  exact h
theorem c_tup {xs : List D} (h : ∃ W : Nat → List D → M → Prop, W 0 [] m1 ∧ (∀ i x acc m2, xs[i]? = some x → W i acc m2 → CTurn g tt te vs sd p (W (i + 1)) x acc m2) ∧ ∀ acc m2, W xs.length acc m2 → P (.ref p) (put m2 p (.lst acc))) :
    ∃ (N : Nat) (W : Nat → List D → M → Prop), W 0 [] m1 ∧ ∀ i acc m2, W i acc m2 → i ≤ N ∧ ∃ o, jTup xs i (put m2 p (.lst acc)) o ∧ match o with
      | none => P (.ref p) (put m2 p (.lst acc))
      | some x => CTurn g tt te vs sd p (W (i + 1)) x acc m2 := by
  obtain ⟨W, w0, ws, wd⟩ := h
  refine ⟨xs.length, fun i acc m => i ≤ xs.length ∧ (i ≤ xs.length → W i acc m), ⟨Nat.zero_le _, fun _ => w0⟩, ?_⟩
  rintro i acc m2 ⟨hi, w⟩
  refine ⟨hi, ?_⟩
  by_cases e : i < xs.length
  · exact ⟨some xs[i], (List.getElem?_eq_getElem e).symm, c_cut e (ws i xs[i] acc m2 (List.getElem?_eq_getElem e) (w hi))⟩
  · have : i = xs.length := by omega
    subst this
    exact ⟨none, (List.getElem?_eq_none (Nat.le_refl _)).symm, wd acc m2 (w hi)⟩
theorem c_lst {a : Addr} {xs : List D} (hap : a ≠ p) (h : ∃ W : Nat → List D → M → Prop, W 0 [] m1 ∧ (∀ i acc m2, i ≤ xs.length → W i acc m2 → m2 a = some (.lst xs)) ∧ (∀ i x acc m2, xs[i]? = some x → W i acc m2 → CTurn g tt te vs sd p (W (i + 1)) x acc m2) ∧ ∀ acc m2, W xs.length acc m2 → P (.ref p) (put m2 p (.lst acc))) :
    ∃ (N : Nat) (W : Nat → List D → M → Prop), W 0 [] m1 ∧ ∀ i acc m2, W i acc m2 → i ≤ N ∧ ∃ o, jLst a i (put m2 p (.lst acc)) o ∧ match o with
      | none => P (.ref p) (put m2 p (.lst acc))
      | some x => CTurn g tt te vs sd p (W (i + 1)) x acc m2 := by
  obtain ⟨W, w0, wl, ws, wd⟩ := h
  refine ⟨xs.length, fun i acc m => i ≤ xs.length ∧ (i ≤ xs.length → W i acc m), ⟨Nat.zero_le _, fun _ => w0⟩, ?_⟩
  rintro i acc m2 ⟨hi, w⟩
  refine ⟨hi, ?_⟩
  have hl : put m2 p (.lst acc) a = some (.lst xs) := (put_ne hap).trans (wl i acc m2 hi (w hi))
  by_cases e : i < xs.length
  · exact ⟨some xs[i], ⟨xs, hl, (List.getElem?_eq_getElem e).symm⟩, c_cut e (ws i xs[i] acc m2 (List.getElem?_eq_getElem e) (w hi))⟩
  · have : i = xs.length := by omega
    subst this
    exact ⟨none, ⟨xs, hl, (List.getElem?_eq_none (Nat.le_refl _)).symm⟩, wd acc m2 (w hi)⟩
theorem c_rng {lo : Int} {n : Nat} (h : ∃ W : Nat → List D → M → Prop, W 0 [] m1 ∧ (∀ (i : Nat) acc m2, i < n → W i acc m2 → CTurn g tt te vs sd p (W (i + 1)) (.int (lo + i)) acc m2) ∧ ∀ acc m2, W n acc m2 → P (.ref p) (put m2 p (.lst acc))) :
    ∃ (N : Nat) (W : Nat → List D → M → Prop), W 0 [] m1 ∧ ∀ i acc m2, W i acc m2 → i ≤ N ∧ ∃ o, jRng lo n i (put m2 p (.lst acc)) o ∧ match o with
      | none => P (.ref p) (put m2 p (.lst acc))
      | some x => CTurn g tt te vs sd p (W (i + 1)) x acc m2 := by
  obtain ⟨W, w0, ws, wd⟩ := h
  refine ⟨n, fun i acc m => i ≤ n ∧ (i ≤ n → W i acc m), ⟨Nat.zero_le _, fun _ => w0⟩, ?_⟩
  rintro i acc m2 ⟨hi, w⟩
  refine ⟨hi, ?_⟩
  by_cases e : i < n
  · exact ⟨some (.int (lo + i)), (if_pos e).symm, c_cut e (ws i acc m2 e (w hi))⟩
  · have : i = n := by omega
    subst this
    exact ⟨none, (if_neg e).symm, wd acc m2 (w hi)⟩
end
def dLcT (t : TDE) (g : TDG) (tt : TDT) (te : TDE) (vs : List Nat) : TDE := fun sd m P => t sd m fun x m1 => match x with | .tup xs => CT xs g tt te vs sd m1 P | _ => False
def dLcL (t : TDE) (g : TDG) (tt : TDT) (te : TDE) (vs : List Nat) : TDE := fun sd m P => t sd m fun x m1 => match x with | .rol xs => CT xs g tt te vs sd m1 P | .ref a => ∃ xs, m1 a = some (.lst xs) ∧ CL a xs g tt te vs sd m1 P | _ => False
def dLcR1 (t : TDA) (g : TDG) (tt : TDT) (te : TDE) (vs : List Nat) : TDE := fun sd m P => t sd m fun xs m1 => match xs with | [.int j] => (-(2 ^ 62) ≤ j ∧ j < 2 ^ 62) ∧ CR0 j.toNat g tt te vs sd m1 P | _ => False
section
variable {X : Cx} {H0 : Hp} {K : PySem.W.Frag} {g : TDG} {tt : TDT} {te : TDE} {vs : List Nat} {σ : St} {H : Hp} {Q : VK}
theorem l_lcT {t : TDE} (h : lE K H0 (dLcT t g tt te vs) σ H Q) : tLc (iTup K (lE K H0 t)) (lG K H0 vs g) (lT K H0 tt) (lE K H0 te) vs σ H Q := by
  obtain ⟨sd, m, P, a, p, q⟩ := h
  refine ⟨sd, m, _, a, p, fun d m' v H' k r rd p' => ?_⟩
  cases d with
  | tup xs =>
    obtain ⟨b, ws, rfl, h1, h2⟩ := rd.tup_
    exact ⟨b, rfl, ⟨ws, h1⟩, fun D hD => lc_core a.k k a.s r (lift_tup h1 h2) q hD (c_tup (p' D (r.free hD)))⟩
  | _ => exact p'.elim
theorem l_lcL {t : TDE} (h : lE K H0 (dLcL t g tt te vs) σ H Q) : tLc (iList K (lE K H0 t)) (lG K H0 vs g) (lT K H0 tt) (lE K H0 te) vs σ H Q := by
  obtain ⟨sd, m, P, a, p, q⟩ := h
  refine ⟨sd, m, _, a, p, fun d m' v H' k r rd p' => ?_⟩
  cases d with
  | rol xs =>
    obtain ⟨b, ws, rfl, h1, h2⟩ := rd.rol_
    exact ⟨b, rfl, ⟨ws, h1.sq⟩, fun D hD => lc_core a.k k a.s r (lift_rol h1 h2) q hD (c_tup (p' D (r.free hD)))⟩
  | ref b =>
    cases rd.ref_
    obtain ⟨xs, h, p'⟩ := p'
    obtain ⟨ws, e1, r1⟩ := r _ _ h
    refine ⟨b, rfl, ⟨ws, .inl (.inl e1)⟩, fun D hD => lc_core a.k k a.s r lift_lst q hD (c_lst ?_ (p' D (r.free hD)))⟩
    intro e
    subst e
    rw [r.free hD] at h
    cases h
  | _ => exact p'.elim
theorem l_lcR1 {t : TDA} (h : lE K H0 (dLcR1 t g tt te vs) σ H Q) : tLc (iRng1 (lA K H0 t)) (lG K H0 vs g) (lT K H0 tt) (lE K H0 te) vs σ H Q := by
  obtain ⟨sd, m, P, a, p, q⟩ := h
  refine ⟨sd, m, _, a, p, fun d m' v H' k r rd p' => ?_⟩
  split at p'
  · obtain ⟨u, rfl, r1⟩ := rd.one_
    cases r1.int_
    obtain ⟨⟨h1, h2⟩, p'⟩ := p'
    exact ⟨_, rfl, h1, h2, fun D hD => lc_core a.k k a.s r lift_rng q hD (c_rng (by
      obtain ⟨W, w0, ws, wd⟩ := p' D (r.free hD)
      exact ⟨W, w0, fun i acc m2 hi w => by rw [Int.zero_add]; exact ws i acc m2 hi w, wd⟩))⟩
  · exact p'.elim
/-- a comprehension as a value: its source's rule hi, its reading l -/
theorem qe_lcX {elt tg iter : Expr} {ifs : List Expr} {scope : Scope} {own : List (Str × Nat)} {pos : Pos} {wi : TI} {t' : TDE} (hc : X.calm = true) (hN : X.N.Nodup) (hi : PI X tg iter wi) (ok : BlkOk X.N X.env.scope scope own)
    (hg : ∀ (s : Shared) (H : Hp) (C : Addr) (cl : List (Str × Addr)) (fp : List Addr), PG (X.blk s H scope (compEnvC scope cl C X.env) fp) tg (lG X.K H0 (own.map (·.2)) g)) (ht : ∀ (s : Shared) (H : Hp) (C : Addr) (cl : List (Str × Addr)) (fp : List Addr), PTs (X.blk s H scope (compEnvC scope cl C X.env) fp) ifs (lT X.K H0 tt))
    (he : ∀ (s : Shared) (H : Hp) (C : Addr) (cl : List (Str × Addr)) (fp : List Addr), PE (X.blk s H scope (compEnvC scope cl C X.env) fp) elt (lE X.K H0 te)) (l : ∀ σ H Q, lE X.K H0 t' σ H Q → tLc wi (lG X.K H0 (own.map (·.2)) g) (lT X.K H0 tt) (lE X.K H0 te) (own.map (·.2)) σ H Q) (hs : ∀ x, foldedSetIterable iter X.env x = pure x := by intro _; rfl) :
    PE X (.ListComp elt [⟨tg, iter, ifs, 0⟩] scope pos) (lE X.K H0 t') := peL (pe_lc hc hN hi ok hg ht he hs) l
theorem qs_lcX {i : Nat} {y : Str} {py : Pos} {elt tg iter : Expr} {ifs : List Expr} {scope : Scope} {own : List (Str × Nat)} {pos spos : Pos} {wi : TI} {t' : TDE} (hc : X.calm = true) (hN : X.N.Nodup) (hy : X.N[i]? = some y) (hyl : X.env.scope.names.lookup y = some .local)
    (hsw : swapsWith (.ListComp elt [⟨tg, iter, ifs, 0⟩] scope pos) (some (.Name y py)) spos.line X.env = pure true) (hi : PI X tg iter wi) (ok : BlkOk X.N X.env.scope scope own)
    (hg : ∀ (s : Shared) (H : Hp) (C : Addr) (cl : List (Str × Addr)) (fp : List Addr), PG (X.blk s H scope (compEnvC scope cl C X.env) fp) tg (lG X.K H0 (own.map (·.2)) g)) (ht : ∀ (s : Shared) (H : Hp) (C : Addr) (cl : List (Str × Addr)) (fp : List Addr), PTs (X.blk s H scope (compEnvC scope cl C X.env) fp) ifs (lT X.K H0 tt))
    (he : ∀ (s : Shared) (H : Hp) (C : Addr) (cl : List (Str × Addr)) (fp : List Addr), PE (X.blk s H scope (compEnvC scope cl C X.env) fp) elt (lE X.K H0 te)) (l : ∀ σ H Q, lE X.K H0 t' σ H Q → tLc wi (lG X.K H0 (own.map (·.2)) g) (lT X.K H0 tt) (lE X.K H0 te) (own.map (·.2)) σ H Q) (hs : ∀ x, foldedSetIterable iter X.env x = pure x := by intro _; rfl) :
    PS X (.Assign [.Name y py] (.ListComp elt [⟨tg, iter, ifs, 0⟩] scope pos) spos) (lS X.K H0 (dAsg t' (dName i))) := psL (ps_setLc hc hN hy hyl hsw hi ok hg ht he hs) fun D σ H h => by
  obtain ⟨sd, m, DD, a, p, q⟩ := h
  exact l σ H _ ⟨sd, m, _, a, p, fun d m' v H' k r rd p' => q.1 _ m' _ H' k ((a.s.mono k).set i rd) r p'⟩
end
/-! ### steps -/
section
variable {sd : DS} {m : M} {D' : DEnds} {t u : TDS} {g : TDG} {ta : TDE} {tl : TDA} {P : DK} {tt : TDT} {te : TDE} {vs : List Nat}
theorem s_forR1 (h : tl sd m fun xs m1 => match xs with | [.int j] => (-(2 ^ 62) ≤ j ∧ j < 2 ^ 62) ∧ FR0 j.toNat g t D' sd m1 | _ => False) : dForR1 tl g t D' sd m := h
theorem s_forR2 (h : tl sd m fun xs m1 => match xs with | [.int i, .int j] => (-(2 ^ 62) ≤ i ∧ i < 2 ^ 62 ∧ -(2 ^ 62) ≤ j ∧ j < 2 ^ 62) ∧ FR i (j - i).toNat g t D' sd m1 | _ => False) : dForR2 tl g t D' sd m := h
theorem s_forT (h : ta sd m fun x m1 => match x with | .tup xs => FT xs g t D' sd m1 | _ => False) : dForT ta g t D' sd m := h
theorem s_forL (h : ta sd m fun x m1 => match x with | .rol xs => FT xs g t D' sd m1 | .ref a => ∃ xs, m1 a = some (.lst xs) ∧ FL a xs g t D' sd m1 | _ => False) : dForL ta g t D' sd m := h
theorem r_FL {a : Addr} {xs : List D} (h : m a = some (.lst xs)) (q : FL a xs g t D' sd m) : ∃ xs, m a = some (.lst xs) ∧ FL a xs g t D' sd m := ⟨xs, h, q⟩
theorem s_lcT (h : ta sd m fun x m1 => match x with | .tup xs => CT xs g tt te vs sd m1 P | _ => False) : dLcT ta g tt te vs sd m P := h
theorem s_lcL (h : ta sd m fun x m1 => match x with | .rol xs => CT xs g tt te vs sd m1 P | .ref a => ∃ xs, m1 a = some (.lst xs) ∧ CL a xs g tt te vs sd m1 P | _ => False) : dLcL ta g tt te vs sd m P := h
theorem s_lcR1 (h : tl sd m fun xs m1 => match xs with | [.int j] => (-(2 ^ 62) ≤ j ∧ j < 2 ^ 62) ∧ CR0 j.toNat g tt te vs sd m1 P | _ => False) : dLcR1 tl g tt te vs sd m P := h
theorem r_CL {a : Addr} {xs : List D} (h : m a = some (.lst xs)) (q : CL a xs g tt te vs sd m P) : ∃ xs, m a = some (.lst xs) ∧ CL a xs g tt te vs sd m P := ⟨xs, h, q⟩
end
end Q4

set_option Elab.async false
set_option linter.all false
set_option maxRecDepth 100000
namespace Q4
open PySem L2
/-! ### what is walked may be a list or a tuple -/
def iSq (K : PySem.W.Frag) (te : TE) : TI := fun σ H R => te σ H fun x G => ∃ b, x = .ref b ∧ (((∃ ys, SqL K G b ys) ∧ R (Itl K b) G) ∨ ((∃ ys, SqT K G b ys) ∧ R (Itt K b) G))
theorem pi_sq {X : Cx} {tg src : Expr} {te : TE} (hsrc : PE X src te) : PI X tg src (iSq X.K te) := by
  constructor
  intro pins st σ H R I hw
  refine thn (hsrc.run pins st σ H _ I hw) ?_
  rintro u st1 ⟨x, G, J, rv, b, ex, hq⟩
  subst ex
  cases rv
  have fresh : ∀ c ∈ [st1.heap.objs.size], FpOk X pins G c := by
    intro c hc
    rw [List.mem_singleton] at hc
    rw [hc]
    exact J.fpOk (Nat.le_refl _) (J.hok.fresh (Nat.le_refl _))
  rcases hq with ⟨⟨ys, h1⟩, q⟩ | ⟨⟨ys, h1⟩, q⟩
  · obtain ⟨its, _, pl, _⟩ := J.list h1
    refine wpAny_pyIter_list pl.isList ?_
    exact ⟨_, [_], _, _, G, rfl, J.kept (t' := st1.toks) (fun _ _ e => Heap.get?_push_of_some _ e), turn_list b _,
      ⟨_, Heap.get?_push_size _ rfl, rfl, rfl⟩, fresh, q⟩
  · obtain ⟨its, _, pl, _⟩ := J.tuple h1
    refine wpAny_pyIter_tuple (show st1.heap.IsTuple b its.toArray from pl) ?_
    exact ⟨_, [_], _, _, G, rfl, J.kept (t' := st1.toks) (fun _ _ e => Heap.get?_push_of_some _ e), turn_tuple b _,
      ⟨_, Heap.get?_push_size _ rfl, rfl, rfl⟩, fresh, q⟩
def FS (x : D) (g : TDG) (tb : TDS) : TDS := fun D sd m => match x with
  | .tup xs => FT xs g tb D sd m
  | .rol xs => FT xs g tb D sd m
  | .ref a => ∃ xs, m a = some (.lst xs) ∧ FL a xs g tb D sd m
  | _ => False
def dForS (t : TDE) (g : TDG) (tb : TDS) : TDS := fun D sd m => t sd m fun x m1 => FS x g tb D sd m1
def CS (x : D) (g : TDG) (tt : TDT) (te : TDE) (vs : List Nat) (sd : DS) (m1 : M) (P : DK) : Prop := match x with
  | .tup xs => CT xs g tt te vs sd m1 P
  | .rol xs => CT xs g tt te vs sd m1 P
  | .ref a => ∃ xs, m1 a = some (.lst xs) ∧ CL a xs g tt te vs sd m1 P
  | _ => False
def dLcS (t : TDE) (g : TDG) (tt : TDT) (te : TDE) (vs : List Nat) : TDE := fun sd m P => t sd m fun x m1 => CS x g tt te vs sd m1 P
section
variable {X : Cx} {H0 : Hp} {tg : Expr} {body : List Stmt} {g : TDG} {tb : TDS} {pos : Pos} {vs : List Nat} {K : PySem.W.Frag} {tt : TDT} {te : TDE} {σ : St} {H : Hp} {Q : VK}
theorem qs_forS {l : Expr} {t : TDE} (hp : PassesOwn (model X.prog X.w) X.A X.env X.xe) (hc : X.calm = true) (hl : PE X l (lE X.K H0 t)) (hg : PG X tg (lG X.K H0 vs g)) (hb : PSs X body (lS X.K H0 tb)) (hf : ∀ x, foldedSetIterable l X.env x = pure x := by intro _; rfl) : PS X (.For tg l body [] pos) (lS X.K H0 (dForS t g tb)) :=
  psL (ps_for hp hc (pi_sq hl) hg hb hf) fun D σ H h => by
    obtain ⟨sd, m, DD, a, p, q1, q2, q3, q4⟩ := h
    refine ⟨sd, m, _, a, p, fun d m' v H' k r rd p' => ?_⟩
    cases d with
    | tup xs =>
      obtain ⟨b, ws, rfl, h1, h2⟩ := rd.tup_
      obtain ⟨W, w0, wst, wd⟩ := p'
      exact ⟨b, rfl, .inr ⟨⟨ws, h1⟩, for_core a.k k (a.s.mono k) r (lift_tup h1 h2) q1 q2 (f_tup W w0 wst wd)⟩⟩
    | rol xs =>
      obtain ⟨b, ws, rfl, h1, h2⟩ := rd.rol_
      obtain ⟨W, w0, wst, wd⟩ := p'
      exact ⟨b, rfl, .inl ⟨⟨ws, h1.sq⟩, for_core a.k k (a.s.mono k) r (lift_rol h1 h2) q1 q2 (f_tup W w0 wst wd)⟩⟩
    | ref b =>
      cases rd.ref_
      obtain ⟨xs, h, W, w0, wl, wst, wd⟩ := p'
      obtain ⟨ws, e1, r1⟩ := r _ _ h
      exact ⟨b, rfl, .inl ⟨⟨ws, .inl (.inl e1)⟩, for_core a.k k (a.s.mono k) r lift_lst q1 q2 (f_lst W w0 wl wst wd)⟩⟩
    | _ => exact p'.elim
theorem l_lcS {t : TDE} (h : lE K H0 (dLcS t g tt te vs) σ H Q) : tLc (iSq K (lE K H0 t)) (lG K H0 vs g) (lT K H0 tt) (lE K H0 te) vs σ H Q := by
  obtain ⟨sd, m, P, a, p, q⟩ := h
  refine ⟨sd, m, _, a, p, fun d m' v H' k r rd p' => ?_⟩
  cases d with
  | tup xs =>
    obtain ⟨b, ws, rfl, h1, h2⟩ := rd.tup_
    exact ⟨b, rfl, .inr ⟨⟨ws, h1⟩, fun D hD => lc_core a.k k a.s r (lift_tup h1 h2) q hD (c_tup (p' D (r.free hD)))⟩⟩
  | rol xs =>
    obtain ⟨b, ws, rfl, h1, h2⟩ := rd.rol_
    exact ⟨b, rfl, .inl ⟨⟨ws, h1.sq⟩, fun D hD => lc_core a.k k a.s r (lift_rol h1 h2) q hD (c_tup (p' D (r.free hD)))⟩⟩
  | ref b =>
    cases rd.ref_
    obtain ⟨xs, h, p'⟩ := p'
    obtain ⟨ws, e1, r1⟩ := r _ _ h
    refine ⟨b, rfl, .inl ⟨⟨ws, .inl (.inl e1)⟩, fun D hD => lc_core a.k k a.s r lift_lst q hD (c_lst ?_ (p' D (r.free hD)))⟩⟩
    intro e
    subst e
    rw [r.free hD] at h
    cases h
  | _ => exact p'.elim
end
section
variable {sd : DS} {m : M} {D' : DEnds} {t u : TDS} {g : TDG} {ta : TDE} {tl : TDA} {P : DK} {tt : TDT} {te : TDE} {vs : List Nat} {xs : List D} {a : Addr}
theorem s_forS (h : ta sd m fun x m1 => FS x g t D' sd m1) : dForS ta g t D' sd m := h
theorem r_FST (q : FT xs g t D' sd m) : FS (.tup xs) g t D' sd m := q
theorem r_FSR (q : FT xs g t D' sd m) : FS (.rol xs) g t D' sd m := q
theorem r_FSL (h : m a = some (.lst xs)) (q : FL a xs g t D' sd m) : FS (.ref a) g t D' sd m := ⟨xs, h, q⟩
theorem s_lcS (h : ta sd m fun x m1 => CS x g tt te vs sd m1 P) : dLcS ta g tt te vs sd m P := h
theorem r_CST (q : CT xs g tt te vs sd m P) : CS (.tup xs) g tt te vs sd m P := q
theorem r_CSR (q : CT xs g tt te vs sd m P) : CS (.rol xs) g tt te vs sd m P := q
theorem r_CSL (h : m a = some (.lst xs)) (q : CL a xs g tt te vs sd m P) : CS (.ref a) g tt te vs sd m P := ⟨xs, h, q⟩
end
end Q4

set_option Elab.async false
set_option linter.all false
set_option maxRecDepth 100000
namespace Q4
open PySem L2
open PyProof.Rows (envOfC)
theorem neA {m : M} {a p : Addr} {o : DO} (h : m a = some o) (h' : m p = none) : a ≠ p := fun e => by subst e; rw [h] at h'; cases h'
theorem put_none {m : M} {a p : Addr} {o : DO} : put m a o p = none ↔ p ≠ a ∧ m p = none := by
  constructor
  · intro h
    by_cases e : p = a
    · subst e; rw [put_same] at h; cases h
    · rw [put_ne e] at h; exact ⟨e, h⟩
  · rintro ⟨e, h⟩
    rw [put_ne e]; exact h
/-! ### defs by name -/
structure FunAt (K : PySem.W.Frag) (mg : Str → Option Value) (x : Str) (st : Stmt) (ps : List Str) : Prop where
  ex : ∃ f fd, Fun K x x st f fd ∧ mg x = some (.ref f) ∧ ∀ us : List Value, us.length = ps.length → bindArgs fd ⟨us, []⟩ = pure (ps.zip us)
structure Callee (P : Program) (w : World) (K : PySem.W.Frag) (mg : Str → Option Value) (k : Nat) (x : Str) (ps : List Str) (d : DSp) : Prop where
  ex : ∃ f fd, mg x = some (.ref f) ∧ PySem.W.keepIn K (.ref f) = true ∧ (∀ us : List Value, us.length = ps.length → bindArgs fd ⟨us, []⟩ = pure (ps.zip us)) ∧ ∀ base, FnOk P w K mg base CX0 k f fd ps (lSp K d)
section
variable {P : Program} {w : World} {K : PySem.W.Frag} {mg : Str → Option Value} {x : Str} {st : Stmt} {ps N : List Str} {d d' : DSp} {k j : Nat}
theorem Callee.mono (C : Callee P w K mg j x ps d) (h : j ≤ k) : Callee P w K mg k x ps d := by
  obtain ⟨f, fd, a, b, c, e⟩ := C.ex
  exact ⟨f, fd, a, b, c, fun base => (e base).mono h⟩
theorem Callee.imp (C : Callee P w K mg k x ps d) (h : ∀ ds m P EX, d' ds m P EX → d ds m P EX) : Callee P w K mg k x ps d' := by
  obtain ⟨f, fd, a, b, c, e⟩ := C.ex
  refine ⟨f, fd, a, b, c, fun base => (e base).imp fun vs H Q E q => ?_⟩
  obtain ⟨ds, m, P, EX, r, rm, q, q2⟩ := q
  exact ⟨ds, m, P, EX, r, rm, h _ _ _ _ q, q2⟩
/-- what nobody can ask is kept by every def -/
theorem FunAt.none (F : FunAt K mg x st ps) (h : ∀ ds m P EX, ¬ d ds m P EX) : Callee P w K mg k x ps d := by
  obtain ⟨f, fd, F1, a, c⟩ := F.ex
  have no : ∀ vs H Q E, ¬ lSp K d vs H Q E := fun vs H Q E q => by
    obtain ⟨ds, m, P, EX, _, _, q, _⟩ := q
    exact h _ _ _ _ q
  exact ⟨f, fd, a, F1.kp, c, fun base => ⟨fun vs H Q E q => absurd q (no vs H Q E), fun A outer s H args us vs Q E _ _ _ _ q => absurd q (no vs H Q E)⟩⟩
theorem FunAt.callee (F : FunAt K mg x st ps) (S : FnScope N ps (defScope st)) (len : ∀ ds m P EX, d ds m P EX → ds.length = ps.length)
    (t : TDS) (hread : ∀ ds m P EX, d ds m P EX → t { nx := fun _ m' => Ret P .non m', rt := Ret P } (dstart N ds) m)
    (hbody : ∀ (base : Heap) (f : Addr) (cdv : Value) (A : Around) (outer : List Env) (s : Shared) (H : Hp) (E : XK), Room k (A.deeper (envOfC x (defScope st) s.heap.objs.size f cdv)) → PSs (cxOf CX0 P w K mg base N x (defScope st) f cdv A outer s H E).nox (defBody st) (lS K H t)) :
    Callee P w K mg (k + 1) x ps d := by
  obtain ⟨f, fd, F1, a, c⟩ := F.ex
  exact ⟨f, fd, a, F1.kp, c, fun base => Fun.okD F1 S len t hread (hbody base f)⟩
end
section
variable {X : Cx} {H0 : Hp}
theorem qe_fn {k : Nat} {ps : List Str} {d : DSp} {x : Str} {p pos : Pos} {e : Expr} {es : List Expr} {t : TDA} (C : Callee X.prog X.w X.K X.mg k x ps d) (hr : Room k X.A) (hg : Gl X x)
    (ha : PA X (e :: es) (lA X.K H0 t)) (hdb : (x == ("__debug__" : Str)) = false := by decide) (he : starEach (e :: es) X.env = (false, eval e X.env) :: starEach es X.env := by rfl) (hpl : (backTo pos (starEach es X.env)).any (·.1) = false := by rfl) :
    PE X (.Call (.Name x p) (e :: es) [] pos) (lE X.K H0 (dCall d t)) := by
  obtain ⟨f, fd, a, b, c, F⟩ := C.ex
  exact qe_call (F X.base) hr hg a b (.all c) (E := E0) pass0 ha hdb he hpl
theorem qe_fn0 {k : Nat} {ps : List Str} {d : DSp} {x : Str} {p pos : Pos} (C : Callee X.prog X.w X.K X.mg k x ps d) (hr : Room k X.A) (hg : Gl X x)
    (hdb : (x == ("__debug__" : Str)) = false := by decide) : PE X (.Call (.Name x p) [] [] pos) (lE X.K H0 (dCall d dNil)) := by
  obtain ⟨f, fd, a, b, c, F⟩ := C.ex
  exact qe_call0 (F X.base) hr hg a b (.all c) (E := E0) pass0 hdb
structure ConstAt (K : PySem.W.Frag) (mg : Str → Option Value) (x : Str) (d : D) : Prop where
  ex : ∃ v u, mg x = some u ∧ RelV v u ∧ ∀ H, RD K H d v
theorem qe_const {x : Str} {d : D} {pos : Pos} (C : ConstAt X.K X.mg x d) (hg : Gl X x) (hd : (x == ("__debug__" : Str)) = false := by decide) : PE X (.Name x pos) (lE X.K H0 (dC d)) := by
  obtain ⟨v, u, h1, h2, h3⟩ := C.ex
  exact qe_glob hg h1 h2 h3 hd
/-- a built-in class as a value -/
theorem qe_type {x : Str} {T : String} {pos : Pos} (hg : Gl X x) (hm : X.mg x = none) (hv : bootBuiltins x = some (.type T)) (hn : x ≠ "__name__" := by decide) (hd : (x == ("__debug__" : Str)) = false := by decide) : PE X (.Name x pos) (lE X.K H0 (dC (.ty T))) :=
  qe_bltn (v := .ty T) hg hm hv rfl (fun _ => .ty T) hn hd
theorem od_in : OpD X (compareOp .In) (fun x y m P => (∃ xs, (y = .tup xs ∨ isL m y xs) ∧ (∃ z : Str, x = .str z ∧ ∃ ys : List Str, xs = ys.map D.str ∧ P (.bl (decide (z ∈ ys))) m)) ∨ ∃ c z, x = .str ⟨#[c]⟩ ∧ y = .str z ∧ P (.bl (decide (c ∈ z.cps.toList))) m) := by
  have h1 : OpD X (compareOp .In) (fun x y m P => ∃ xs, (y = .tup xs ∨ isL m y xs) ∧ (∃ z : Str, x = .str z ∧ ∃ ys : List Str, xs = ys.map D.str ∧ P (.bl (decide (z ∈ ys))) m)) := by
    refine ⟨_, op_in_seq, fun H m x y u v P Q rm rx ry p q => ?_⟩
    obtain ⟨xs, hy, z, rfl, ys, rfl, p⟩ := p
    cases rx.str_
    have fin : ∀ ys : List Str, (ys.map V.str).all flatV = true := by
      intro ys
      induction ys with
      | nil => rfl
      | cons a r ih => rw [List.map_cons, List.all_cons, ih]; rfl
    have eqq : ∀ ys : List Str, inV (.str z) (ys.map V.str) = decide (z ∈ ys) := by
      intro ys
      unfold inV
      induction ys with
      | nil => simp
      | cons a r ih =>
        rw [List.map_cons, List.any_cons, ih]
        show (a == z || decide (z ∈ r)) = _
        by_cases e : a = z
        · subst e; simp
        · have : (a == z) = false := by simpa using e
          rw [this]
          simp [Ne.symm e]
    have : ∃ p', v = .ref p' ∧ (SqL X.K H p' (ys.map V.str) ∨ SqT X.K H p' (ys.map V.str)) := by
      rcases hy with rfl | hy
      · obtain ⟨a, vs, rfl, h1, h2⟩ := ry.tup_
        cases rds_strs h2
        exact ⟨a, rfl, .inr h1⟩
      · obtain ⟨a, vs, rfl, h1, h2⟩ := rm.list ry hy
        cases rds_strs h2
        exact ⟨a, rfl, .inl h1⟩
    obtain ⟨p', rfl, h⟩ := this
    refine ⟨p', _, rfl, h, rfl, fin ys, ?_⟩
    show Q (.bl (if false = true then !inV (.str z) (ys.map V.str) else inV (.str z) (ys.map V.str))) H
    rw [if_neg Bool.false_ne_true, eqq]
    exact q _ m _ H (Keep.refl _) rm (.bl _) p
  have h2 : OpD X (compareOp .In) (fun x y m P => ∃ c z, x = .str ⟨#[c]⟩ ∧ y = .str z ∧ P (.bl (decide (c ∈ z.cps.toList))) m) := by
    refine ⟨_, op_in_sign, fun H m x y u v P Q rm rx ry p q => ?_⟩
    obtain ⟨c, z, rfl, rfl, p⟩ := p
    cases rx.str_
    cases ry.str_
    exact ⟨c, z, rfl, rfl, q _ m _ H (Keep.refl _) rm (.bl _) p⟩
  exact (h1.or h2)
def rInD : R2D := fun x y m P => (∃ xs, (y = .tup xs ∨ isL m y xs) ∧ (∃ z : Str, x = .str z ∧ ∃ ys : List Str, xs = ys.map D.str ∧ P (.bl (decide (z ∈ ys))) m)) ∨ ∃ c z, x = .str ⟨#[c]⟩ ∧ y = .str z ∧ P (.bl (decide (c ∈ z.cps.toList))) m
theorem od_inD : OpD X (compareOp .In) rInD := od_in
end
def sp_law : DSp := fun ds m P _ => ∃ ns : List Int, ds = [.rol (ns.map D.int)] ∧ ns.length ≤ 63 ∧ m = (fun _ => none) ∧ ∀ m', P (.bl true) m'
theorem law_end {P : Program} {w : World} {K : PySem.W.Frag} {mg : Str → Option Value} {k : Nat} {fa : Addr} (C : Callee P w K mg k "law" ["script"] sp_law) (hm : mg "law" = some (.ref fa)) :
    ∃ fd : FuncData, (∀ (s : Shared) (v : Value), BindsTo s fd ⟨[v], []⟩ [("script", v)]) ∧ ∀ base : Heap, K.In base → base.Ns mainGlobals mg → FnOk P w K mg base CX0 k fa fd ["script"] (lSp K sp_law) := by
  obtain ⟨f, fd, a, b, c, F⟩ := C.ex
  rw [hm] at a
  cases a
  exact ⟨fd, fun s v => .of_eq (c [v] rfl), fun base _ _ => F base⟩
theorem law_ask {K : PySem.W.Frag} {H : Hp} {a : Addr} {ns : List Int} (hl : ns.length ≤ 63) (ho : Only H) (hS : SqL K H a (ns.map V.int)) : lSp K sp_law [.ref a] H (fun v _ => v = .bl true) fun _ _ _ => False := by
  have hf : FrzL K H a (ns.map V.int) := by
    rcases hS with (h | ⟨o, h⟩) | h
    · rcases ho a with q | ⟨o, xs, q⟩
      · rw [h] at q; cases q
      · rw [h] at q; cases q
    · exact .inl ⟨o, h⟩
    · exact .inr h
  have rd : ∀ ns : List Int, RDs K H (ns.map D.int) (ns.map V.int) := by
    intro ns
    induction ns with
    | nil => exact .nil
    | cons n r ih => exact .cons (.int n) ih
  refine ⟨[.rol (ns.map D.int)], fun _ => none, fun d _ => d = .bl true, noX, .cons (.rol hf (rd ns)) .nil, (fun a o e => by cases e), ⟨ns, rfl, hl, rfl, fun _ => rfl⟩, ?_, wantsX0⟩
  rintro d m' v H' k r rd' rfl
  exact rd'.bl_
theorem FunAt.of {K : PySem.W.Frag} {h : Heap} {mg : Str → Option Value} {x : Str} {st : Stmt} {ps : List Str} {f : Addr} {oc kV doc pm cdv ct : Value} {od an : Option Addr} {osl : Array (Option Value)} (X : K.In h) (G : h.Ns mainGlobals mg)
    (a1 : PySem.W.nsIn K mainGlobals x = some (some (.ref f))) (l1 : K.lookup f = some ⟨oc, od, .func (PySem.W.fnOf x x (defArgs st) (defBody st) (defScope st) .none kV doc pm an cdv ct), osl⟩) (c1 : PySem.W.codeIn K cdv x = true) (k1 : PySem.W.keepIn K (.ref f) = true)
    (hb : ∀ (kV doc pm : Value) (an : Option Addr) (cdv ct : Value) (us : List Value), us.length = ps.length → bindArgs (PySem.W.fnOf x x (defArgs st) (defBody st) (defScope st) .none kV doc pm an cdv ct) ⟨us, []⟩ = pure (ps.zip us)) : FunAt K mg x st ps :=
  ⟨f, _, fun_mk l1 c1 k1, PySem.W.mg_of X G a1, hb kV doc pm an cdv ct⟩
theorem ConstAt.tup {K : PySem.W.Frag} {h : Heap} {mg : Str → Option Value} {x : Str} {a : Addr} {o : Obj} {its : Array Value} {n : Nat} {ds : List D} {vs : List V} (X : K.In h) (G : h.Ns mainGlobals mg)
    (a1 : PySem.W.nsIn K mainGlobals x = some (some (.ref a))) (l1 : K.lookup a = some o) (c : o.cls = .type "tuple") (hd : o.data = .seq its n) (hz : its.size ≤ sizeLine) (hv : Vals vs its.toList) (hr : ∀ H, RDs K H ds vs) : ConstAt K mg x (.tup ds) :=
  ⟨.ref a, .ref a, PySem.W.mg_of X G a1, rfl, fun H => .tup (.inr ⟨o, its, n, l1, c, hd, hz, hv⟩) (hr H)⟩
end Q4

set_option Elab.async false
set_option linter.all false
set_option maxRecDepth 100000
namespace Q4
open PySem L2
abbrev Go (P : DK) (t : TDS) (sd : DS) (m : M) : Prop := t { nx := fun _ m' => Ret P .non m', rt := Ret P } sd m
section
variable {X : Cx} {H0 : Hp}
def rNegD : R1D := fun x m P => match x with | .int i => P (.int (-i)) m | _ => False
theorem qe_neg {a : Expr} {pos : Pos} {t : TDE} (ha : PE X a (lE X.K H0 t)) : PE X (.UnaryOp .USub a pos) (lE X.K H0 (dUn rNegD t)) := peL (pe_un un_neg ha) fun _ _ _ => l_un fun H m x u P Q rm rx p q => by
  unfold rNegD at p
  split at p
  · cases rx.int_
    exact ⟨_, rfl, q _ m _ H (Keep.refl _) rm (.int _) p⟩
  · exact p.elim
def rNotInD : R2D := fun x y m P => (∃ xs, (y = .tup xs ∨ isL m y xs) ∧ (∃ z : Str, x = .str z ∧ ∃ ys : List Str, xs = ys.map D.str ∧ P (.bl (!decide (z ∈ ys))) m)) ∨ ∃ c z, x = .str ⟨#[c]⟩ ∧ y = .str z ∧ P (.bl (!decide (c ∈ z.cps.toList))) m
theorem flat_strs : ∀ ys : List Str, (ys.map V.str).all flatV = true
  | [] => rfl
  | a :: r => by rw [List.map_cons, List.all_cons, flat_strs r]; rfl
theorem inV_strs {z : Str} : ∀ ys : List Str, inV (.str z) (ys.map V.str) = decide (z ∈ ys)
  | [] => by simp [inV]
  | a :: r => by
    have ih := inV_strs (z := z) r
    unfold inV at ih ⊢
    rw [List.map_cons, List.any_cons, ih]
    show (a == z || decide (z ∈ r)) = _
    by_cases e : a = z
    · subst e; simp
    · have : (a == z) = false := by simpa using e
      rw [this]
      simp [Ne.symm e]
theorem od_notInD : OpD X (compareOp .NotIn) rNotInD := by
  have h1 : OpD X (compareOp .NotIn) (fun x y m P => ∃ xs, (y = .tup xs ∨ isL m y xs) ∧ (∃ z : Str, x = .str z ∧ ∃ ys : List Str, xs = ys.map D.str ∧ P (.bl (!decide (z ∈ ys))) m)) := by
    refine ⟨_, op_notIn_seq, fun H m x y u v P Q rm rx ry p q => ?_⟩
    obtain ⟨xs, hy, z, rfl, ys, rfl, p⟩ := p
    cases rx.str_
    have : ∃ p', v = .ref p' ∧ (SqL X.K H p' (ys.map V.str) ∨ SqT X.K H p' (ys.map V.str)) := by
      rcases hy with rfl | hy
      · obtain ⟨a, vs, rfl, h1, h2⟩ := ry.tup_
        cases rds_strs h2
        exact ⟨a, rfl, .inr h1⟩
      · obtain ⟨a, vs, rfl, h1, h2⟩ := rm.list ry hy
        cases rds_strs h2
        exact ⟨a, rfl, .inl h1⟩
    obtain ⟨p', rfl, h⟩ := this
    refine ⟨p', _, rfl, h, rfl, flat_strs ys, ?_⟩
    show Q (.bl (if true = true then !inV (.str z) (ys.map V.str) else inV (.str z) (ys.map V.str))) H
    rw [if_pos rfl, inV_strs]
    exact q _ m _ H (Keep.refl _) rm (.bl _) p
  have h2 : OpD X (compareOp .NotIn) (fun x y m P => ∃ c z, x = .str ⟨#[c]⟩ ∧ y = .str z ∧ P (.bl (!decide (c ∈ z.cps.toList))) m) := by
    refine ⟨_, op_notIn_sign, fun H m x y u v P Q rm rx ry p q => ?_⟩
    obtain ⟨c, z, rfl, rfl, p⟩ := p
    cases rx.str_
    cases ry.str_
    exact ⟨c, z, rfl, rfl, q _ m _ H (Keep.refl _) rm (.bl _) p⟩
  exact (h1.or h2)
end
end Q4

set_option Elab.async false
set_option linter.all false
set_option maxRecDepth 100000
namespace Q4
open PySem L2
theorem atI_int {ns : List Int} {i : Int} (h0 : 0 ≤ i) (h : i < (ns.map D.int).length) : atI (ns.map D.int) i = some (.int (ns.getD i.toNat 0)) := by
  rw [List.length_map] at h
  have e : i = ((i.toNat : Nat) : Int) := by omega
  have hl : i.toNat < ns.length := by omega
  rw [e]
  refine atI_nat ?_
  rw [List.getElem?_map, List.getElem?_eq_getElem hl, List.getD_eq_getElem?_getD, Int.toNat_natCast, List.getElem?_eq_getElem hl]
  rfl
/-! ### the law's state: four ints -/
structure S4 where
  a : Int
  b : Int
  c : Int
  d : Int
abbrev S4.D (s : S4) : DO := .lst [.int s.a, .int s.b, .int s.c, .int s.d]
structure S4.Ok (s : S4) : Prop where
  a : 0 ≤ s.a
  c : 0 ≤ s.c
  c1 : s.c < 2147483647
def sp_law_pick : DSp := fun ds m P _ => ∃ st ns many s, ds = [.ref st, .rol (List.map D.int ns), .int many] ∧ m st = some (S4.D s) ∧ s.Ok ∧ 0 < many ∧ many < 2 ^ 62 ∧
  ∀ r s', 0 ≤ r → r < many → S4.Ok s' → s'.d = s.d → P (.int r) (put m st s'.D)
theorem use_pick {st : Addr} {ns : List Int} {many : Int} {s : S4} {m : M} {P : DK} (h : m st = some (S4.D s)) (o : s.Ok) (h0 : 0 < many) (h1 : many < 2 ^ 62) (q : ∀ r s', 0 ≤ r → r < many → S4.Ok s' → s'.d = s.d → P (.int r) (put m st s'.D)) :
    sp_law_pick [.ref st, .rol (List.map D.int ns), .int many] m P noX := ⟨st, ns, many, s, rfl, h, o, h0, h1, q⟩
theorem S4.Ok.d {s : S4} (o : s.Ok) (d : Int) : S4.Ok ⟨s.a, s.b, s.c, d⟩ := ⟨o.a, o.c, o.c1⟩
theorem use_pick2 {st : Addr} {ns : List Int} {many a b c d : Int} {m : M} {P : DK} (h : m st = some (.lst [.int a, .int b, .int c, .int d])) (o : S4.Ok ⟨a, b, c, d⟩) (h0 : 0 < many) (h1 : many < 2 ^ 62) (q : ∀ r s', 0 ≤ r → r < many → S4.Ok s' → s'.d = d → P (.int r) (put m st s'.D)) :
    sp_law_pick [.ref st, .rol (List.map D.int ns), .int many] m P noX := ⟨st, ns, many, ⟨a, b, c, d⟩, rfl, h, o, h0, h1, q⟩
theorem s_new {m : M} {Q : Addr → Prop} (h : ∀ p, m p = none → Q p) : ∀ p, m p = none → Q p := h
theorem r_inL {a : Addr} {m : M} {z : Str} {ys : List Str} {P : DK} (h : m a = some (.lst (ys.map D.str))) (q : P (.bl (decide (z ∈ ys))) m) : rInD (.str z) (.ref a) m P := .inl ⟨_, .inr h, z, rfl, ys, rfl, q⟩
theorem r_inT {m : M} {z : Str} {ys : List Str} {P : DK} (q : P (.bl (decide (z ∈ ys))) m) : rInD (.str z) (.tup (ys.map D.str)) m P := .inl ⟨_, .inl rfl, z, rfl, ys, rfl, q⟩
theorem r_ninL {a : Addr} {m : M} {z : Str} {ys : List Str} {P : DK} (h : m a = some (.lst (ys.map D.str))) (q : P (.bl (!decide (z ∈ ys))) m) : rNotInD (.str z) (.ref a) m P := .inl ⟨_, .inr h, z, rfl, ys, rfl, q⟩
/-- a plain text -/
structure Pl (z : Str) (n : Nat) : Prop where
  l : z.length ≤ n
  c : ∀ c ∈ z.cps.toList, c < 128
theorem Pl.one {c : Nat} (h : c < 128) : Pl ⟨#[c]⟩ 1 := ⟨Nat.le_refl _, fun d hd => by simp at hd; omega⟩
theorem Pl.app {z w : Str} {n k : Nat} (h : Pl z n) (h' : Pl w k) : Pl (z ++ w) (n + k) := by
  have e : (z ++ w).cps = z.cps ++ w.cps := rfl
  refine ⟨?_, fun c hc => ?_⟩
  · show (z ++ w).cps.size ≤ _
    rw [e, Array.size_append]
    exact Nat.add_le_add h.l h'.l
  · rw [e, Array.toList_append] at hc
    rcases List.mem_append.mp hc with q | q
    · exact h.c c q
    · exact h'.c c q
theorem Pl.mono {z : Str} {n k : Nat} (h : Pl z n) (e : n ≤ k) : Pl z k := ⟨Nat.le_trans h.l e, h.c⟩
theorem strAt {z : Str} {n : Nat} {r : Int} (hn : z.cps.toList.length = n) (h : z.cps.toList.all (fun c => decide (c < 128)) = true) (h0 : 0 ≤ r) (h1 : r < n) : ∃ c, atI z.cps.toList r = some c ∧ c < 128 := by
  obtain ⟨j, rfl⟩ : ∃ j : Nat, r = j := ⟨r.toNat, by omega⟩
  have hl : j < z.cps.toList.length := by omega
  refine ⟨z.cps.toList[j], atI_nat (List.getElem?_eq_getElem hl), ?_⟩
  have := List.all_eq_true.mp h _ (List.getElem_mem hl)
  simpa using this
theorem szA {z w : Str} {n k : Nat} (h : Pl z n) (h' : Pl w k) (e : n + k ≤ 100000) : z.length + w.length ≤ sizeLine := by
  have h1 := h.l
  have h2 := h'.l
  have : sizeLine = 16777216 := sizeLine_eq
  omega
theorem plLit {z : Str} {n : Nat} (h : z.cps.toList.all (fun c => decide (c < 128)) = true) (hl : z.length ≤ n) : Pl z n := ⟨hl, fun c hc => by simpa using List.all_eq_true.mp h c hc⟩
theorem put_self {m : M} {a : Addr} {o : DO} (h : m a = some o) : put m a o = m := by
  funext b
  by_cases e : b = a
  · subst e; rw [put_same, h]
  · rw [put_ne e]
theorem put_swap {m : M} {a b : Addr} {o u o' : DO} (h : b ≠ a) : put (put (put m a o) b u) a o' = put (put m a o') b u := by
  rw [put_comm h, put_put]
theorem kt_NoneType_bool : kitB "NoneType" "bool" = some false := by decide +kernel
theorem kt_NoneType_int : kitB "NoneType" "int" = some false := by decide +kernel
theorem kt_NoneType_str : kitB "NoneType" "str" = some false := by decide +kernel
theorem kt_NoneType_tuple : kitB "NoneType" "tuple" = some false := by decide +kernel
theorem kt_NoneType_list : kitB "NoneType" "list" = some false := by decide +kernel
theorem kt_bool_bool : kitB "bool" "bool" = some true := by decide +kernel
theorem kt_bool_int : kitB "bool" "int" = some true := by decide +kernel
theorem kt_bool_str : kitB "bool" "str" = some false := by decide +kernel
theorem kt_bool_tuple : kitB "bool" "tuple" = some false := by decide +kernel
theorem kt_bool_list : kitB "bool" "list" = some false := by decide +kernel
theorem kt_int_bool : kitB "int" "bool" = some false := by decide +kernel
theorem kt_int_int : kitB "int" "int" = some true := by decide +kernel
theorem kt_int_str : kitB "int" "str" = some false := by decide +kernel
theorem kt_int_tuple : kitB "int" "tuple" = some false := by decide +kernel
theorem kt_int_list : kitB "int" "list" = some false := by decide +kernel
theorem kt_str_bool : kitB "str" "bool" = some false := by decide +kernel
theorem kt_str_int : kitB "str" "int" = some false := by decide +kernel
theorem kt_str_str : kitB "str" "str" = some true := by decide +kernel
theorem kt_str_tuple : kitB "str" "tuple" = some false := by decide +kernel
theorem kt_str_list : kitB "str" "list" = some false := by decide +kernel
theorem kt_tuple_bool : kitB "tuple" "bool" = some false := by decide +kernel
theorem kt_tuple_int : kitB "tuple" "int" = some false := by decide +kernel
theorem kt_tuple_str : kitB "tuple" "str" = some false := by decide +kernel
theorem kt_tuple_tuple : kitB "tuple" "tuple" = some true := by decide +kernel
theorem kt_tuple_list : kitB "tuple" "list" = some false := by decide +kernel
theorem kt_list_bool : kitB "list" "bool" = some false := by decide +kernel
theorem kt_list_int : kitB "list" "int" = some false := by decide +kernel
theorem kt_list_str : kitB "list" "str" = some false := by decide +kernel
theorem kt_list_tuple : kitB "list" "tuple" = some false := by decide +kernel
theorem kt_list_list : kitB "list" "list" = some true := by decide +kernel
theorem r_eqB {a b : Bool} {m : M} {P : DK} (q : P (.bl (decide (a = b))) m) : rEqD (.bl a) (.bl b) m P := q
def plB (z : Str) (n : Nat) : Bool := decide (z.length ≤ n) && z.cps.toList.all fun c => decide (c < 128)
theorem pl_of {z : Str} {n : Nat} (h : plB z n = true) : Pl z n := by
  unfold plB at h
  rw [Bool.and_eq_true] at h
  exact plLit h.2 (of_decide_eq_true h.1)
theorem str_small : ∀ n : Nat, n < 128 → plB (Str.ofString (toString (n : Int))) 3 = true := by decide +kernel
theorem str_int {i : Int} (h0 : 0 ≤ i) (h : i < 128) : Pl (Str.ofString (toString i)) 3 := by
  obtain ⟨n, rfl⟩ : ∃ n : Nat, i = n := ⟨i.toNat, by omega⟩
  exact pl_of (str_small n (by omega))
theorem log2_small {i : Int} (h0 : 0 ≤ i) (h : i < 2 ^ 62) : i.natAbs.log2 < 1920 := by
  have : i.natAbs < 2 ^ 62 := by omega
  by_cases e : i.natAbs = 0
  · rw [e]; decide
  · have := (Nat.log2_lt e).mpr this
    omega
theorem cut_to {α : Type} (ys : List α) (k : Nat) : cutL ys none (some (k : Int)) = ys.take k := by
  unfold cutL
  rw [HT.sIx_nat, HT.sIx_none, List.drop_zero, Nat.sub_zero]
  by_cases h : k ≤ ys.length
  · rw [Nat.min_eq_left h]
  · rw [Nat.min_eq_right (by omega), List.take_of_length_le (Nat.le_refl _), List.take_of_length_le (by omega)]
theorem ite_nt {A B : Prop} (h : B) : if (!true) = true then A else B := h
theorem ite_nf {A B : Prop} (h : A) : if (!false) = true then A else B := h
theorem iteDT {c A B : Prop} [Decidable c] (h : c) (q : A) : if decide c = true then A else B := by rw [if_pos (decide_eq_true h)]; exact q
theorem iteDF {c A B : Prop} [Decidable c] (h : ¬ c) (q : B) : if decide c = true then A else B := by rw [if_neg (by rw [decide_eq_true_eq]; exact h)]; exact q
theorem iteNT {c A B : Prop} [Decidable c] (h : ¬ c) (q : A) : if (!decide c) = true then A else B := by rw [decide_eq_false h]; exact q
theorem iteNF {c A B : Prop} [Decidable c] (h : c) (q : B) : if (!decide c) = true then A else B := by rw [decide_eq_true h]; exact q
/-- a row of texts as data -/
def strsOf : List D → Option (List Str)
  | [] => some []
  | .str z :: r => (strsOf r).map (z :: ·)
  | _ => none
theorem strsOf_eq : ∀ {xs : List D} {ys : List Str}, strsOf xs = some ys → xs = ys.map D.str
  | [], _, h => by cases h; rfl
  | .str z :: r, _, h => by
    unfold strsOf at h
    cases e : strsOf r with
    | none => rw [e] at h; cases h
    | some w => rw [e] at h; cases h; rw [strsOf_eq e]; rfl
  | .non :: _, _, h => by cases h
  | .bl _ :: _, _, h => by cases h
  | .int _ :: _, _, h => by cases h
  | .tup _ :: _, _, h => by cases h
  | .rol _ :: _, _, h => by cases h
  | .ref _ :: _, _, h => by cases h
  | .ty _ :: _, _, h => by cases h
section
variable {m : M} {z : Str} {xs : List D} {ys : List Str} {P : DK} {a : Addr}
theorem r_inT' (h : strsOf xs = some ys) (q : P (.bl (decide (z ∈ ys))) m) : rInD (.str z) (.tup xs) m P := by rw [strsOf_eq h]; exact r_inT q
theorem r_inL' (h : m a = some (.lst xs)) (e : strsOf xs = some ys) (q : P (.bl (decide (z ∈ ys))) m) : rInD (.str z) (.ref a) m P := by rw [strsOf_eq e] at h; exact r_inL h q
theorem r_ninT' (h : strsOf xs = some ys) (q : P (.bl (!decide (z ∈ ys))) m) : rNotInD (.str z) (.tup xs) m P := .inl ⟨_, .inl rfl, z, rfl, ys, strsOf_eq h, q⟩
theorem r_ninL' (h : m a = some (.lst xs)) (e : strsOf xs = some ys) (q : P (.bl (!decide (z ∈ ys))) m) : rNotInD (.str z) (.ref a) m P := by rw [strsOf_eq e] at h; exact r_ninL h q
/-- a comprehension that maps -/
theorem CT_map {α : Type} {ks : List α} {e f : α → D} {g : TDG} {te : TDE} {vs : List Nat} {sd : DS} (hl : ks.length ≤ 100000) (hf : ∀ k ∈ ks, ∀ (m : M) (Q : DK), Q (f k) m → g (e k) (wipeD sd vs) m fun sd2 m3 => te sd2 m3 Q)
    (q : ∀ p, m p = none → P (.ref p) (put m p (.lst (ks.map f)))) : CT (ks.map e) g dYes te vs sd m P := by
  intro p hp
  refine ⟨fun i acc m2 => m2 = m ∧ acc = (ks.take i).map f, ⟨rfl, rfl⟩, ?_, ?_⟩
  · rintro i x acc m2 hx ⟨rfl, rfl⟩
    rw [List.getElem?_map] at hx
    cases hk : ks[i]? with
    | none => rw [hk] at hx; cases hx
    | some k =>
      rw [hk] at hx
      have hx : e k = x := by simpa using hx
      subst hx
      have hlt := (List.getElem?_eq_some_iff.mp hk).1
      refine hf k (List.mem_of_getElem? hk) _ _ ⟨m2, Less.refl _, ?_, rfl, ?_⟩
      · rw [List.length_map, List.length_take, PySem.sizeLine_eq]; omega
      · rw [List.take_add_one, hk, List.map_append]; rfl
  · rintro acc m2 ⟨rfl, rfl⟩
    rw [List.length_map, List.take_length]
    exact q p hp
theorem r_allM {α : Type} {ks : List α} {b : α → Bool} (h : m a = some (.lst (ks.map fun k => .bl (b k)))) (q : P (.bl (ks.all b)) m) : rAllD [.ref a] m P := by
  refine ⟨ks.map b, ?_, ?_⟩
  · show m a = _
    rw [h, List.map_map]; rfl
  · rw [List.all_map]; exact q
theorem r_anyM {α : Type} {ks : List α} {b : α → Bool} (h : m a = some (.lst (ks.map fun k => .bl (b k)))) (q : P (.bl (ks.any b)) m) : rAnyD [.ref a] m P := by
  refine ⟨ks.map b, ?_, ?_⟩
  · show m a = _
    rw [h, List.map_map]; rfl
  · rw [List.any_map]; exact q
end
theorem getMap {α β : Type} {ks : List α} {f : α → β} {i : Nat} {x : β} (h : (ks.map f)[i]? = some x) : ∃ k, ks[i]? = some k ∧ k ∈ ks ∧ x = f k := by
  rw [List.getElem?_map] at h
  cases e : ks[i]? with
  | none => rw [e] at h; cases h
  | some k => rw [e] at h; cases h; exact ⟨k, rfl, List.mem_of_getElem? e, rfl⟩
theorem allTake {α : Type} {ks : List α} {b : α → Bool} {i : Nat} {k : α} (h : ∀ k ∈ ks.take i, b k = true) (hk : ks[i]? = some k) (hb : b k = true) : ∀ k ∈ ks.take (i + 1), b k = true := by
  intro x hx
  rw [List.take_add_one, hk] at hx
  rcases List.mem_append.mp hx with q | q
  · exact h x q
  · simp at q; subst q; exact hb
theorem all_no {α : Type} {ks : List α} {b : α → Bool} {k : α} (h : k ∈ ks) (hb : b k = false) : ks.all b = false := by
  rw [Bool.eq_false_iff]
  intro e
  have := List.all_eq_true.mp e k h
  rw [hb] at this
  cases this
theorem all_yes {α : Type} {ks : List α} {b : α → Bool} {n : Nat} (h : ∀ k ∈ ks.take n, b k = true) (e : n = ks.length) : ks.all b = true := by
  subst e
  rw [List.take_length] at h
  exact List.all_eq_true.mpr h
end Q4

set_option Elab.async false
set_option linter.all false
set_option maxRecDepth 100000
namespace Q4
open PySem L2 PyProof.Rows
def maxInt (d : Int) : List Int → Int
  | [] => d
  | n :: r => r.foldl max n
theorem cmpInts (xs : List Int) : PySem.W.AlikeAll (xs.map PyData.int) := by
  refine ⟨fun x hx y hy => ?_, fun x hx => ?_⟩
  · obtain ⟨a, _, rfl⟩ := List.mem_map.mp hx
    obtain ⟨b, _, rfl⟩ := List.mem_map.mp hy
    rfl
  · obtain ⟨a, _, rfl⟩ := List.mem_map.mp hx
    intro h; cases h
theorem depthInts : ∀ xs : List Int, PyData.depthAll (xs.map PyData.int) ≤ 1
  | [] => by unfold PyData.depthAll; decide
  | x :: xs => by
    rw [List.map_cons]
    unfold PyData.depthAll
    have := depthInts xs
    have e : (PyData.int x).depth ≤ 1 := by unfold PyData.depth; decide
    omega
section
variable {X : Cx} {H0 : Hp}
def rMaxKw (K : PySem.W.Frag) : List V → List V → Hp → VK → Prop := fun vs zs H Q => ∃ (a : Addr) (ns : List Int) (d : Int), vs = [V.ref a] ∧ zs = [.int d] ∧ SqL K H a (ns.map V.int) ∧ Q (.int (maxInt d ns)) H
theorem cr_maxKw (hc : X.calm = true) (hu : X.A.units + 64 < cLine) : CallRK X (.builtin "max") [Str.ofString "default"] (rMaxKw X.K) := by
  intro pins s σ H vs zs us ws Q I r rz h
  obtain ⟨a, ns, d, rfl, rfl, hs, q⟩ := h
  obtain ⟨its, rv, hl, _⟩ := I.list hs
  obtain rfl := Vals.ref1 r
  obtain ⟨w1, rfl, e1⟩ := vals1 rz
  obtain ⟨td, rfl⟩ : ∃ t, w1 = Value.int d t := e1
  have hd := depthInts ns
  refine PySem.W.max_list_default (I.ok.hd hc) hl.isList (IntsAre.reads _ rv.ints) (cmpInts ns) (by omega) (fun e h' tk hk => ?_) fun y ys i v h' tk bs e hv rd hk => ?_
  · cases ns with
    | nil => exact ⟨.int _, H, I.kept hk, ⟨td, rfl⟩, q⟩
    | cons n r => cases e
  · cases ns with
    | nil => cases e
    | cons n r =>
      cases e
      rw [PySem.W.maxD_ints] at rd
      obtain ⟨t, rfl, _⟩ := reads_int_inv rd
      exact ⟨.int _, H, I.kept hk, ⟨t, rfl⟩, q⟩
def dMaxD (t : TDA) (td : TDE) : TDE := fun sd m P => t sd m fun xs m1 => td sd m1 fun y m2 => ∃ (x : D) (ns : List Int) (d : Int), xs = [x] ∧ isL m2 x (ns.map D.int) ∧ y = .int d ∧ P (.int (maxInt d ns)) m2
theorem qe_maxD {e d : Expr} {es : List Expr} {x : Str} {p pos kpos : Pos} {t : TDA} {td : TDE} (hc : X.calm = true) (hu : X.A.units + 64 < cLine) (hg : Gl X x) (hm : X.mg x = none) (ha : PA X (e :: es) (lA X.K H0 t)) (hd : PE X d (lE X.K H0 td))
    (hv : bootBuiltins x = some (.builtin "max")) (hn : x ≠ "__name__" := by decide) (hdb : (x == ("__debug__" : Str)) = false := by decide)
    (he : backTo pos (starEach (e :: es) X.env) = (false, eval e X.env) :: backTo pos (starEach es X.env) := by rfl) (hpl : (backTo pos (starEach (e :: es) X.env)).any (·.1) = false := by rfl)
    (hall : (backToKw pos (keywordEach [⟨some "default", d, kpos⟩] X.env)).all (·.1.isSome) = true := by rfl) (hnone : (backToKw pos (keywordEach [⟨some "default", d, kpos⟩] X.env)).any (·.1.isNone) = false := by rfl) (hks : (backToKw pos (keywordEach [⟨some "default", d, kpos⟩] X.env)).filterMap (·.1) = [Str.ofString "default"] := by rfl) :
    PE X (.Call (.Name x p) (e :: es) [⟨some "default", d, kpos⟩] pos) (lE X.K H0 (dMaxD t td)) :=
  peL (pe_callBK (cr_maxKw hc hu) hg hm hv ha (pk_cons hd pk_nil) hn hdb he hpl hall hnone hks) fun σ H Q h => by
    obtain ⟨sd, m, P, a, p, q⟩ := h
    refine ⟨sd, m, _, a, p, fun xs m1 us H1 k1 r1 d1 p1 => ?_⟩
    refine ⟨sd, m1, _, a.to k1 r1, p1, fun y m2 u H2 k2 r2 d2 p2 => ?_⟩
    obtain ⟨x, ns, d, rfl, h, rfl, p3⟩ := p2
    cases d2.int_
    obtain ⟨u1, rfl, r⟩ := (d1.mono k2).one_
    obtain ⟨_, vs, rfl, h1, h2⟩ := r2.list r h
    cases rds_ints h2
    exact ⟨_, ns, d, rfl, rfl, h1, q _ m2 _ H2 (k1.trans k2) r2 (.int _) p3⟩
end
end Q4

set_option Elab.async false
set_option linter.all false
set_option maxRecDepth 100000
namespace Q4
open PySem L2 PyProof.Rows PySem.Spec
/-! ### a tuple with its places: pairs (number, item) -/
set_option maxHeartbeats 1000000 in
theorem enum_one {x : Value} {it : Obj} {St : Heap → Prop} (B : Begins x it St) :
    Meets (Builtin.«enumerate.__new__» ⟨[.type "enumerate", x], []⟩) (fun _ R z => St z.heap ∧ R (.ok (.ret (.ref (z.heap.push it).objs.size)))
      { z with heap := (z.heap.push it).push { cls := .type "enumerate", data := .fields #[.none, .bool false, .ref z.heap.objs.size, rawInt 0, .none, .none] } }) :=
  .of_wp fun pr w A R z hz => by
    obtain ⟨hp, ge, dr, tok, osy⟩ := z
    obtain ⟨st, hz⟩ := hz
    have k1 := sub_enumerate
    have begin_ : ∀ {A' : Around} {G : Value → Shared → Prop} {Q : Value → Shared → Prop}, Q (.ref hp.objs.size) ⟨hp.push it, ge, dr, tok, osy⟩ → wpAny (model pr w) A' (pyIter x) Q G ⟨hp, ge, dr, tok, osy⟩ := fun q => B.iter pr w _ _ ⟨hp, ge, dr, tok, osy⟩ _ st q
    wp_walk using begin_
    refine wpAny_stack_any fun _ => wpAny_pure ?_
    split
    · rename_i cl _ _ _ _ _
      cases (cl == Value.type "enumerate") <;> (wp_walk using begin_; exact ⟨_, rfl, hz⟩)
    · wp_walk using begin_
      exact ⟨_, rfl, hz⟩
theorem enum_call {pr : Program} {w : World} {A : Around} {G : Value → Shared → Prop} {z : Shared} {x : Value} {it : Obj} {St : Heap → Prop} {Q : Value → Shared → Prop} (B : Begins x it St) (st : St z.heap)
    (q : ∀ h2, IsEnum h2 (z.heap.objs.size + 1) z.heap.objs.size 0 .none → h2.get? z.heap.objs.size = some it → h2.objs.size = z.heap.objs.size + 2 → (∀ b o, z.heap.get? b = some o → h2.get? b = some o) → Q (.ref (z.heap.objs.size + 1)) { z with heap := h2 }) :
    wpAny (model pr w) A (call (.type "enumerate") [x]) Q G z := by
  have sz : (z.heap.push it).objs.size = z.heap.objs.size + 1 := Heap.size_push ..
  refine callType_new F.called_enumerate (by decide) (F.typeCall_enumerate_1 _) (F.newCall_enumerate_1 _) (fun ob => F.args_object_init_2 ob _) F.entry_enumerate_new (enum_one B) ⟨st, ?_⟩
  show _ ∧ _
  rw [sz]
  have e0 := Heap.get?_push_size (z.heap.push it) (o := { cls := .type "enumerate", data := .fields #[.none, .bool false, .ref z.heap.objs.size, rawInt 0, .none, .none] }) rfl
  rw [sz] at e0
  exact ⟨⟨_, e0, rfl⟩, q _ e0 (Heap.get?_push_of_some _ (Heap.get?_push_size _ B.free)) (by rw [Heap.size_push, sz]) fun b o e => Heap.get?_push_of_some _ (Heap.get?_push_of_some _ e)⟩
/-- the tuple at a -/
def IteT (K : PySem.W.Frag) (a : Addr) : It :=
  ⟨fun i H => ∃ (ys : List V) (y : V), SqT K H a ys ∧ ys[i]? = some y, fun i H v H' => ∃ T y, v = .ref T ∧ H T = none ∧ H' = upd H T (.tup [.int (i : Nat), y]) ∧ ∀ ys, SqT K H a ys → ys[i]? = some y, fun i H => ∃ ys : List V, SqT K H a ys ∧ ys.length ≤ i⟩
theorem turn_enumT {P : Program} {w : World} {K : PySem.W.Frag} {els : List Expr} {k : Nat} {ps : Pos} (a e it : Addr) (hae : a ≠ e) (hai : a ≠ it) :
    Turn P w K (.Tuple els k ps) (IteT K a) [e, it] e (fun i h => (∃ old, IsEnum h e it ((i : Nat) : Int) old) ∧ h.IsTupleIter it a i ∧ e ≠ it) where
  mem := List.mem_cons_self
  obj := fun i h ⟨⟨old, he⟩, ⟨o, ho, hc, hd⟩, _⟩ b hb => by
    rcases List.mem_cons.mp hb with rfl | hb
    · exact ⟨_, he, fun v q => nomatch q⟩
    · rw [List.mem_singleton.mp hb]; exact ⟨o, ho, fun v q => by rw [hd] at q; cases q⟩
  keep := fun i h h' ⟨⟨old, he⟩, hi, hne⟩ kk => ⟨⟨old, kk e List.mem_cons_self _ he⟩, hi.at fun o q => kk it (List.mem_cons_of_mem _ List.mem_cons_self) o q, hne⟩
  item := by
    intro X hP hw hK hc i pins s σ H G I hf st hg
    subst hP hw hK
    obtain ⟨⟨old, he⟩, hit, hne⟩ := st
    obtain ⟨ys, y, hq, hy⟩ := hg
    obtain ⟨its, rv, p, hz⟩ := I.tuple hq
    obtain ⟨u, hu, ru⟩ := rv.get hy
    have lt1 : e < s.heap.objs.size := Heap.lt_size he
    have lt2 : it < s.heap.objs.size := by obtain ⟨_, q, _⟩ := hit; exact Heap.lt_size q
    have hlen : i < its.toArray.size := by
      have := (List.getElem?_eq_some_iff.mp hu).1
      simpa using this
    refine wpAny_pyNext_enum_itemC (Draws.tuple (A := X.A.in1) (I.ok.hd hc) it a hai its.toArray) he ⟨hit, (show s.heap.IsTuple a its.toArray from p)⟩ hlen hne (by simp [hne, Ne.symm hae]) fun x h' tk hx ho hst hT hsz hk => ?_
    obtain rfl : x = u := by
      have : its[i]? = some x := by simpa using hx
      rw [hu] at this
      exact (Option.some.inj this).symm
    refine ⟨_, rfl, wpAny_letOwnedTupleGo_enum (s := { s with heap := h', toks := tk + 1 }) ho fun h2 he2 sb => ?_⟩
    have hT2 := (sb.2 _ (Nat.ne_of_gt lt1)).trans hT
    have new : ObjOk X.prog X.w (upd H s.heap.objs.size (.tup [.int (i : Nat), y])) h2 s.heap.objs.size (.tup [.int (i : Nat), y]) :=
      ⟨by show 2 ≤ sizeLine; decide, [.int i tk, x], .cons ⟨_, rfl⟩ (.cons ru .nil), ⟨_, hT2, rfl, _, rfl⟩⟩
    have I1 : Inv X pins σ (upd H s.heap.objs.size (.tup [.int (i : Nat), y])) { s with heap := h2, toks := tk + 1 } :=
      I.turnedNew (ch := [e, it]) (fun b ob hb q => (sb.2 b (fun w => hb (by simp [w]))).trans (hk b ob (fun w => hb (by simp [w])) (fun w => hb (by simp [w])) q)) hf (Nat.le_refl _) new
    refine ⟨.ref s.heap.objs.size, _, I1, rfl, ⟨_, y, rfl, I.hok.fresh (Nat.le_refl _), rfl, fun zs hzs => by rw [I.tuple_inj hzs hq]; exact hy⟩, ⟨⟨x, ?_⟩, hst.1.at fun o q => (sb.2 it (Ne.symm hne)).trans q, hne⟩, fun b hb => ?_⟩
    · have e1 : ((i + 1 : Nat) : Int) = (i : Int) + 1 := by omega
      rw [e1]
      exact he2
    · have hb' : b < s.heap.objs.size := by
        rcases List.mem_cons.mp hb with rfl | hb
        · exact lt1
        · rw [List.mem_singleton.mp hb]; exact lt2
      rw [upd_ne (Nat.ne_of_lt hb')]
      exact (hf b hb).1
  done := by
    intro X hP hw hK hc i pins s σ H G I hf st hg
    subst hP hw hK
    obtain ⟨⟨old, he⟩, hit, hne⟩ := st
    obtain ⟨ys, hq, hy⟩ := hg
    obtain ⟨its, rv, p, hz⟩ := I.tuple hq
    obtain ⟨f0, f1, f2, f3, f4, f5⟩ := hf it (List.mem_cons_of_mem _ List.mem_cons_self)
    have hl := rv.length
    have Dz : Draws X.prog X.w X.A.in1 it [it, a] i (fun _ _ => False) (fun j h => j = i ∧ h.IsTupleIter it a i ∧ h.IsTuple a its.toArray) :=
      { live := fun _ _ z => let ⟨o, ho, _⟩ := z.2.1; ⟨o, ho⟩
        frame := fun _ _ _ z kk => ⟨z.1, z.2.1.at fun o q => kk it List.mem_cons_self o q, z.2.2.at fun o q => kk a (List.mem_cons_of_mem _ List.mem_cons_self) o q⟩
        item := fun j _ _ _ hj z _ => absurd z.1 (Nat.ne_of_lt hj)
        done := fun z Q G' st' q' => wpAny_nextOf_tuple_end (A := X.A.in1) (I.ok.hd hc) st'.2.1 st'.2.2 (by simp; omega) q' }
    exact wpAny_pyNext_enum_endD Dz he ⟨rfl, hit, (show s.heap.IsTuple a its.toArray from p)⟩ fun h' eb => ⟨rfl, I.turned (t' := s.toks) (fun b o hb q => eb b o hb q) f0 f1 f3 f4 f5⟩
  self := fun A i s Q G st h => let ⟨⟨_, he⟩, _⟩ := st; wpAny_pyIter_enum he h
def iEnumT (K : PySem.W.Frag) (ta : TA) : TI := fun σ H R => ta σ H fun vs H1 => ∃ a ys, vs = [.ref a] ∧ SqT K H1 a ys ∧ R (IteT K a) H1
theorem pi_enumT {X : Cx} {e : Expr} {ta : TA} {p pos tps : Pos} {els : List Expr} {k : Nat} (hg : Gl X "enumerate") (hm : X.mg "enumerate" = none) (ha : PA X [e] ta) (hs : starEach [e] X.env = [(false, eval e X.env)] := by rfl) :
    PI X (.Tuple els k tps) (.Call (.Name "enumerate" p) [e] [] pos) (iEnumT X.K ta) := by
  refine ⟨fun pins s σ H R I h => ?_⟩
  refine Call_ (ld_blt I hg hm boot_enumerate (PyProof.Rows.callWith_type1 (thn (ha.run pos pins s σ H _ I h) fun us z ⟨vs, H1, I1, r1, q1⟩ => ?_) hs rfl))
  obtain ⟨a, ys, rfl, hq, q⟩ := q1
  obtain rfl := Vals.ref1 r1
  obtain ⟨its, rv, pt, hz⟩ := I1.tuple hq
  have pt' : z.heap.IsTuple a its.toArray := pt
  have lta : a < z.heap.objs.size := by obtain ⟨o, ho, _⟩ := pt'; exact Heap.lt_size ho
  refine enum_call (begins_tuple a its.toArray) pt' fun h' he ho hsz kk => wpAny_pyIter_enum he ?_
  have I2 : Inv X pins σ H1 { z with heap := h' } := I1.kept (t' := z.toks) kk
  refine ⟨z.heap.objs.size + 1, [z.heap.objs.size + 1, z.heap.objs.size], _, _, H1, rfl, I2, turn_enumT a (z.heap.objs.size + 1) z.heap.objs.size (Nat.ne_of_lt (Nat.lt_succ_of_lt lta)) (Nat.ne_of_lt lta), ⟨⟨.none, he⟩, ⟨_, ho, rfl, rfl⟩, Nat.succ_ne_self _⟩, fun b hb => ?_, q⟩
  have le : z.heap.objs.size ≤ b := by
    rcases List.mem_cons.mp hb with rfl | hb
    · exact Nat.le_add_right _ _
    · rw [List.mem_singleton.mp hb]; exact Nat.le_refl _
  exact I1.fpOk le (I1.hok.fresh le)
end Q4

set_option Elab.async false
set_option linter.all false
set_option maxRecDepth 100000
namespace Q4
open PySem L2
/-! ### numbered items -/
def numd (xs : List D) : List D := xs.mapIdx fun i x => .tup [.int (i : Nat), x]
theorem numd_get {xs : List D} {i : Nat} : (numd xs)[i]? = (xs[i]?).map fun x => .tup [.int (i : Nat), x] := by
  unfold numd
  rw [List.getElem?_mapIdx]
theorem numd_len {xs : List D} : (numd xs).length = xs.length := by unfold numd; rw [List.length_mapIdx]
theorem lift_enumT {K : PySem.W.Frag} {H : Hp} {b : Addr} {xs : List D} {vs : List V} (h1 : SqT K H b vs) (h2 : RDs K H xs vs) : LiftIt K H (jTup (numd xs)) (IteT K b) := fun H2 k2 i m2 r2 o e => by
  have e : o = (numd xs)[i]? := e
  rw [numd_get] at e
  cases e2 : xs[i]? with
  | none =>
    rw [e2] at e
    subst e
    exact ⟨vs, k2.t _ _ h1, by rw [← h2.length]; exact List.getElem?_eq_none_iff.mp e2⟩
  | some x =>
    rw [e2] at e
    subst e
    obtain ⟨u, e3, r3⟩ := h2.get e2
    refine ⟨⟨vs, u, k2.t _ _ h1, e3⟩, fun v H3 y => ?_⟩
    obtain ⟨T, z, rfl, hn, rfl, hz⟩ := y
    have e5 := hz vs (k2.t _ _ h1)
    rw [e3] at e5
    cases e5
    have kk : Keep K H2 (upd H2 T (.tup [.int (i : Nat), u])) := Keep.new hn
    exact ⟨kk, r2.new hn, .tup (.inl (.inl upd_same)) ((RDs.cons (.int _) (.cons (r3.mono k2) .nil)).mono kk)⟩
/-! ### two clauses -/
/-- the inner items zs; where all are done, the outer turn is W' -/
def C2in (zs : List D) (g1 : TDG) (tt1 : TDT) (te : TDE) (vs1 : List Nat) (sd : DS) (p : Addr) (W' : List D → M → Prop) (m : M) : Prop :=
  ∃ W1 : Nat → List D → M → Prop, (∃ acc m6, Less (put m6 p (.lst acc)) m ∧ W1 0 acc m6) ∧
    (∀ j y acc m7, zs[j]? = some y → W1 j acc m7 → CTurn g1 tt1 te vs1 sd p (W1 (j + 1)) y acc m7) ∧ ∀ acc m7, W1 zs.length acc m7 → W' acc m7
def C2turn (g : TDG) (tt : TDT) (ti : TDE) (g1 : TDG) (tt1 : TDT) (te : TDE) (vs vs1 : List Nat) (sd : DS) (p : Addr) (W' : List D → M → Prop) (x : D) (acc : List D) (m2 : M) : Prop :=
  g x (wipeD sd vs) (put m2 p (.lst acc)) fun sd2 m3 => tt sd2 m3 fun b m4 =>
    if b = true then ti sd2 m4 fun z m5 => (match z with | .tup zs => C2in zs g1 tt1 te vs1 sd2 p W' m5 | _ => False) else ∃ m6, Less (put m6 p (.lst acc)) m4 ∧ W' acc m6
def C2 (xs : List D) (g : TDG) (tt : TDT) (ti : TDE) (g1 : TDG) (tt1 : TDT) (te : TDE) (vs vs1 : List Nat) (sd : DS) (m1 : M) (P : DK) : Prop := ∀ p, m1 p = none → ∃ W : Nat → List D → M → Prop, W 0 [] m1 ∧
  (∀ i x acc m2, xs[i]? = some x → W i acc m2 → C2turn g tt ti g1 tt1 te vs vs1 sd p (W (i + 1)) x acc m2) ∧ ∀ acc m2, W xs.length acc m2 → P (.ref p) (put m2 p (.lst acc))
/-- [te for g in enumerate(ta) if tt for g1 in ti if tt1], tuples -/
def dLcE2 (ta : TDA) (g : TDG) (tt : TDT) (ti : TDE) (g1 : TDG) (tt1 : TDT) (te : TDE) (vs vs1 : List Nat) : TDE := fun sd m P => ta sd m fun xs m1 => match xs with
  | [.tup ys] => C2 (numd ys) g tt ti g1 tt1 te vs vs1 sd m1 P
  | _ => False
section
variable {K : PySem.W.Frag} {H0 : Hp} {g g1 : TDG} {tt tt1 : TDT} {ti te : TDE} {vs vs1 : List Nat}
theorem in_core {H1 H3 : Hp} {sd2 : DS} {σ2 : St} {D : Addr} {W' : List Q4.D → M → Prop} {zs : List Q4.D} {m5 : M} {J1 : It} (k01 : Keep K H0 H1) (k1 : Keep K H1 H3) (s2 : RS K H3 sd2 σ2) (r3 : RM K H3 m5) (l1 : LiftIt K H3 (jTup zs) J1)
    (p : C2in zs g1 tt1 te vs1 sd2 D W' m5) :
    ∃ W1 : Nat → Nat → Hp → Prop, (∃ m, W1 0 m H3) ∧ ∀ j k H, W1 j k H →
      (J1.stop j H ∧ ∃ acc m', Keep K H1 H ∧ RM K H (put m' D (.lst acc)) ∧ W' acc m') ∨ (J1.go j H ∧ ∃ Nx1 : Hp → Prop, (∀ H', Nx1 H' → ∃ k', k' < k ∧ W1 (j + 1) k' H') ∧ ∀ x H', J1.yld j H x H' → lG K H0 vs1 g1 x (L2.wipe σ2 vs1) H' fun σ3 H5 => L2.wipe σ3 vs1 = L2.wipe σ2 vs1 ∧ lT K H0 tt1 σ3 H5 fun b H6 =>
        if b = true then lE K H0 te σ3 H6 fun y H7 => ∃ acc, H7 D = some (.lst acc) ∧ acc.length < sizeLine ∧ Nx1 (upd H7 D (.lst (acc ++ [y]))) else Nx1 H6) := by
  obtain ⟨W1, ⟨acc0, m6, hl0, w0⟩, ws, wd⟩ := p
  refine ⟨fun j n H' => n = zs.length - j ∧ j ≤ zs.length ∧ ∃ acc m', Keep K H3 H' ∧ RM K H' (put m' D (.lst acc)) ∧ W1 j acc m', ⟨_, rfl, Nat.zero_le _, acc0, m6, Keep.refl _, r3.less hl0, w0⟩, ?_⟩
  rintro j n H4 ⟨rfl, hj, acc, m7, k4, r4, w⟩
  have L := l1 H4 k4 j _ r4 (zs[j]?) rfl
  cases e : zs[j]? with
  | none =>
    rw [e] at L
    have : j = zs.length := Nat.le_antisymm hj (List.getElem?_eq_none_iff.mp e)
    subst this
    exact .inl ⟨L, acc, m7, k1.trans k4, r4, wd acc m7 w⟩
  | some y =>
    rw [e] at L
    have lt : j < zs.length := (List.getElem?_eq_some_iff.mp e).1
    refine .inr ⟨L.1, fun H' => ∃ acc m', Keep K H3 H' ∧ RM K H' (put m' D (.lst acc)) ∧ W1 (j + 1) acc m', ?_, fun v H5 yl => ?_⟩
    · rintro H' ⟨a2, m2, k2, r2, w2⟩
      exact ⟨zs.length - (j + 1), by omega, rfl, lt, a2, m2, k2, r2, w2⟩
    · obtain ⟨k5, r5, d5⟩ := L.2 v H5 yl
      have K5 : Keep K H3 H5 := k4.trans k5
      have rest := ws j y acc m7 e w
      refine ⟨y, wipeD sd2 vs1, _, _, ⟨(s2.mono K5).wipe vs1, r5, k01.trans (k1.trans K5)⟩, d5, rest, fun sd4 m4 σ4 H6 k6 s6 r6 hw p6 => ⟨hw.trans wipe_wipe, ?_⟩⟩
      have K6 : Keep K H3 H6 := K5.trans k6
      refine ⟨sd4, m4, _, ⟨s6, r6, k01.trans (k1.trans K6)⟩, p6, fun b m8 H7 k7 r7 p7 => ?_⟩
      cases b with
      | true =>
        refine ⟨sd4, m8, _, ⟨s6.mono k7, r7, k01.trans (k1.trans (K6.trans k7))⟩, p7, fun z m9 w9 H8 k8 r8 d8 p8 => ?_⟩
        obtain ⟨m10, hl, hz, w10⟩ := p8
        have r8 := r8.less hl
        obtain ⟨us, e1, rr⟩ := r8 D _ put_same
        refine ⟨us, e1, by rw [← rr.length]; exact hz, acc ++ [z], m10, ((K6.trans k7).trans k8).trans (Keep.lst e1), ?_, w10⟩
        have := r8.setPut e1 (rr.append (.cons d8 .nil))
        rw [put_put] at this
        exact this
      | false =>
        obtain ⟨m10, hl, w10⟩ := p7
        exact ⟨acc, m10, K6.trans k7, r7.less hl, w10⟩
theorem c2_core {J' : It} {H H1 : Hp} {sd : DS} {m1 : M} {σ : St} {P : DK} {Q : VK} {xs : List Q4.D} (k0 : Keep K H0 H) (k1 : Keep K H H1) (s0 : RS K H sd σ) (r1 : RM K H1 m1) (l1 : LiftIt K H1 (jTup xs) J')
    (q : ∀ d m' v H', Keep K H H' → RM K H' m' → RD K H' d v → P d m' → Q v H') {D : Addr} (hD : H1 D = none) (p : C2 xs g tt ti g1 tt1 te vs vs1 sd m1 P) :
    ∃ W : Nat → Nat → Hp → Prop, (∃ m, W 0 m (upd H1 D (.lst []))) ∧ ∀ i m H, W i m H →
      (J'.stop i H ∧ Q (.ref D) H) ∨ (J'.go i H ∧ ∃ Nx : Hp → Prop, (∀ H', Nx H' → ∃ m', m' < m ∧ W (i + 1) m' H') ∧ ∀ x H', J'.yld i H x H' → lG K H0 vs g x (L2.wipe σ vs) H' fun σ2 H2 => L2.wipe σ2 vs = L2.wipe σ vs ∧ lT K H0 tt σ2 H2 fun b H3 =>
        if b = true then iSq K (lE K H0 ti) σ2 H3 fun J1 H4 => ∃ W1 : Nat → Nat → Hp → Prop, (∃ m, W1 0 m H4) ∧ ∀ j k H, W1 j k H →
          (J1.stop j H ∧ Nx H) ∨ (J1.go j H ∧ ∃ Nx1 : Hp → Prop, (∀ H', Nx1 H' → ∃ k', k' < k ∧ W1 (j + 1) k' H') ∧ ∀ x H', J1.yld j H x H' → lG K H0 vs1 g1 x (L2.wipe σ2 vs1) H' fun σ3 H5 => L2.wipe σ3 vs1 = L2.wipe σ2 vs1 ∧ lT K H0 tt1 σ3 H5 fun b H6 =>
            if b = true then lE K H0 te σ3 H6 fun y H7 => ∃ acc, H7 D = some (.lst acc) ∧ acc.length < sizeLine ∧ Nx1 (upd H7 D (.lst (acc ++ [y]))) else Nx1 H6)
        else Nx H3) := by
  obtain ⟨W, w0, ws, wd⟩ := p D (r1.free hD)
  refine ⟨fun i n H' => n = xs.length - i ∧ i ≤ xs.length ∧ ∃ acc m', Keep K H1 H' ∧ RM K H' (put m' D (.lst acc)) ∧ W i acc m', ⟨_, rfl, Nat.zero_le _, [], m1, Keep.new hD, r1.newPut hD .nil, w0⟩, ?_⟩
  rintro i n H2 ⟨rfl, hi, acc, m2, k2, r2, w⟩
  have L := l1 H2 k2 i _ r2 (xs[i]?) rfl
  cases e : xs[i]? with
  | none =>
    rw [e] at L
    have : i = xs.length := Nat.le_antisymm hi (List.getElem?_eq_none_iff.mp e)
    subst this
    exact .inl ⟨L, q _ _ _ H2 (k1.trans k2) r2 (.ref D) (wd acc m2 w)⟩
  | some x =>
    rw [e] at L
    have lt : i < xs.length := (List.getElem?_eq_some_iff.mp e).1
    refine .inr ⟨L.1, fun H' => ∃ acc m', Keep K H1 H' ∧ RM K H' (put m' D (.lst acc)) ∧ W (i + 1) acc m', ?_, fun v H3 yl => ?_⟩
    · rintro H' ⟨a2, m2, k2, r2, w2⟩
      exact ⟨xs.length - (i + 1), by omega, rfl, lt, a2, m2, k2, r2, w2⟩
    · obtain ⟨k3, r3, d3⟩ := L.2 v H3 yl
      have K3 : Keep K H1 H3 := k2.trans k3
      have K03 : Keep K H H3 := k1.trans K3
      have rest := ws i x acc m2 e w
      refine ⟨x, wipeD sd vs, _, _, ⟨(s0.mono K03).wipe vs, r3, k0.trans K03⟩, d3, rest, fun sd4 m4 σ4 H4 k4 s4 r4 hw p4 => ⟨hw.trans wipe_wipe, ?_⟩⟩
      have K4 : Keep K H1 H4 := K3.trans k4
      refine ⟨sd4, m4, _, ⟨s4, r4, k0.trans (k1.trans K4)⟩, p4, fun b m5 H5 k5 r5 p5 => ?_⟩
      have K5 : Keep K H1 H5 := K4.trans k5
      cases b with
      | true =>
        refine ⟨sd4, m5, _, ⟨s4.mono k5, r5, k0.trans (k1.trans K5)⟩, p5, fun z m6 u H6 k6 r6 d6 p6 => ?_⟩
        cases z with
        | tup zs =>
          obtain ⟨b, us, rfl, h1, h2⟩ := d6.tup_
          exact ⟨b, rfl, .inr ⟨⟨us, h1⟩, in_core (k0.trans k1) (K5.trans k6) ((s4.mono k5).mono k6) r6 (lift_tup h1 h2) p6⟩⟩
        | _ => exact p6.elim
      | false =>
        obtain ⟨m7, hl, w7⟩ := p5
        exact ⟨acc, m7, K5, r5.less hl, w7⟩
theorem l_lcE2 {ta : TDA} {σ : St} {H : Hp} {Q : VK} (h : lE K H0 (dLcE2 ta g tt ti g1 tt1 te vs vs1) σ H Q) : tLc2 (iEnumT K (lA K H0 ta)) (lG K H0 vs g) (lT K H0 tt) (iSq K (lE K H0 ti)) (lG K H0 vs1 g1) (lT K H0 tt1) (lE K H0 te) vs vs1 σ H Q := by
  obtain ⟨sd, m, P, a, p, q⟩ := h
  refine ⟨sd, m, _, a, p, fun d m' v H' k r rd p' => ?_⟩
  split at p'
  · obtain ⟨u, rfl, r1⟩ := rd.one_
    obtain ⟨b, us, rfl, h1, h2⟩ := r1.tup_
    exact ⟨b, us, rfl, h1, fun D hD => c2_core a.k k a.s r (lift_enumT h1 h2) q hD p'⟩
  · exact p'.elim
end
theorem qe_lc2X {X : Cx} {H0 : Hp} {g g1 : TDG} {tt tt1 : TDT} {te : TDE} {elt tg iter tg1 iter1 : Expr} {ifs ifs1 : List Expr} {scope : Scope} {own : List (Str × Nat)} {vs1 : List Nat} {pos : Pos} {wi wi1 : TI} {t' : TDE} (hc : X.calm = true) (hN : X.N.Nodup) (hi : PI X tg iter wi) (ok : BlkOk X.N X.env.scope scope own) (hv : ∀ i ∈ vs1, i ∈ own.map (·.2))
    (hg : ∀ (s : Shared) (H : Hp) (C : Addr) (cl : List (Str × Addr)) (fp : List Addr), PG (X.blk s H scope (compEnvC scope cl C X.env) fp) tg (lG X.K H0 (own.map (·.2)) g)) (ht : ∀ (s : Shared) (H : Hp) (C : Addr) (cl : List (Str × Addr)) (fp : List Addr), PTs (X.blk s H scope (compEnvC scope cl C X.env) fp) ifs (lT X.K H0 tt))
    (hi1 : ∀ (s : Shared) (H : Hp) (C : Addr) (cl : List (Str × Addr)) (fp : List Addr), PI (X.blk s H scope (compEnvC scope cl C X.env) fp) tg1 iter1 wi1)
    (hg1 : ∀ (s : Shared) (H : Hp) (C : Addr) (cl : List (Str × Addr)) (fp : List Addr), PG (X.blk s H scope (compEnvC scope cl C X.env) fp) tg1 (lG X.K H0 vs1 g1)) (ht1 : ∀ (s : Shared) (H : Hp) (C : Addr) (cl : List (Str × Addr)) (fp : List Addr), PTs (X.blk s H scope (compEnvC scope cl C X.env) fp) ifs1 (lT X.K H0 tt1))
    (he : ∀ (s : Shared) (H : Hp) (C : Addr) (cl : List (Str × Addr)) (fp : List Addr), PE (X.blk s H scope (compEnvC scope cl C X.env) fp) elt (lE X.K H0 te))
    (l : ∀ σ H Q, lE X.K H0 t' σ H Q → tLc2 wi (lG X.K H0 (own.map (·.2)) g) (lT X.K H0 tt) wi1 (lG X.K H0 vs1 g1) (lT X.K H0 tt1) (lE X.K H0 te) (own.map (·.2)) vs1 σ H Q)
    (hs : ∀ x, foldedSetIterable iter X.env x = pure x := by intro _; rfl) (hs1 : ∀ env x, foldedSetIterable iter1 env x = pure x := by intro _ _; rfl) :
    PE X (.ListComp elt [⟨tg, iter, ifs, 0⟩, ⟨tg1, iter1, ifs1, 0⟩] scope pos) (lE X.K H0 t') := peL (pe_lc2 hc hN hi ok hv hg ht hi1 hg1 ht1 he hs hs1) l
end Q4

set_option Elab.async false
set_option linter.all false
set_option maxRecDepth 100000
namespace Q4
open PySem L2
/-! ### dicts whose keys are ints and texts -/
def kD : Key → D
  | .inl i => .int i
  | .inr z => .str z
theorem RD.key_ {K : PySem.W.Frag} {H : Hp} {k : Key} {v : V} (r : RD K H (kD k) v) : v = kV k := by
  cases k with
  | inl i => exact r.int_
  | inr z => exact r.str_
def valD (kvs : List (Key × D)) (k : Key) : Option D := (kvs.find? fun p => decide (p.1 = k)).map (·.2)
def putD (kvs : List (Key × D)) (k : Key) (d : D) : List (Key × D) :=
  if kvs.any fun p => decide (p.1 = k) then kvs.map fun p => if p.1 = k then (p.1, d) else p else kvs ++ [(k, d)]
/-- two dicts that stand for each other -/
structure RK (K : PySem.W.Frag) (H : Hp) (kvs : List (Key × D)) (gs : List (Key × V)) : Prop where
  v : RDs K H (kvs.map (·.2)) (gs.map (·.2))
  k : kvs.map (·.1) = gs.map (·.1)
section
variable {K : PySem.W.Frag} {H H' : Hp}
theorem RK.nil : RK K H [] [] := ⟨.nil, rfl⟩
theorem RK.cons {p : Key × D} {q : Key × V} {kvs : List (Key × D)} {gs : List (Key × V)} (r : RK K H (p :: kvs) (q :: gs)) : p.1 = q.1 ∧ RD K H p.2 q.2 ∧ RK K H kvs gs := by
  have e := r.k
  rw [List.map_cons, List.map_cons] at e
  have v := r.v
  rw [List.map_cons, List.map_cons] at v
  cases v with
  | cons a b => exact ⟨(List.cons.inj e).1, a, b, (List.cons.inj e).2⟩
theorem RK.mk_cons {p : Key × D} {q : Key × V} {kvs : List (Key × D)} {gs : List (Key × V)} (e : p.1 = q.1) (h : RD K H p.2 q.2) (r : RK K H kvs gs) : RK K H (p :: kvs) (q :: gs) :=
  ⟨.cons h r.v, by rw [List.map_cons, List.map_cons, e, r.k]⟩
theorem RK.mono {kvs : List (Key × D)} {gs : List (Key × V)} (r : RK K H kvs gs) (k : Keep K H H') : RK K H' kvs gs := ⟨r.v.mono k, r.k⟩
theorem RK.length {kvs : List (Key × D)} {gs : List (Key × V)} (r : RK K H kvs gs) : kvs.length = gs.length := by
  have := r.v.length
  rwa [List.length_map, List.length_map] at this
theorem RK.val (k : Key) : ∀ {kvs : List (Key × D)} {gs : List (Key × V)}, RK K H kvs gs → match valD kvs k with
    | some d => ∃ v, valV gs k = some v ∧ RD K H d v
    | none => valV gs k = none
  | [], [], _ => rfl
  | [], _ :: _, r => by have := r.length; cases this
  | _ :: _, [], r => by have := r.length; cases this
  | p :: kvs, q :: gs, r => by
    obtain ⟨e, h, r'⟩ := r.cons
    by_cases hk : p.1 = k
    · have e1 : valD (p :: kvs) k = some p.2 := by simp [valD, hk]
      rw [e1]
      exact ⟨q.2, valV_pos (e.symm.trans hk), h⟩
    · have e1 : valD (p :: kvs) k = valD kvs k := by simp [valD, hk]
      rw [e1, valV_neg (fun z => hk (e.trans z))]
      exact RK.val k r'
theorem RK.any (k : Key) : ∀ {kvs : List (Key × D)} {gs : List (Key × V)}, RK K H kvs gs → (kvs.any fun p => decide (p.1 = k)) = gs.any fun p => decide (p.1 = k)
  | [], [], _ => rfl
  | [], _ :: _, r => by have := r.length; cases this
  | _ :: _, [], r => by have := r.length; cases this
  | p :: kvs, q :: gs, r => by
    obtain ⟨e, h, r'⟩ := r.cons
    rw [List.any_cons, List.any_cons, e, RK.any k r']
theorem RK.app {d : D} {v : V} (k : Key) (h : RD K H d v) : ∀ {kvs : List (Key × D)} {gs : List (Key × V)}, RK K H kvs gs → RK K H (kvs ++ [(k, d)]) (gs ++ [(k, v)])
  | [], [], _ => .mk_cons rfl h .nil
  | [], _ :: _, r => by have := r.length; cases this
  | _ :: _, [], r => by have := r.length; cases this
  | p :: kvs, q :: gs, r => let ⟨e, h', r'⟩ := r.cons; .mk_cons e h' (RK.app k h r')
theorem RK.repl {d : D} {v : V} (k : Key) (h : RD K H d v) : ∀ {kvs : List (Key × D)} {gs : List (Key × V)}, RK K H kvs gs → RK K H (kvs.map fun p => if p.1 = k then (p.1, d) else p) (gs.map fun p => if p.1 = k then (p.1, v) else p)
  | [], [], _ => .nil
  | [], _ :: _, r => by have := r.length; cases this
  | _ :: _, [], r => by have := r.length; cases this
  | p :: kvs, q :: gs, r => by
    obtain ⟨e, h', r'⟩ := r.cons
    rw [List.map_cons, List.map_cons]
    by_cases hk : p.1 = k
    · rw [if_pos hk, if_pos (e.symm.trans hk)]
      exact .mk_cons e h (RK.repl k h r')
    · rw [if_neg hk, if_neg fun z => hk (e.trans z)]
      exact .mk_cons e h' (RK.repl k h r')
theorem RK.put {d : D} {v : V} {kvs : List (Key × D)} {gs : List (Key × V)} (k : Key) (h : RD K H d v) (r : RK K H kvs gs) : RK K H (putD kvs k d) (putK gs k v) := by
  unfold putD putK
  rw [← r.any k]
  split
  · exact r.repl k h
  · exact r.app k h
theorem Keep.dk {p : Addr} {gs : List (Key × V)} {o : HO} (h : H p = some (.dK gs)) : Keep K H (upd H p o) := by
  refine ⟨fun a xs q => ?_, fun a xs q => ?_, fun a xs q => (let ⟨its, n, q⟩ := q; ⟨its, n, by rw [upd_ne (ne_of q h (by simp))]; exact q⟩)⟩
  · rcases q with (q | ⟨o', q⟩) | q
    · exact .inl (.inl ((upd_ne (ne_of q h (by simp))).trans q))
    · exact .inl (.inr ⟨o', (upd_ne (ne_of q h (by simp))).trans q⟩)
    · exact .inr q
  · rcases q with ⟨o', q⟩ | q
    · exact .inl ⟨o', (upd_ne (ne_of q h (by simp))).trans q⟩
    · exact .inr q
theorem RM.dict {m : M} {a : Addr} {kvs : List (Key × D)} (r : RM K H m) (h : m a = some (.dct kvs)) : ∃ gs, H a = some (.dK gs) ∧ RK K H kvs gs := by
  obtain ⟨gs, e, v, k⟩ := r a _ h
  exact ⟨gs, e, v, k⟩
theorem RM.newDct {m : M} (r : RM K H m) {p : Addr} {gs : List (Key × V)} {kvs : List (Key × D)} (h : H p = none) (q : RK K H kvs gs) : RM K (upd H p (.dK gs)) (put m p (.dct kvs)) := fun a u e => by
  by_cases n : a = p
  · subst n
    rw [put_same] at e
    cases e
    exact ⟨gs, upd_same, (q.mono (Keep.new h)).v, q.k⟩
  · rw [put_ne n] at e
    exact (r a u e).stay (Keep.new h) (upd_ne n)
theorem RM.setDct {m : M} (r : RM K H m) {p : Addr} {gs gs' : List (Key × V)} {kvs : List (Key × D)} (h : H p = some (.dK gs)) (q : RK K H kvs gs') : RM K (upd H p (.dK gs')) (put m p (.dct kvs)) := fun a u e => by
  by_cases n : a = p
  · subst n
    rw [put_same] at e
    cases e
    exact ⟨gs', upd_same, (q.mono (Keep.dk h)).v, q.k⟩
  · rw [put_ne n] at e
    exact (r a u e).stay (Keep.dk h) (upd_ne n)
end
/-- t[u] of a dict -/
def dDGet (t u : TDE) : TDE := fun sd m P => t sd m fun x m1 => u sd m1 fun y m2 => ∃ a kvs k d, x = .ref a ∧ y = kD k ∧ m2 a = some (.dct kvs) ∧ valD kvs k = some d ∧ P d m2
/-- t in u, t not in u -/
def dDIn (t u : TDE) : TDE := fun sd m P => t sd m fun y m1 => u sd m1 fun x m2 => ∃ a kvs k, x = .ref a ∧ y = kD k ∧ m2 a = some (.dct kvs) ∧ P (.bl (valD kvs k).isSome) m2
def dDNotIn (t u : TDE) : TDE := fun sd m P => t sd m fun y m1 => u sd m1 fun x m2 => ∃ a kvs k, x = .ref a ∧ y = kD k ∧ m2 a = some (.dct kvs) ∧ P (.bl (!(valD kvs k).isSome)) m2
/-- t[u] = v -/
def dDPut (t u v : TDE) : TDS := fun D sd m => v sd m fun z m1 => t sd m1 fun x m2 => u sd m2 fun y m3 => ∃ a kvs k, x = .ref a ∧ y = kD k ∧ m3 a = some (.dct kvs) ∧ kvs.length < sizeLine ∧ D.nx sd (put m3 a (.dct (putD kvs k z)))
/-- {} -/
def dDNew : TDE := fun _ m P => ∀ p, m p = none → P (.ref p) (put m p (.dct []))
section
variable {X : Cx} {H0 : Hp} {a b c : Expr} {pos pos' : Pos} {t u v : TDE}
theorem qe_dget (hu : X.A.units + 64 < cLine) (ha : PE X a (lE X.K H0 t)) (hb : PE X b (lE X.K H0 u)) (hs : NoSl b) : PE X (.Subscript a b pos) (lE X.K H0 (dDGet t u)) := peL (pe_dget (by omega) ha hb hs) fun σ H Q h => by
  obtain ⟨sd, m, P, aa, p, q⟩ := h
  refine ⟨sd, m, _, aa, p, fun x m1 w1 H1 k1 r1 d1 p1 => ⟨sd, m1, _, aa.to k1 r1, p1, fun y m2 w2 H2 k2 r2 d2 p2 => ?_⟩⟩
  obtain ⟨ad, kvs, k, d, rfl, rfl, hm, hv, p3⟩ := p2
  obtain rfl := d1.ref_
  obtain rfl := d2.key_
  obtain ⟨gs, e, rk⟩ := r2.dict hm
  have z := rk.val k
  rw [hv] at z
  obtain ⟨w, e1, rd⟩ := z
  exact ⟨ad, w, rfl, by have g := DGet.k (k := k) e; rw [e1] at g; exact g, q _ m2 _ H2 (k1.trans k2) r2 rd p3⟩
theorem isSome_eq {K : PySem.W.Frag} {H : Hp} {kvs : List (Key × D)} {gs : List (Key × V)} (r : RK K H kvs gs) (k : Key) : (valV gs k).isSome = (valD kvs k).isSome := by
  have z := r.val k
  cases e : valD kvs k with
  | none => rw [e] at z; rw [z]; rfl
  | some d => rw [e] at z; obtain ⟨v, e1, _⟩ := z; rw [e1]; rfl
theorem qt_din (hu : X.A.units + 64 < cLine) (ha : PE X a (lE X.K H0 t)) (hb : PE X b (lE X.K H0 u)) (hm : behindInMarks .In b = false) : PE X (.Compare a [.In] [b] pos) (lE X.K H0 (dDIn t u)) := peL (pe_cmp (pc_din (by omega) ha hb) hm) fun σ H Q h => by
  obtain ⟨sd, m, P, aa, p, q⟩ := h
  refine ⟨sd, m, _, aa, p, fun y m1 w1 H1 k1 r1 d1 p1 => ⟨sd, m1, _, aa.to k1 r1, p1, fun x m2 w2 H2 k2 r2 d2 p2 => ?_⟩⟩
  obtain ⟨ad, kvs, k, rfl, rfl, hmm, p3⟩ := p2
  obtain rfl := d2.ref_
  obtain rfl := d1.key_
  obtain ⟨gs, e, rk⟩ := r2.dict hmm
  exact ⟨ad, _, rfl, DGet.k e, by rw [isSome_eq rk k]; exact q _ m2 _ H2 (k1.trans k2) r2 (.bl _) p3⟩
theorem qt_dnotin (hu : X.A.units + 64 < cLine) (ha : PE X a (lE X.K H0 t)) (hb : PE X b (lE X.K H0 u)) (hm : behindInMarks .NotIn b = false) : PE X (.Compare a [.NotIn] [b] pos) (lE X.K H0 (dDNotIn t u)) := peL (pe_cmp (pc_dnotin (by omega) ha hb) hm) fun σ H Q h => by
  obtain ⟨sd, m, P, aa, p, q⟩ := h
  refine ⟨sd, m, _, aa, p, fun y m1 w1 H1 k1 r1 d1 p1 => ⟨sd, m1, _, aa.to k1 r1, p1, fun x m2 w2 H2 k2 r2 d2 p2 => ?_⟩⟩
  obtain ⟨ad, kvs, k, rfl, rfl, hmm, p3⟩ := p2
  obtain rfl := d2.ref_
  obtain rfl := d1.key_
  obtain ⟨gs, e, rk⟩ := r2.dict hmm
  exact ⟨ad, _, rfl, DGet.k e, by rw [isSome_eq rk k]; exact q _ m2 _ H2 (k1.trans k2) r2 (.bl _) p3⟩
theorem qe_dnew : PE X (.Dict [] [] pos) (lE X.K H0 dDNew) := peL pe_dnewK fun σ H Q h => by
  obtain ⟨sd, m, P, aa, p, q⟩ := h
  exact fun z hz => q _ _ _ _ (Keep.new hz) (aa.m.newDct hz .nil) (.ref z) (p z (aa.m.free hz))
theorem qs_dput (hu : X.A.units + 64 < cLine) (ha : PE X a (lE X.K H0 t)) (hb : PE X b (lE X.K H0 u)) (hc : PE X c (lE X.K H0 v)) (hs : swapsWith c (some (.Subscript a b pos')) pos.line X.env = pure false) :
    PS X (.Assign [.Subscript a b pos'] c pos) (lS X.K H0 (dDPut t u v)) := psL (ps_dput (by omega) ha hb hc hs) fun D σ H h => by
  obtain ⟨sd, m, DD, aa, p, q⟩ := h
  refine ⟨sd, m, _, aa, p, fun z m1 w1 H1 k1 r1 d1 p1 => ⟨sd, m1, _, aa.to k1 r1, p1, fun x m2 w2 H2 k2 r2 d2 p2 => ⟨sd, m2, _, (aa.to k1 r1).to k2 r2, p2, fun y m3 w3 H3 k3 r3 d3 p3 => ?_⟩⟩⟩
  obtain ⟨ad, kvs, k, rfl, rfl, hm, hl, p4⟩ := p3
  obtain rfl := d2.ref_
  obtain rfl := d3.key_
  obtain ⟨gs, e, rk⟩ := r3.dict hm
  have K3 := (k1.trans k2).trans k3
  have rz := d1.mono (k2.trans k3)
  refine ⟨ad, _, rfl, DPut.k e (by rw [← rk.length]; exact hl), ?_⟩
  have KK : Keep X.K H (upd H3 ad (.dK (putK gs k w1))) := K3.trans (Keep.dk e)
  exact q.1 _ _ _ _ KK (aa.s.mono KK) (r3.setDct e (rk.put k rz)) p4
end
end Q4

set_option Elab.async false
set_option linter.all false
set_option maxRecDepth 100000
namespace Q4
open PySem L2
open PyProof.Rows (envOfC)
/-! ### statements that are never reached -/
def dDead : TDS := fun _ _ _ => False
theorem qs_dead {X : Cx} {H0 : Hp} {st : Stmt} : PS X st (lS X.K H0 dDead) := ⟨fun pins s σ H D I h => by
  obtain ⟨sd, m, DD, a, p, _⟩ := h
  exact p.elim⟩
/-! ### defs whose last parameters are given by name -/
structure FunAtK (K : PySem.W.Frag) (mg : Str → Option Value) (x : Str) (st : Stmt) (ps ks : List Str) : Prop where
  ex : ∃ f fd, Fun K x x st f fd ∧ mg x = some (.ref f) ∧ ∀ us ws : List Value, us.length = ps.length → ws.length = ks.length → bindArgs fd ⟨us, ks.zip ws⟩ = pure ((ps ++ ks).zip (us ++ ws))
structure CalleeK (P : Program) (w : World) (K : PySem.W.Frag) (mg : Str → Option Value) (k : Nat) (x : Str) (ps ks : List Str) (d : DSp) : Prop where
  ex : ∃ f fd, mg x = some (.ref f) ∧ PySem.W.keepIn K (.ref f) = true ∧ (∀ us ws : List Value, us.length = ps.length → ws.length = ks.length → bindArgs fd ⟨us, ks.zip ws⟩ = pure ((ps ++ ks).zip (us ++ ws))) ∧ ∀ base, FnOk P w K mg base CX0 k f fd (ps ++ ks) (lSp K d)
section
variable {P : Program} {w : World} {K : PySem.W.Frag} {mg : Str → Option Value} {x : Str} {st : Stmt} {ps ks N : List Str} {d d' : DSp} {k j : Nat}
theorem CalleeK.mono (C : CalleeK P w K mg j x ps ks d) (h : j ≤ k) : CalleeK P w K mg k x ps ks d := by
  obtain ⟨f, fd, a, b, c, e⟩ := C.ex
  exact ⟨f, fd, a, b, c, fun base => (e base).mono h⟩
theorem FunAtK.callee (F : FunAtK K mg x st ps ks) (S : FnScope N (ps ++ ks) (defScope st)) (len : ∀ ds m P EX, d ds m P EX → ds.length = (ps ++ ks).length)
    (t : TDS) (hread : ∀ ds m P EX, d ds m P EX → t { nx := fun _ m' => Ret P .non m', rt := Ret P } (dstart N ds) m)
    (hbody : ∀ (base : Heap) (f : Addr) (cdv : Value) (A : Around) (outer : List Env) (s : Shared) (H : Hp) (E : XK), Room k (A.deeper (envOfC x (defScope st) s.heap.objs.size f cdv)) → PSs (cxOf CX0 P w K mg base N x (defScope st) f cdv A outer s H E).nox (defBody st) (lS K H t)) :
    CalleeK P w K mg (k + 1) x ps ks d := by
  obtain ⟨f, fd, F1, a, c⟩ := F.ex
  exact ⟨f, fd, a, F1.kp, c, fun base => Fun.okD F1 S len t hread (hbody base f)⟩
theorem FunAtK.of {h : Heap} {f : Addr} {oc kV doc pm cdv ct : Value} {od an : Option Addr} {osl : Array (Option Value)} (X : K.In h) (G : h.Ns mainGlobals mg)
    (a1 : PySem.W.nsIn K mainGlobals x = some (some (.ref f))) (l1 : K.lookup f = some ⟨oc, od, .func (PySem.W.fnOf x x (defArgs st) (defBody st) (defScope st) .none kV doc pm an cdv ct), osl⟩) (c1 : PySem.W.codeIn K cdv x = true) (k1 : PySem.W.keepIn K (.ref f) = true)
    (hb : ∀ (kV doc pm : Value) (an : Option Addr) (cdv ct : Value) (us ws : List Value), us.length = ps.length → ws.length = ks.length → bindArgs (PySem.W.fnOf x x (defArgs st) (defBody st) (defScope st) .none kV doc pm an cdv ct) ⟨us, ks.zip ws⟩ = pure ((ps ++ ks).zip (us ++ ws))) : FunAtK K mg x st ps ks :=
  ⟨f, _, fun_mk l1 c1 k1, PySem.W.mg_of X G a1, hb kV doc pm an cdv ct⟩
end
section
variable {X : Cx} {H0 : Hp}
theorem pkL {kws : List Keyword} {t t' : TA} (h : PK X kws t) (l : ∀ σ H Q, t' σ H Q → t σ H Q) : PK X kws t' := ⟨fun pos pins s σ H Q I q => h.run pos pins s σ H Q I (l σ H Q q)⟩
theorem qk_nil : PK X [] (lA X.K H0 dNil) := pkL pk_nil fun σ H Q h => by
  obtain ⟨sd, m, P, a, p, q⟩ := h
  exact q [] m [] H (Keep.refl _) a.m .nil p
theorem qk_cons {nm : Option Str} {e : Expr} {kpos : Pos} {kws : List Keyword} {te : TDE} {t : TDA} (ha : PE X e (lE X.K H0 te)) (hr : PK X kws (lA X.K H0 t)) : PK X (⟨nm, e, kpos⟩ :: kws) (lA X.K H0 (dCons te t)) :=
  pkL (pk_cons ha hr) fun _ _ _ => l_cons
def dCallK (d : DSp) (a b : Nat) (t tk : TDA) : TDE := fun sd m P => t sd m fun xs m1 => tk sd m1 fun ys m2 => xs.length = a ∧ ys.length = b ∧ d (xs ++ ys) m2 P noX
def both {α : Type} (a b : Nat) (us ws : List α) : List α := if us.length = a ∧ ws.length = b then us ++ ws else []
theorem qe_fnK {k : Nat} {ps ks : List Str} {d : DSp} {x : Str} {p pos : Pos} {e : Expr} {es : List Expr} {kws : List Keyword} {t tk : TDA} (C : CalleeK X.prog X.w X.K X.mg k x ps ks d) (hr : Room k X.A) (hg : Gl X x)
    (ha : PA X (e :: es) (lA X.K H0 t)) (hkw : PK X kws (lA X.K H0 tk)) (hne : 0 < (ps ++ ks).length) {na nb : Nat} (hna : ps.length = na) (hnb : ks.length = nb) (hall : (backToKw pos (keywordEach kws X.env)).all (·.1.isSome) = true := by rfl) (hks : (backToKw pos (keywordEach kws X.env)).filterMap (·.1) = ks := by rfl)
    (hdb : (x == ("__debug__" : Str)) = false := by decide) (he : starEach (e :: es) X.env = (false, eval e X.env) :: starEach es X.env := by rfl)
    (hpl : ((backTo pos (starEach (e :: es) X.env)).any (·.1) || (backToKw pos (keywordEach kws X.env)).any (·.1.isNone)) = false := by rfl) :
    PE X (.Call (.Name x p) (e :: es) kws pos) (lE X.K H0 (dCallK d na nb t tk)) := by
  subst hna hnb
  obtain ⟨f, fd, a, b, c, F⟩ := C.ex
  have kb : KBinds X.K fd (ps ++ ks) ks (both ps.length ks.length) (both ps.length ks.length) := by
    refine ⟨fun s us ws _ hl => ?_, fun {vs us zs ws} r rz => ?_⟩
    · unfold both at hl ⊢
      split at hl
      · rename_i z
        rw [if_pos z]
        exact .of_eq (c us ws z.1 z.2)
      · rw [List.length_nil] at hl
        omega
    · unfold both
      rw [← r.length, ← rz.length]
      split
      · exact r.append rz
      · exact .nil
  refine peL (pe_callK (E := E0) (F X.base) hr hg a b kb pass0 ha hkw hall hks hdb he hpl) fun σ H Q h => ?_
  obtain ⟨sd, m, P, aa, p, q⟩ := h
  refine ⟨sd, m, _, aa, p, fun xs m1 us H1 k1 r1 d1 p1 => ⟨sd, m1, _, aa.to k1 r1, p1, fun ys m2 ws H2 k2 r2 d2 p2 => ?_⟩⟩
  obtain ⟨l1, l2, p3⟩ := p2
  unfold both
  rw [if_pos ⟨by rw [← d1.length]; exact l1, by rw [← d2.length]; exact l2⟩]
  exact ⟨xs ++ ys, m2, P, noX, (d1.mono k2).append d2, r2, p3, fun d m' w H' k => q d m' w H' ((k1.trans k2).trans k), wantsX0⟩
end
end Q4

set_option Elab.async false
set_option linter.all false
set_option maxRecDepth 100000
namespace Q4
open PySem L2
/-! ### in, not in for dicts; is None -/
def rInK : R2D := fun y x m P => ∃ a kvs k, x = .ref a ∧ y = kD k ∧ m a = some (.dct kvs) ∧ P (.bl (valD kvs k).isSome) m
def rNotInK : R2D := fun y x m P => ∃ a kvs k, x = .ref a ∧ y = kD k ∧ m a = some (.dct kvs) ∧ P (.bl (!(valD kvs k).isSome)) m
section
variable {X : Cx} {H0 : Hp}
theorem od_inK (hu : X.A.units + 64 < cLine) : OpD X (compareOp .In) rInK := by
  refine ⟨fun y x H Q => ∃ a o, x = .ref a ∧ DGet H a y o ∧ Q (.bl o.isSome) H, ?_, fun H m x y u v P Q rm rx ry p q => ?_⟩
  · intro pins s σ H y x v u Q I r1 r2 h
    obtain ⟨a, o, rfl, g, q⟩ := h
    obtain rfl : u = Value.ref a := r2
    exact d_in (by omega) I g r1 fun s' I' => ⟨.bl o.isSome, H, I', rfl, q⟩
  · obtain ⟨a, kvs, k, rfl, rfl, hm, p⟩ := p
    obtain rfl := ry.ref_
    obtain rfl := rx.key_
    obtain ⟨gs, e, rk⟩ := rm.dict hm
    exact ⟨a, _, rfl, DGet.k e, by rw [isSome_eq rk k]; exact q _ m _ H (Keep.refl _) rm (.bl _) p⟩
theorem od_notInK (hu : X.A.units + 64 < cLine) : OpD X (compareOp .NotIn) rNotInK := by
  refine ⟨fun y x H Q => ∃ a o, x = .ref a ∧ DGet H a y o ∧ Q (.bl (!o.isSome)) H, ?_, fun H m x y u v P Q rm rx ry p q => ?_⟩
  · intro pins s σ H y x v u Q I r1 r2 h
    obtain ⟨a, o, rfl, g, q⟩ := h
    obtain rfl : u = Value.ref a := r2
    exact d_notIn (by omega) I g r1 fun s' I' => ⟨.bl (!o.isSome), H, I', rfl, q⟩
  · obtain ⟨a, kvs, k, rfl, rfl, hm, p⟩ := p
    obtain rfl := ry.ref_
    obtain rfl := rx.key_
    obtain ⟨gs, e, rk⟩ := rm.dict hm
    exact ⟨a, _, rfl, DGet.k e, by rw [isSome_eq rk k]; exact q _ m _ H (Keep.refl _) rm (.bl _) p⟩
def nonB : D → Bool
  | .non => true
  | _ => false
theorem RD.nonB {K : PySem.W.Frag} {H : Hp} {d : D} {v : V} (r : RD K H d v) : decide (v = .non) = Q4.nonB d := by
  cases r <;> simp [Q4.nonB]
def dIsN (t : TDE) : TDE := fun sd m P => t sd m fun x m1 => P (.bl (nonB x)) m1
def dNotN (t : TDE) : TDE := fun sd m P => t sd m fun x m1 => P (.bl (!nonB x)) m1
theorem l_isN {K : PySem.W.Frag} {t : TDE} {σ : St} {H : Hp} {Q : VK} (h : lE K H0 (dIsN t) σ H Q) : tIsN (lE K H0 t) σ H Q := by
  obtain ⟨sd, m, P, a, p, q⟩ := h
  exact ⟨sd, m, _, a, p, fun d m' v H' k r rd p' => by show Q (.bl (decide (v = .non))) H'; rw [rd.nonB]; exact q _ m' _ H' k r (.bl _) p'⟩
theorem l_notN {K : PySem.W.Frag} {t : TDE} {σ : St} {H : Hp} {Q : VK} (h : lE K H0 (dNotN t) σ H Q) : tNotN (lE K H0 t) σ H Q := by
  obtain ⟨sd, m, P, a, p, q⟩ := h
  exact ⟨sd, m, _, a, p, fun d m' v H' k r rd p' => by show Q (.bl (!decide (v = .non))) H'; rw [rd.nonB]; exact q _ m' _ H' k r (.bl _) p'⟩
theorem l_BN {K : PySem.W.Frag} {t : TDE} {u : TE} {σ : St} {H : Hp} {Q : Bool → Hp → Prop} (l : ∀ σ H Q, lE K H0 t σ H Q → u σ H Q) (h : lT K H0 (dB t) σ H Q) : tB u σ H Q := by
  obtain ⟨sd, m, P, a, p, q⟩ := h
  refine l _ _ _ ⟨sd, m, _, a, p, fun d m' v H' k r rd p' => ?_⟩
  cases d with
  | bl b => cases rd.bl_; exact ⟨b, rfl, q b m' H' k r p'⟩
  | _ => exact p'.elim
theorem qe_isN {a : Expr} {j} {pos pos' : Pos} {t : TDE} (ha : PE X a (lE X.K H0 t)) : PE X (.Compare a [.Is] [.Constant .none j pos'] pos) (lE X.K H0 (dIsN t)) := peL (pe_cmp (pc_isN ha)) fun _ _ _ => l_isN
theorem qe_notN {a : Expr} {j} {pos pos' : Pos} {t : TDE} (ha : PE X a (lE X.K H0 t)) : PE X (.Compare a [.IsNot] [.Constant .none j pos'] pos) (lE X.K H0 (dNotN t)) := peL (pe_cmp (pc_notN ha)) fun _ _ _ => l_notN
theorem qt_isN {a : Expr} {j} {pos pos' : Pos} {t : TDE} (ha : PE X a (lE X.K H0 t)) : PT X (.Compare a [.Is] [.Constant .none j pos'] pos) (lT X.K H0 (dB (dIsN t))) := ptL (pt_cmp (pc_isN ha)) fun _ _ _ => l_BN fun _ _ _ => l_isN
theorem qt_notN {a : Expr} {j} {pos pos' : Pos} {t : TDE} (ha : PE X a (lE X.K H0 t)) : PT X (.Compare a [.IsNot] [.Constant .none j pos'] pos) (lT X.K H0 (dB (dNotN t))) := ptL (pt_cmp (pc_notN ha)) fun _ _ _ => l_BN fun _ _ _ => l_notN
end
end Q4

set_option Elab.async false
set_option linter.all false
set_option maxRecDepth 100000
namespace Q4
open PySem L2 LiI
/-! ### a dict display with one pair -/
def dDisp1 (t u : TDE) : TDE := fun sd m P => ∀ p, m p = none → t sd (put m p (.dct [])) fun y m1 => u sd m1 fun z m2 => ∃ k, y = kD k ∧ m2 p = some (.dct []) ∧ P (.ref p) (put m2 p (.dct [(k, z)]))
section
variable {X : Cx} {H0 : Hp}
theorem l_disp1 {K : PySem.W.Frag} {t u : TDE} {σ : St} {H : Hp} {Q : VK} (h : lE K H0 (dDisp1 t u) σ H Q) : tDisp [(lE K H0 t, lE K H0 u)] σ H Q := by
  obtain ⟨sd, m, P, a, p, q⟩ := h
  intro z hz
  have kz : Keep K H (upd H z (.dK [])) := Keep.new hz
  refine ⟨sd, put m z (.dct []), _, ⟨a.s.mono kz, a.m.newDct hz .nil, a.k.trans kz⟩, p z (a.m.free hz), fun y m1 w1 H1 k1 r1 d1 p1 => ?_⟩
  refine ⟨sd, m1, _, ⟨(a.s.mono kz).mono k1, r1, (a.k.trans kz).trans k1⟩, p1, fun x m2 w2 H2 k2 r2 d2 p2 => ?_⟩
  obtain ⟨k, rfl, hm, p3⟩ := p2
  obtain rfl := d1.key_
  obtain ⟨gs, e, rk⟩ := r2.dict hm
  have : gs = [] := List.eq_nil_of_length_eq_zero rk.length.symm
  subst this
  refine ⟨e, [(k, w2)], rfl, by show 1 ≤ 15; decide, ?_⟩
  have e1 : mergeK [] [(k, w2)] = [(k, w2)] := rfl
  rw [e1]
  have KK := (kz.trans k1).trans k2
  exact q _ _ _ _ (KK.trans (Keep.dk e)) (r2.setDct e (.mk_cons rfl d2 .nil)) (.ref z) p3
theorem qe_disp1 {a b : Expr} {pos : Pos} {t u : TDE} (ha : PE X a (lE X.K H0 t)) (hb : PE X b (lE X.K H0 u)) : PE X (.Dict [some a] [b] pos) (lE X.K H0 (dDisp1 t u)) :=
  peL (pe_disp (pps_cons ha hb pps_nil) rfl rfl (by simp) (by show 1 ≤ 15; decide)) fun _ _ _ => l_disp1
/-- list(t.items()) -/
def dItems (t : TDE) : TDE := fun sd m P => t sd m fun x m1 => ∃ a kvs, x = .ref a ∧ m1 a = some (.dct kvs) ∧ ∀ p, m1 p = none → P (.ref p) (put m1 p (.lst (kvs.map fun q => .tup [kD q.1, q.2])))
theorem Keep.grow {K : PySem.W.Frag} {H H' : Hp} (h : ∀ b o, H b = some o → H' b = some o) : Keep K H H' := by
  refine ⟨fun a xs q => ?_, fun a xs q => ?_, fun a xs q => (let ⟨its, n, q⟩ := q; ⟨its, n, h _ _ q⟩)⟩
  · rcases q with (q | ⟨o', q⟩) | q
    · exact .inl (.inl (h _ _ q))
    · exact .inl (.inr ⟨o', h _ _ q⟩)
    · exact .inr q
  · rcases q with ⟨o', q⟩ | q
    · exact .inl ⟨o', h _ _ q⟩
    · exact .inr q
theorem RM.grow {K : PySem.W.Frag} {H H' : Hp} {m : M} (r : RM K H m) (h : ∀ b o, H b = some o → H' b = some o) : RM K H' m := fun a o e => by
  have q := r a o e
  have k : Keep K H H' := Keep.grow h
  cases o with
  | lst xs => obtain ⟨vs, e1, d⟩ := q; exact ⟨vs, h _ _ e1, d.mono k⟩
  | ins C dx fs => obtain ⟨vs, e1, d⟩ := q; exact ⟨vs, h _ _ e1, d.1.mono k, d.2⟩
  | dct kvs => obtain ⟨vs, e1, d⟩ := q; exact ⟨vs, h _ _ e1, d.1.mono k, d.2⟩
theorem items_rds {K : PySem.W.Frag} {H H' : Hp} (k : Keep K H H') : ∀ {kvs : List (Key × D)} {gs : List (Key × V)} {ts : List Addr}, RK K H kvs gs → Paired (fun (t : Addr) (q : Key × V) => H' t = some (.tup [kV q.1, q.2])) ts gs →
    RDs K H' (kvs.map fun q => .tup [kD q.1, q.2]) (ts.map V.ref)
  | [], [], _, _, .nil => .nil
  | [], _ :: _, _, r, _ => by have := r.length; cases this
  | _ :: _, [], _, r, _ => by have := r.length; cases this
  | p :: kvs, q :: gs, _, r, .cons h t => by
    obtain ⟨e, d, r'⟩ := r.cons
    refine .cons (.tup (.inl (.inl h)) (.cons ?_ (.cons (d.mono k) .nil))) (items_rds k r' t)
    rw [← e]
    cases p.1 with
    | inl i => exact .int i
    | inr z => exact .str z
theorem l_items {K : PySem.W.Frag} {t : TDE} {σ : St} {H : Hp} {Q : VK} (h : lE K H0 (dItems t) σ H Q) : tListItems (lE K H0 t) σ H Q := by
  obtain ⟨sd, m, P, a, p, q⟩ := h
  refine ⟨sd, m, _, a, p, fun x m1 u H1 k1 r1 d1 p1 => ?_⟩
  obtain ⟨ad, kvs, rfl, hm, p2⟩ := p1
  obtain rfl := d1.ref_
  obtain ⟨gs, e, rk⟩ := r1.dict hm
  refine ⟨ad, gs, rfl, e, fun H2 b ts hk hb _ _ hl hp => ?_⟩
  have k2 : Keep K H1 H2 := Keep.grow hk
  refine q _ _ _ _ (k1.trans k2) ?_ (.ref b) (p2 b (r1.free hb))
  intro c o eo
  by_cases n : c = b
  · subst n
    rw [put_same] at eo
    cases eo
    exact ⟨_, hl, items_rds k2 rk hp⟩
  · rw [put_ne n] at eo
    exact r1.grow hk c o eo
theorem qe_items {a : Expr} {p apos cpos pos : Pos} {t : TDE} (hc : X.calm = true) (ha : PE X a (lE X.K H0 t)) (hg : Gl X "list") (hm : X.mg "list" = none) (hv : bootBuiltins "list" = some (.type "list")) (hbase : attributeBase a "items" X.env (eval a X.env) = eval a X.env := by rfl) (hline : (apos.endLine == cpos.line) = true := by rfl)
    (hs : starEach [.Call (.Attribute a "items" apos) [] [] cpos] X.env = (false, eval (.Call (.Attribute a "items" apos) [] [] cpos) X.env) :: starEach [] X.env := by rfl) :
    PE X (.Call (.Name "list" p) [.Call (.Attribute a "items" apos) [] [] cpos] [] pos) (lE X.K H0 (dItems t)) := peL (pe_listItems hc ha hg hm hv hbase hline hs) fun _ _ _ => l_items
/-- list(t) of a dict: its keys -/
def rListK : RnD := fun xs m P => ∃ a kvs, xs = [.ref a] ∧ m a = some (.dct kvs) ∧ ∀ p, m p = none → P (.ref p) (put m p (.lst (kvs.map fun q => kD q.1)))
theorem keys_rds {K : PySem.W.Frag} {H : Hp} : ∀ {kvs : List (Key × D)} {gs : List (Key × V)}, RK K H kvs gs → RDs K H (kvs.map fun q => kD q.1) (gs.map fun q => kV q.1)
  | [], [], _ => .nil
  | [], _ :: _, r => by have := r.length; cases this
  | _ :: _, [], r => by have := r.length; cases this
  | p :: kvs, q :: gs, r => by
    obtain ⟨e, d, r'⟩ := r.cons
    refine .cons ?_ (keys_rds r')
    show RD K H (kD p.1) (kV q.1)
    rw [← e]
    cases p.1 with
    | inl i => exact .int i
    | inr z => exact .str z
theorem cd_listK (hc : X.calm = true) : CallD X (.type "list") rListK := by
  refine ⟨_, call_listD hc, fun H m xs us P Q rm rx p q => ?_⟩
  obtain ⟨a, kvs, rfl, hm, p⟩ := p
  obtain ⟨u, rfl, r⟩ := rx.one_
  obtain rfl := r.ref_
  obtain ⟨gs, e, rk⟩ := rm.dict hm
  exact ⟨a, gs, rfl, .inl e, fun z hz => q _ _ _ _ (Keep.new hz) (rm.newPut hz (keys_rds rk)) (.ref z) (p z (rm.free hz))⟩
end
end Q4

set_option Elab.async false
set_option linter.all false
set_option maxRecDepth 100000
namespace Q4
open PySem L2 PySem.Spec PyProof.Rows
/-! ### == of lists -/
def okL (xs : List D) : Prop := SeqAt.shaped (.list (D.pys xs)) = true
def eqL (xs ys : List D) : Bool := PyData.eqv (.list (D.pys xs)) (.list (D.pys ys))
def rEqL : R2D := fun x y m P => ∃ xs ys, isL m x xs ∧ isL m y ys ∧ okL xs ∧ okL ys ∧ P (.bl (eqL xs ys)) m
section
variable {X : Cx}
theorem od_eqL (hu : X.A.units + 64 < cLine) : OpD X (compareOp .Eq) rEqL := by
  refine ⟨_, op_eqD hu, fun H m x y u v P Q rm rx ry p q => ?_⟩
  obtain ⟨xs, ys, h1, h2, o1, o2, p⟩ := p
  obtain ⟨a, vs, rfl, s1, d1⟩ := rm.list rx h1
  obtain ⟨b, ws, rfl, s2, d2⟩ := rm.list ry h2
  have c1 := SeqAt.canLay_of_shaped o1
  have c2 := SeqAt.canLay_of_shaped o2
  exact ⟨_, _, .lst s1 (dps_of d1 (by simpa [PyData.canLay0] using c1)), .lst s2 (dps_of d2 (by simpa [PyData.canLay0] using c2)), o1, o2, q _ m _ H (Keep.refl _) rm (.bl _) p⟩
end
def rNeL : R2D := fun x y m P => ∃ xs ys, isL m x xs ∧ isL m y ys ∧ okL xs ∧ okL ys ∧ P (.bl (!eqL xs ys)) m
section
variable {X : Cx}
theorem od_neL (hu : X.A.units + 64 < cLine) : OpD X (compareOp .NotEq) rNeL := by
  refine ⟨_, op_neD hu, fun H m x y u v P Q rm rx ry p q => ?_⟩
  obtain ⟨xs, ys, h1, h2, o1, o2, p⟩ := p
  obtain ⟨a, vs, rfl, s1, d1⟩ := rm.list rx h1
  obtain ⟨b, ws, rfl, s2, d2⟩ := rm.list ry h2
  have c1 := SeqAt.canLay_of_shaped o1
  have c2 := SeqAt.canLay_of_shaped o2
  exact ⟨_, _, .lst s1 (dps_of d1 (by simpa [PyData.canLay0] using c1)), .lst s2 (dps_of d2 (by simpa [PyData.canLay0] using c2)), o1, o2, q _ m _ H (Keep.refl _) rm (.bl _) p⟩
end
/-- data that can be laid, at most n deep -/
structure ShD (n : Nat) (d : D) : Prop where
  l : d.py.canLay0 = true
  d : d.py.depth ≤ n
theorem ShD.mono {n k : Nat} {d : D} (h : ShD n d) (e : n ≤ k) : ShD k d := ⟨h.l, Nat.le_trans h.d e⟩
theorem ShD.all {n : Nat} : ∀ {xs : List D}, (∀ x ∈ xs, ShD n x) → PyData.canLayAll0 (D.pys xs) = true ∧ PyData.depthAll (D.pys xs) ≤ n
  | [], _ => ⟨rfl, Nat.zero_le _⟩
  | x :: xs, h => by
    have h1 := h x List.mem_cons_self
    have h2 := ShD.all (xs := xs) fun y hy => h y (List.mem_cons_of_mem _ hy)
    have d1 := h1.d
    refine ⟨?_, ?_⟩
    · show (x.py.canLay0 && PyData.canLayAll0 (D.pys xs)) = true
      rw [h1.l, h2.1]; rfl
    · show PyData.depthAll (x.py :: D.pys xs) ≤ n
      rw [PyData.depthAll]
      omega
theorem ShD.tup {n : Nat} {xs : List D} (h : ∀ x ∈ xs, ShD n x) : ShD (n + 1) (.tup xs) := by
  have h2 := ShD.all h
  refine ⟨?_, ?_⟩
  · show PyData.canLay0 (.tuple (D.pys xs)) = true
    rw [PyData.canLay0]; exact h2.1
  · show PyData.depth (.tuple (D.pys xs)) ≤ n + 1
    rw [PyData.depth]; omega
theorem okL_of {n : Nat} {xs : List D} (h : ∀ x ∈ xs, ShD n x) (e : n + 1 ≤ 64) : okL xs := by
  have h2 := ShD.all h
  unfold okL SeqAt.shaped
  rw [Bool.and_eq_true]
  refine ⟨?_, decide_eq_true ?_⟩
  · show PyData.canLay0 (.list (D.pys xs)) = true
    rw [PyData.canLay0]; exact h2.1
  · show PyData.depth (.list (D.pys xs)) ≤ 64
    rw [PyData.depth]; omega
theorem okD_of {n : Nat} {d : D} (h : ShD n d) (e : n ≤ 64) : okD d := by
  unfold okD SeqAt.shaped
  rw [Bool.and_eq_true]
  exact ⟨h.l, decide_eq_true (Nat.le_trans h.d e)⟩
theorem eqL_refl {xs : List D} (h : okL xs) : eqL xs xs = true := SeqAt.eqv_refl _ (SeqAt.canLay_of_shaped h)
/-! ### x in a tuple of data -/
theorem units65 {k : Nat} {A : Around} (r : Room k A) : A.units + 65 < cLine := by have := r.un; omega
def rInT : R2D := fun x y m P => ∃ ys, y = .tup ys ∧ okD x ∧ okD (.tup ys) ∧ P (.bl (ys.any fun z => eqD z x)) m
theorem any_pys (d : PyData) : ∀ ys : List D, ((D.pys ys).any fun z => PyData.eqv z d) = ys.any fun z => PyData.eqv z.py d
  | [] => rfl
  | y :: ys => by
    show ((y.py :: D.pys ys).any fun z => PyData.eqv z d) = _
    rw [List.any_cons, List.any_cons, any_pys d ys]
section
variable {X : Cx}
theorem od_inT (hu : X.A.units + 65 < cLine) : OpD X (compareOp .In) rInT := by
  refine ⟨fun x y H Q => ∃ d ds, Dp X.K H x d ∧ Dp X.K H y (.tuple ds) ∧ SeqAt.shaped d = true ∧ SeqAt.shaped (.tuple ds) = true ∧ Q (.bl (ds.any fun z => PyData.eqv z d)) H, ?_, fun H m x y u v P Q rm rx ry p q => ?_⟩
  · intro pins s σ H x y v u Q I rx ry h
    obtain ⟨d, ds, hd, he, sd, se, q⟩ := h
    obtain ⟨as, r1⟩ := Dp.reads I d x v hd rx
    obtain ⟨bs, r2⟩ := Dp.reads I (.tuple ds) y u he ry
    exact SeqAt.in_tuple_reads r2 r1 (SeqAt.canLay_of_shaped se) (SeqAt.canLay_of_shaped sd) (room_in_shaped sd hu) ⟨.bl _, H, I, rfl, q⟩
  · obtain ⟨ys, rfl, o1, o2, p⟩ := p
    have c2 := SeqAt.canLay_of_shaped o2
    refine ⟨_, D.pys ys, dp_of rx (SeqAt.canLay_of_shaped o1), dp_of ry c2, o1, o2, ?_⟩
    rw [any_pys]
    exact q _ m _ H (Keep.refl _) rm (.bl _) p
end
end Q4

set_option Elab.async false
set_option linter.all false
set_option maxRecDepth 100000
namespace Q4
open PySem L2
open PyProof.Rows (envOfC)
/-! ### defs that raise: the wish of exceptions, by the slots -/
abbrev DX := DS → DXK
def WW (K : PySem.W.Frag) (H0 : Hp) (ex : DX) (W : WX) : Prop := ∀ sd σ c fo m' od H', Keep K H0 H' → RS K H' sd σ → RM K H' m' → XRel K H' fo od → ex sd c fo m' → W c od σ H'
/-- the wish of a def, whatever its slots are -/
abbrev outX (EX : DXK) : DX := fun _ => EX
theorem WW.out {K : PySem.W.Frag} {H : Hp} {EX : DXK} {E : XK} (h : WantsX K H EX E) : WW K H (outX EX) (fun c d _ H' => E c d H') := fun _ _ c fo m' od H' k _ r x e => h c fo m' od H' k r x e
def dCallX (ex : DX) (d : DSp) (t : TDA) : TDE := fun sd m P => t sd m fun xs m1 => d xs m1 P (ex sd)
theorem l_callX {K : PySem.W.Frag} {H0 : Hp} {ex : DX} {W : WX} {d : DSp} {t : TDA} {σ : St} {H : Hp} {Q : VK} (ww : WW K H0 ex W) (h : lE K H0 (dCallX ex d t) σ H Q) : tCallS (lSp K d) (WE W) (lA K H0 t) σ H Q := by
  obtain ⟨sd, m, P, a, p, q⟩ := h
  refine ⟨sd, m, _, a, p, fun xs m1 us H1 k1 r1 d1 p1 => ?_⟩
  exact ⟨xs, m1, P, ex sd, d1, r1, p1, fun d m' w H' k => q d m' w H' (k1.trans k), fun c fo m' od H' k r x e => ww sd σ c fo m' od H' ((a.k.trans k1).trans k) (a.s.mono (k1.trans k)) r x e⟩
structure CalleeX (P : Program) (w : World) (K : PySem.W.Frag) (mg : Str → Option Value) (k : Nat) (x : Str) (ps : List Str) (d : DSp) : Prop where
  ex : ∃ f fd, mg x = some (.ref f) ∧ PySem.W.keepIn K (.ref f) = true ∧ (∀ us : List Value, us.length = ps.length → bindArgs fd ⟨us, []⟩ = pure (ps.zip us)) ∧ ∀ base, FnOk P w K mg base (L2.CX P w) k f fd ps (lSp K d)
section
variable {P : Program} {w : World} {K : PySem.W.Frag} {mg : Str → Option Value} {x : Str} {st : Stmt} {ps N : List Str} {d d' : DSp} {k j : Nat}
theorem CalleeX.mono (C : CalleeX P w K mg j x ps d) (h : j ≤ k) : CalleeX P w K mg k x ps d := by
  obtain ⟨f, fd, a, b, c, e⟩ := C.ex
  exact ⟨f, fd, a, b, c, fun base => (e base).mono h⟩
theorem Fun.okXD {base : Heap} {qual : Str} {f : Addr} {fd : FuncData} (F : Fun K x qual st f fd) (S : FnScope N ps (defScope st)) (len : ∀ ds m P EX, d ds m P EX → ds.length = ps.length)
    (t : DX → TDS) (hread : ∀ ds m P EX, d ds m P EX → t (outX EX) { nx := fun _ m' => Ret P .non m', rt := Ret P } (dstart N ds) m)
    (hbody : ∀ (cdv : Value) (A : Around) (outer : List Env) (s : Shared) (H : Hp) (E : XK) (ex : DX), Room k (A.deeper (envOfC qual (defScope st) s.heap.objs.size f cdv)) → WW K H ex (fun c d _ H' => E c d H') →
      PSs (cxOf (L2.CX P w) P w K mg base N qual (defScope st) f cdv A outer s H E) (defBody st) (lS K H (t ex))) :
    FnOk P w K mg base (L2.CX P w) (k + 1) f fd ps (lSp K d) := by
  refine L2.Fun.okX F S (fun vs H Q E h => ?_) (fun cdv A outer s H vs Q E hr h => ?_)
  · obtain ⟨ds, m, P, EX, r, _, h, _⟩ := h
    rw [← r.length]
    exact len _ _ _ _ h
  · obtain ⟨ds, m, P', EX, r, rm, h, q, qx⟩ := h
    refine ⟨_, hbody cdv A outer s H E (outX EX) hr (WW.out qx), dstart N ds, m, _, ⟨RS.start r, rm, Keep.refl _⟩, hread ds m P' EX h, ?_, ?_, ?_, ?_⟩
    · rintro sd' m' σ' H' k s r ⟨m2, l, p⟩
      exact q _ m2 _ H' k (r.less l) .non p
    · rintro d m' v H' k r rd ⟨m2, l, p⟩
      exact q _ m2 _ H' k (r.less l) rd p
    · exact fun _ _ _ _ _ _ _ h => h
    · exact fun _ _ _ _ _ _ _ h => h
theorem FunAt.calleeX (F : FunAt K mg x st ps) (S : FnScope N ps (defScope st)) (len : ∀ ds m P EX, d ds m P EX → ds.length = ps.length)
    (t : DX → TDS) (hread : ∀ ds m P EX, d ds m P EX → t (outX EX) { nx := fun _ m' => Ret P .non m', rt := Ret P } (dstart N ds) m)
    (hbody : ∀ (base : Heap) (f : Addr) (cdv : Value) (A : Around) (outer : List Env) (s : Shared) (H : Hp) (E : XK) (ex : DX), Room k (A.deeper (envOfC x (defScope st) s.heap.objs.size f cdv)) → WW K H ex (fun c d _ H' => E c d H') →
      PSs (cxOf (L2.CX P w) P w K mg base N x (defScope st) f cdv A outer s H E) (defBody st) (lS K H (t ex))) : CalleeX P w K mg (k + 1) x ps d := by
  obtain ⟨f, fd, F1, a, c⟩ := F.ex
  exact ⟨f, fd, a, F1.kp, c, fun base => Fun.okXD F1 S len t hread (hbody base f)⟩
end
section
variable {X : Cx} {H0 : Hp} {ex : DX} {W : WX}
theorem qe_fnX {k : Nat} {ps : List Str} {d : DSp} {x : Str} {p pos : Pos} {e : Expr} {es : List Expr} {t : TDA} (C : CalleeX X.prog X.w X.K X.mg k x ps d) (hr : Room k X.A) (tk : Takes X W) (ww : WW X.K H0 ex W) (hg : Gl X x)
    (ha : PA X (e :: es) (lA X.K H0 t)) (hdb : (x == ("__debug__" : Str)) = false := by decide) (he : starEach (e :: es) X.env = (false, eval e X.env) :: starEach es X.env := by rfl) (hpl : (backTo pos (starEach es X.env)).any (·.1) = false := by rfl) :
    PE X (.Call (.Name x p) (e :: es) [] pos) (lE X.K H0 (dCallX ex d t)) := by
  obtain ⟨f, fd, a, b, c, F⟩ := C.ex
  exact peL (pe_callS (F X.base) hr hg a b (.all c) (fun σ => passAt tk σ) ha hdb he hpl) fun _ _ _ => l_callX ww
/-! ### f-texts -/
def dFmt (t : TDE) : TDE := fun sd m P => t sd m fun x m1 => (∃ y : Str, x = .str y ∧ y.length ≤ sizeLine ∧ P (.str y) m1) ∨ ∃ i : Int, x = .int i ∧ i.natAbs.log2 < 1920 ∧ P (.str (toString i)) m1
def dFmtR (t : TDE) : TDE := fun sd m P => t sd m fun x m1 => (∃ y : Str, x = .str y ∧ (reprText y).length ≤ sizeLine ∧ P (.str (reprText y)) m1) ∨ ∃ i : Int, x = .int i ∧ i.natAbs.log2 < 1920 ∧ P (.str (toString i)) m1
theorem qe_fmt {e : Expr} {t : TDE} {pos : Pos} (he : PE X e (lE X.K H0 t)) : PE X (.FormattedValue e (-1) none pos) (lE X.K H0 (dFmt t)) := peL (pe_fmt he) fun σ H Q h => by
  obtain ⟨sd, m, P, a, p, q⟩ := h
  refine ⟨sd, m, _, a, p, fun d m1 v H1 k r rd p1 => ?_⟩
  rcases p1 with ⟨y, rfl, h1, p1⟩ | ⟨i, rfl, h1, p1⟩
  · obtain rfl := rd.str_
    exact .inl ⟨y, rfl, h1, q _ m1 _ H1 k r (.str _) p1⟩
  · obtain rfl := rd.int_
    exact .inr ⟨i, rfl, h1, q _ m1 _ H1 k r (.str _) p1⟩
theorem qe_fmtR {e : Expr} {t : TDE} {pos : Pos} (he : PE X e (lE X.K H0 t)) : PE X (.FormattedValue e 114 none pos) (lE X.K H0 (dFmtR t)) := peL (pe_fmtR he) fun σ H Q h => by
  obtain ⟨sd, m, P, a, p, q⟩ := h
  refine ⟨sd, m, _, a, p, fun d m1 v H1 k r rd p1 => ?_⟩
  rcases p1 with ⟨y, rfl, h1, p1⟩ | ⟨i, rfl, h1, p1⟩
  · obtain rfl := rd.str_
    exact .inl ⟨y, rfl, h1, q _ m1 _ H1 k r (.str _) p1⟩
  · obtain rfl := rd.int_
    exact .inr ⟨i, rfl, h1, q _ m1 _ H1 k r (.str _) p1⟩
def dJs : List TDE → Str → DS → M → (Str → M → Prop) → Prop
  | [], acc, _, m, Q => Q acc m
  | t :: ts, acc, sd, m, Q => t sd m fun x m1 => ∃ y : Str, x = .str y ∧ (acc ++ y).length ≤ sizeLine ∧ dJs ts (acc ++ y) sd m1 Q
def dJoin (ts : List TDE) : TDE := fun sd m P => dJs ts Str.empty sd m fun out m1 => P (.str out) m1
theorem l_js {K : PySem.W.Frag} {H0 : Hp} {sd : DS} {σ : St} : ∀ {ts : List TDE} {acc : Str} {m : M} {H : Hp} {P : Str → M → Prop} {Q : Str → Hp → Prop}, At K H0 sd m σ H → dJs ts acc sd m P → (∀ z m' H', Keep K H H' → RM K H' m' → P z m' → Q z H') → tJs (ts.map (lE K H0)) acc σ H Q
  | [], acc, m, H, P, Q, a, p, q => q acc m H (Keep.refl _) a.m p
  | t :: ts, acc, m, H, P, Q, a, p, q => ⟨sd, m, _, a, p, fun d m1 v H1 k r rd ⟨y, e, hl, p2⟩ => by
    subst e
    obtain rfl := rd.str_
    exact ⟨y, rfl, hl, l_js (a.to k r) p2 fun z m' H' k' r' => q z m' H' (k.trans k') r'⟩⟩
inductive QJ (X : Cx) (H0 : Hp) : List Expr → List TDE → Prop where
  | nil : QJ X H0 [] []
  | cons {e : Expr} {t : TDE} {es : List Expr} {ts : List TDE} (h : PE X e (lE X.K H0 t)) (r : QJ X H0 es ts) : QJ X H0 (e :: es) (t :: ts)
theorem QJ.pj : ∀ {es : List Expr} {ts : List TDE}, QJ X H0 es ts → PJ X es (ts.map (lE X.K H0))
  | _, _, .nil => .nil
  | _, _, .cons h r => .cons h r.pj
theorem qe_joined {v1 v2 : Expr} {rest : List Expr} {ts : List TDE} {pos : Pos} (h : QJ X H0 (v1 :: v2 :: rest) ts) : PE X (.JoinedStr (v1 :: v2 :: rest) pos) (lE X.K H0 (dJoin ts)) := peL (pe_joined h.pj) fun σ H Q h => by
  obtain ⟨sd, m, P, a, p, q⟩ := h
  exact l_js a p fun z m' H' k r p => q (.str z) m' _ H' k r (.str _) p
/-! ### raise -/
structure ExcAt (K : PySem.W.Frag) (mg : Str → Option Value) (x : Str) (C : Addr) : Prop where
  g : mg x = some (.ref C)
  k : PySem.W.keepIn K (.ref C) = true
  q : PySem.W.excIn K C [.type "ValueError", .type "Exception", .type "BaseException", .type "object"] "ValueError.__new__" = true
  s : PySem.W.subIn K (.ref C) (.type "BaseException") = some true
  t : PySem.W.typeIn K (.ref C) = some (.type "type")
def dRaise (ex : DX) (C : Addr) (t : TDA) : TDS := fun _ sd m => t sd m fun xs m1 => xs.length ≤ sizeLine ∧ ex sd (.ref C) none m1
theorem qs_raise {x : Str} {C : Addr} {e : Expr} {es : List Expr} {t : TDA} {p pos pos' : Pos} (hc : X.calm = true) (F : ExcAt X.K X.mg x C) (tk : Takes X W) (ww : WW X.K H0 ex W) (hg : Gl X x) (ha : PA X (e :: es) (lA X.K H0 t)) (hdb : (x == ("__debug__" : Str)) = false := by decide)
    (he : starEach (e :: es) X.env = (false, eval e X.env) :: starEach es X.env := by rfl) (hpl : (backTo pos (starEach es X.env)).any (·.1) = false := by rfl) :
    PS X (.Raise (some (.Call (.Name x p) (e :: es) [] pos)) none pos') (lS X.K H0 (dRaise ex C t)) :=
  psL (ps_raise hc tk (pmk_ownA PySem.F.excBase_ValueError F.q F.g F.k (raises_own F.s F.t) hg ha hdb he hpl)) fun D σ H h => by
    obtain ⟨sd, m, DD, a, p, _⟩ := h
    refine ⟨sd, m, _, a, p, fun xs m1 us H1 k r rd p1 => ?_⟩
    obtain ⟨hl, p2⟩ := p1
    exact ⟨by rw [← rd.length]; exact hl, ww sd σ _ none m1 none H1 (a.k.trans k) (a.s.mono k) r trivial p2⟩
end
end Q4

set_option Elab.async false
set_option linter.all false
set_option maxRecDepth 100000
namespace Q4
open PySem L2 PySem.Spec PyProof.Rows
/-! ### isinstance of a caught error -/
inductive ClsD : D → V → Value → Prop where
  | ty (n : String) : ClsD (.ty n) (.ty n) (.type n)
  | own (C : Addr) : ClsD (.ref C) (.ref C) (.ref C)
theorem ClsD.rd {K : PySem.W.Frag} {H : Hp} {c : D} {v v' : V} {u : Value} (h : ClsD c v u) (r : RD K H c v') : v' = v := by
  cases h with
  | ty n => exact r.ty_
  | own C => exact r.ref_
theorem ClsD.cv {c : D} {v : V} {u : Value} (h : ClsD c v u) : ClsV v u := by
  cases h with
  | ty n => exact .ty n
  | own C => exact .own C
/-- what isinstance answers for an error of the class E -/
structure Isa (K : PySem.W.Frag) (E : Addr) (isa : D → Option Bool) : Prop where
  one : ∀ c b, isa c = some b → ∃ v u, ClsD c v u ∧ PySem.W.kitOne K (.ref E) u = some b
def isaAny (isa : D → Option Bool) : List D → Option Bool
  | [] => some false
  | c :: cs => match isa c, isaAny isa cs with
    | some b, some r => some (b || r)
    | _, _ => none
theorem Isa.any {K : PySem.W.Frag} {H : Hp} {E : Addr} {isa : D → Option Bool} (Z : Isa K E isa) : ∀ {cs : List D} {r : Bool}, isaAny isa cs = some r → ∀ {vs : List V}, RDs K H cs vs → ∃ us, Paired ClsV vs us ∧ PySem.W.kitAny K (.ref E) us = some r
  | [], r, e, _, .nil => by
    cases e
    exact ⟨[], .nil, kitAny_nil⟩
  | c :: cs, r, e, _, .cons h t => by
    unfold isaAny at e
    split at e
    · rename_i b r' e1 e2
      obtain ⟨v, u, k, e3⟩ := Z.one c b e1
      obtain ⟨us, p, e4⟩ := Z.any e2 t
      obtain rfl := k.rd h
      refine ⟨u :: us, .cons k.cv p, ?_⟩
      cases e
      refine kitAny_cons e3 (fun hb => ?_) (fun hb => ?_)
      · subst hb; simpa using e4
      · subst hb; rfl
    · cases e
def rIsX (a : Addr) (isa : D → Option Bool) : RnD := fun xs m P => (∃ c b, xs = [.ref a, c] ∧ isa c = some b ∧ P (.bl b) m) ∨ ∃ cs b, xs = [.ref a, .tup cs] ∧ isaAny isa cs = some b ∧ P (.bl b) m
theorem cd_isX {X : Cx} {a E : Addr} {oe : Obj} {pn : List (Addr × Obj)} {isa : D → Option Bool} (C : ExcC X.K E) (hz : Zc (.ref E) none oe) (hf : ∃ vs, oe.data = .fields vs) (Z : Isa X.K E isa) : CallD (X.suite a ((a, oe) :: pn)) (.builtin "isinstance") (rIsX a isa) := by
  refine ⟨fun xs H Q => (∃ (c : V) (cv : Value) (b : Bool), xs = [.ref a, c] ∧ (∀ u, RelV c u → u = cv) ∧ PySem.W.kitOne X.K (.ref E) cv = some b ∧ Q (.bl b) H) ∨
    ∃ (tp : Addr) (cs : List V) (us : List Value) (b : Bool), xs = [.ref a, .ref tp] ∧ SqT X.K H tp cs ∧ Paired ClsV cs us ∧ PySem.W.kitAny X.K (.ref E) us = some b ∧ Q (.bl b) H, ?_, fun H m xs us P Q rm rx p q => ?_⟩
  · intro pins s σ H xs us Q I r h
    rcases h with h | ⟨tp, cs, ws, b, rfl, hT, k, e, q⟩
    · exact call_isE C hz hf pins s σ H xs us Q I r h
    · cases r with
      | cons rx rr =>
        cases rr with
        | cons rt rr =>
          cases rr
          cases rx
          cases rt
          obtain ⟨hget, _⟩ := I.pin (a, oe) (List.mem_append.mpr (.inl List.mem_cons_self))
          obtain ⟨vs, hv⟩ := hf
          have J : PySem.W.InstAt s.heap a oe E none := by
            obtain ⟨oc, od, oda, osl⟩ := oe
            obtain ⟨h1, h2⟩ := hz
            dsimp only at h1 h2 hv
            subst h1 h2 hv
            exact ⟨hget, rfl, rfl, trivial⟩
          obtain ⟨its, rv, ⟨o, ho, hc, n, hd⟩, _⟩ := I.tuple hT
          have e3 := ClsV.all k rv
          subst e3
          obtain ⟨oc, od, dt, sl⟩ := o
          simp only at hc hd
          subst hc hd
          exact PySem.W.kia_tup (PySem.W.handS_kitx_exc C.hg C.hk C.hs C.hd C.ha C.hn C.ht C.hm) I.kIn J ho e (fun z => nomatch z) fun tk => ⟨.bl b, H, I.kept (t' := tk) fun _ _ z => z, rfl, q⟩
  · rcases p with ⟨c, b, rfl, e, p⟩ | ⟨cs, b, rfl, e, p⟩
    · obtain ⟨u, v, rfl, r1, r2⟩ := rx.two_
      cases r1.ref_
      obtain ⟨v', cv, k, e2⟩ := Z.one c b e
      obtain rfl := k.rd r2
      exact .inl ⟨_, cv, b, rfl, fun u hu => k.cv.eq hu, e2, q _ m _ H (Keep.refl _) rm (.bl _) p⟩
    · obtain ⟨u, v, rfl, r1, r2⟩ := rx.two_
      cases r1.ref_
      obtain ⟨tp, vs, rfl, h1, h2⟩ := r2.tup_
      obtain ⟨us, k, e2⟩ := Z.any e h2
      exact .inr ⟨tp, vs, us, b, rfl, h1, k, e2, q _ m _ H (Keep.refl _) rm (.bl _) p⟩
end Q4

set_option Elab.async false
set_option linter.all false
set_option maxRecDepth 100000
namespace Q4
open PySem L2 PySem.Spec PyProof.Rows
theorem RS.setNone {K : PySem.W.Frag} {H : Hp} {sd : DS} {σ : L2.St} (r : RS K H sd σ) (i : Nat) : RS K H (sd.set i none) (σ.set i none) :=
  ⟨by rw [List.length_set, List.length_set, r.len], fun j d e => by
    rw [List.getElem?_set] at e
    by_cases hj : i = j
    · rw [if_pos hj] at e
      split at e <;> cases e
    · rw [if_neg hj] at e
      obtain ⟨v, e1, q⟩ := r.get j d e
      exact ⟨v, by rw [List.getElem?_set, if_neg hj]; exact e1, q⟩⟩
/-! ### try: body, except x as n: suite -/
/-- the ends of a suite: the name is gone behind it -/
def DEnds.off (DD : DEnds) (i : Nat) : DEnds := { nx := fun sd m => DD.nx (sd.set i none) m, rt := DD.rt, bk := fun sd m => DD.bk (sd.set i none) m, ct := fun sd m => DD.ct (sd.set i none) m }
def dTryAs (hit : Value → Option Bool) (i : Nat) (b : DX → TDS) (suite : Addr → TDS) (ex : DX) : TDS := fun DD sd m =>
  b (fun sd' cls fo m' => ∃ bb, hit cls = some bb ∧ (bb = true → fo = none ∧ ∀ a, m' a = none → suite a (DD.off i) (sd'.set i (some (.ref a))) m') ∧ (bb = false → ex sd' cls fo m')) DD sd m
section
variable {X : Cx} {H0 : Hp} {ex : DX} {Wout : WX} {x n : Str} {c : Value} {E : Addr} {hit : Value → Option Bool} {i : Nat} {body rest : List Stmt} {b₀ : Stmt} {np pos pos' : Pos} {b : DX → TDS} {suite : Addr → TDS}
theorem qs_tryAs (hs : X.stack = X.env :: X.outer) (hf : X.env.frame = some X.env.locals) (hN : X.N.Nodup) (hi : X.N[i]? = some n) (hln : X.env.kindOf n = some .local) (hc : Names X x c) (tk : Takes X Wout) (ww : WW X.K H0 ex Wout)
    (hh : ∀ cls bb, hit cls = some bb → PySem.W.exmOne X.K cls c = some bb ∧ (bb = true → cls = .ref E))
    (hb : ∀ (H1 : Hp) (exx : DX) (W : WX) (pn : List (Addr × Obj)) (xe : Value → Shared → Prop), Takes (X.tr pn xe) W → PassesOwn (model X.prog X.w) X.A X.env xe → WW X.K H1 exx W → PSs (X.tr pn xe) body (lS X.K H1 (b exx)))
    (hsu : ∀ (a : Addr) (oe : Obj) (pn : List (Addr × Obj)), Zc (.ref E) none oe → (∃ vs, oe.data = .fields vs) → PSs (X.suite a ((a, oe) :: pn)) (b₀ :: rest) (lS X.K H0 (suite a))) :
    PS X (.Try body [.ExceptHandler (some (.Name x np)) (some n) (b₀ :: rest) pos'] [] [] pos) (lS X.K H0 (dTryAs hit i b suite ex)) :=
  psL (ps_try_as (tb := fun W D σ H => ∃ exx, WW X.K H exx W ∧ lS X.K H (b exx) D σ H) (ts := fun a cls d D σ H => cls = .ref E ∧ d = none ∧ lS X.K H0 (suite a) D σ H) hs hf hN hi hln hc tk
    (fun W pn xe tkk po => ⟨fun pins s σ H D I h => by
      obtain ⟨exx, w1, h⟩ := h
      exact (hb H exx W pn xe tkk po w1).run pins s σ H D I h⟩)
    (fun a oe cls d pn hz hd => ⟨fun pins s σ H D I h => by
      obtain ⟨e1, e2, h⟩ := h
      subst e1 e2
      exact (hsu a oe pn hz hd).run pins s σ H D I h⟩)) fun D σ H h => by
    obtain ⟨sd, m, DD, a0, p, q1, q2, q3, q4⟩ := h
    refine ⟨_, fun sd' σ' cls fo m' od H' k rs rm xr he => ?_, sd, m, DD, ⟨a0.s, a0.m, Keep.refl _⟩, p, q1, q2, q3, q4⟩
    obtain ⟨bb, e, h1, h2⟩ := he
    refine ⟨bb, (hh cls bb e).1, fun hb a ha => ?_, fun hb => ww sd' σ' cls fo m' od H' (a0.k.trans k) rs rm xr (h2 hb)⟩
    obtain ⟨hfo, h3⟩ := h1 hb
    subst hfo
    have hod : od = none := by
      cases od with
      | none => rfl
      | some d => exact xr.elim
    refine ⟨(hh cls bb e).2 hb, hod, _, m', DD.off i, ⟨rs.set i (.ref a), rm, a0.k.trans k⟩, h3 a (rm.free ha), ?_, ?_, ?_, ?_⟩
    · exact fun sd2 m2 σ2 H2 k2 r2 rm2 p2 => q1 _ m2 _ H2 (k.trans k2) (r2.setNone i) rm2 p2
    · exact fun d m2 v H2 k2 rm2 rd p2 => q2 d m2 v H2 (k.trans k2) rm2 rd p2
    · exact fun sd2 m2 σ2 H2 k2 r2 rm2 p2 => q3 _ m2 _ H2 (k.trans k2) (r2.setNone i) rm2 p2
    · exact fun sd2 m2 σ2 H2 k2 r2 rm2 p2 => q4 _ m2 _ H2 (k.trans k2) (r2.setNone i) rm2 p2
end
/-! ### calls by name that may raise -/
def dCallKX (ex : DX) (d : DSp) (a b : Nat) (t tk : TDA) : TDE := fun sd m P => t sd m fun xs m1 => tk sd m1 fun ys m2 => xs.length = a ∧ ys.length = b ∧ d (xs ++ ys) m2 P (ex sd)
structure CalleeKX (P : Program) (w : World) (K : PySem.W.Frag) (mg : Str → Option Value) (k : Nat) (x : Str) (ps ks : List Str) (d : DSp) : Prop where
  ex : ∃ f fd, mg x = some (.ref f) ∧ PySem.W.keepIn K (.ref f) = true ∧ (∀ us ws : List Value, us.length = ps.length → ws.length = ks.length → bindArgs fd ⟨us, ks.zip ws⟩ = pure ((ps ++ ks).zip (us ++ ws))) ∧ ∀ base, FnOk P w K mg base (L2.CX P w) k f fd (ps ++ ks) (lSp K d)
section
variable {P : Program} {w : World} {K : PySem.W.Frag} {mg : Str → Option Value} {x : Str} {st : Stmt} {ps ks N : List Str} {d d' : DSp} {k j : Nat}
theorem CalleeKX.mono (C : CalleeKX P w K mg j x ps ks d) (h : j ≤ k) : CalleeKX P w K mg k x ps ks d := by
  obtain ⟨f, fd, a, b, c, e⟩ := C.ex
  exact ⟨f, fd, a, b, c, fun base => (e base).mono h⟩
theorem FunAtK.calleeX (F : FunAtK K mg x st ps ks) (S : FnScope N (ps ++ ks) (defScope st)) (len : ∀ ds m P EX, d ds m P EX → ds.length = (ps ++ ks).length)
    (t : DX → TDS) (hread : ∀ ds m P EX, d ds m P EX → t (outX EX) { nx := fun _ m' => Ret P .non m', rt := Ret P } (dstart N ds) m)
    (hbody : ∀ (base : Heap) (f : Addr) (cdv : Value) (A : Around) (outer : List Env) (s : Shared) (H : Hp) (E : XK) (ex : DX), Room k (A.deeper (envOfC x (defScope st) s.heap.objs.size f cdv)) → WW K H ex (fun c d _ H' => E c d H') →
      PSs (cxOf (L2.CX P w) P w K mg base N x (defScope st) f cdv A outer s H E) (defBody st) (lS K H (t ex))) : CalleeKX P w K mg (k + 1) x ps ks d := by
  obtain ⟨f, fd, F1, a, c⟩ := F.ex
  exact ⟨f, fd, a, F1.kp, c, fun base => Fun.okXD F1 S len t hread (hbody base f)⟩
end
section
variable {X : Cx} {H0 : Hp} {ex : DX} {W : WX} {CX : CXT} {k : Nat} {f : Addr} {fd : FuncData} {ps ks : List Str} {sp : Sp} {E : L2.St → XK} {x : Str} {p pos : Pos} {e : Expr} {es : List Expr} {kws : List Keyword} {t tk : TA} {g : List Value → List Value → List Value} {gV : List V → List V → List V}
theorem run_fnkS {pins : List (Addr × Obj)} {σ : L2.St} {H : Hp} {s : Shared} {Q : VK} {us ws : List Value} {vs zs : List V} (F : FnOk X.prog X.w X.K X.mg X.base CX k f fd ps sp) (hr : Room k X.A) (hb : KBinds X.K fd ps ks g gV) (hx : PassesAt CX X σ (E σ))
    (I : Inv X pins σ H s) (r : Vals vs us) (rz : Vals zs ws) (h : sp (gV vs zs) H Q (E σ)) : wpAny (model X.prog X.w) X.A (call (.ref f) us (ks.zip ws)) (EP X pins σ Q) X.xe s := by
  have r2 := hb.rel r rz
  have hl : (g us ws).length = ps.length := by rw [← r2.length]; exact F.len _ _ _ _ h
  refine wpAny_call (codeAny_mono (F.run X.A X.stack s H ⟨us, ks.zip ws⟩ (g us ws) (gV vs zs) Q (E σ) hr I.env0 (hb.to s us ws I.kIn hl) r2 h) fun r s' hq => ?_)
  cases r with
  | error e => exact hx pins H s e s' I hq
  | ok fl =>
    cases fl with
    | ret u => exact I.after hq
    | next => exact False.elim hq
    | brk => exact False.elim hq
    | cont => exact False.elim hq
def tCallKS (sp : Sp) (gV : List V → List V → List V) (E : L2.St → XK) (t tk : TA) : TE := fun σ H Q => t σ H fun vs H1 => tk σ H1 fun zs H2 => sp (gV vs zs) H2 Q (E σ)
theorem pe_callKS (F : FnOk X.prog X.w X.K X.mg X.base CX k f fd ps sp) (hr : Room k X.A) (hg : Gl X x) (hm : X.mg x = some (.ref f)) (hk : PySem.W.keepIn X.K (.ref f) = true) (hb : KBinds X.K fd ps ks g gV) (hx : ∀ σ, PassesAt CX X σ (E σ))
    (ha : PA X (e :: es) t) (hkw : PK X kws tk) (hall : (backToKw pos (keywordEach kws X.env)).all (·.1.isSome) = true := by rfl) (hks : (backToKw pos (keywordEach kws X.env)).filterMap (·.1) = ks := by rfl)
    (hdb : (x == ("__debug__" : Str)) = false := by decide) (he : starEach (e :: es) X.env = (false, eval e X.env) :: starEach es X.env := by rfl)
    (hpl : ((backTo pos (starEach (e :: es) X.env)).any (·.1) || (backToKw pos (keywordEach kws X.env)).any (·.1.isNone)) = false := by rfl) :
    PE X (.Call (.Name x p) (e :: es) kws pos) (tCallKS sp gV E t tk) := by
  refine ⟨fun pins s σ H Q I h => ?_⟩
  refine wpAny_Call_Name_kw (ld_glob I hg hm ?_ hdb)
  refine PySem.W.callWith_KW (h₀ := X.base) I.ok.mod.kin hk hall (thn (ha.run pos pins s σ H _ I h) fun us s1 ⟨vs, H1, I1, r, q⟩ => ?_) hpl he
  refine thn (hkw.run pos pins s1 σ H1 _ I1 q) fun ws s2 ⟨zs, H2, I2, rz, q2⟩ => ⟨I2.kIn, ?_⟩
  rw [hks]
  exact run_fnkS F hr hb (hx σ) I2 r rz q2
end
section
variable {X : Cx} {H0 : Hp} {ex : DX} {W : WX}
theorem qe_fnKX {k : Nat} {ps ks : List Str} {d : DSp} {x : Str} {p pos : Pos} {e : Expr} {es : List Expr} {kws : List Keyword} {t tk : TDA} (C : CalleeKX X.prog X.w X.K X.mg k x ps ks d) (hr : Room k X.A) (tkk : Takes X W) (ww : WW X.K H0 ex W) (hg : Gl X x)
    (ha : PA X (e :: es) (lA X.K H0 t)) (hkw : PK X kws (lA X.K H0 tk)) (hne : 0 < (ps ++ ks).length) {na nb : Nat} (hna : ps.length = na) (hnb : ks.length = nb) (hall : (backToKw pos (keywordEach kws X.env)).all (·.1.isSome) = true := by rfl) (hks : (backToKw pos (keywordEach kws X.env)).filterMap (·.1) = ks := by rfl)
    (hdb : (x == ("__debug__" : Str)) = false := by decide) (he : starEach (e :: es) X.env = (false, eval e X.env) :: starEach es X.env := by rfl)
    (hpl : ((backTo pos (starEach (e :: es) X.env)).any (·.1) || (backToKw pos (keywordEach kws X.env)).any (·.1.isNone)) = false := by rfl) :
    PE X (.Call (.Name x p) (e :: es) kws pos) (lE X.K H0 (dCallKX ex d na nb t tk)) := by
  subst hna hnb
  obtain ⟨f, fd, a, b, c, F⟩ := C.ex
  have kb : KBinds X.K fd (ps ++ ks) ks (both ps.length ks.length) (both ps.length ks.length) := by
    refine ⟨fun s us ws _ hl => ?_, fun {vs us zs ws} r rz => ?_⟩
    · unfold both at hl ⊢
      split at hl
      · rename_i z
        rw [if_pos z]
        exact .of_eq (c us ws z.1 z.2)
      · rw [List.length_nil] at hl
        omega
    · unfold both
      rw [← r.length, ← rz.length]
      split
      · exact r.append rz
      · exact .nil
  refine peL (pe_callKS (E := WE W) (F X.base) hr hg a b kb (fun σ => passAt tkk σ) ha hkw hall hks hdb he hpl) fun σ H Q h => ?_
  obtain ⟨sd, m, P, aa, p, q⟩ := h
  refine ⟨sd, m, _, aa, p, fun xs m1 us H1 k1 r1 d1 p1 => ⟨sd, m1, _, aa.to k1 r1, p1, fun ys m2 ws H2 k2 r2 d2 p2 => ?_⟩⟩
  obtain ⟨l1, l2, p3⟩ := p2
  unfold both
  rw [if_pos ⟨by rw [← d1.length]; exact l1, by rw [← d2.length]; exact l2⟩]
  exact ⟨xs ++ ys, m2, P, ex sd, (d1.mono k2).append d2, r2, p3, fun d m' w H' k => q d m' w H' ((k1.trans k2).trans k), fun c fo m' od H' k r x e => ww sd σ c fo m' od H' (((aa.k.trans k1).trans k2).trans k) (aa.s.mono ((k1.trans k2).trans k)) r x e⟩
end
end Q4
namespace Q4
open PySem L2 PySem.Spec PyProof.Rows
def hitOf (E : Addr) : Value → Option Bool
  | .ref a => if a = E then some true else none
  | _ => none
theorem hitOf_ok {K : PySem.W.Frag} {E : Addr} (h : PySem.W.exmOne K (.ref E) (.ref E) = some true) : ∀ cls bb, hitOf E cls = some bb → PySem.W.exmOne K cls (.ref E) = some bb ∧ (bb = true → cls = .ref E) := fun cls bb e => by
  unfold hitOf at e
  split at e
  · split at e
    · rename_i a ha
      cases e
      subst ha
      exact ⟨h, fun _ => rfl⟩
    · cases e
  · cases e
theorem wwNo {K : PySem.W.Frag} {H0 : Hp} : WW K H0 (fun _ => noX) (fun _ _ _ _ => False) := fun _ _ _ _ _ _ _ _ _ _ _ h => h
/-- what isinstance answers by the program's own tables -/
def isaK (K : PySem.W.Frag) (E : Addr) : D → Option Bool
  | .ref C => PySem.W.kitOne K (.ref E) (.ref C)
  | .ty T => PySem.W.kitOne K (.ref E) (.type T)
  | _ => none
theorem isaK_ok {K : PySem.W.Frag} {E : Addr} : Isa K E (isaK K E) := ⟨fun c b h => by
  unfold isaK at h
  split at h
  · exact ⟨_, _, .own _, h⟩
  · exact ⟨_, _, .ty _, h⟩
  · cases h⟩
section
variable {X : Cx} {H0 : Hp}
/-- a call of a def that may raise, where it does not -/
theorem qe_fnX0 {k : Nat} {ps : List Str} {d : DSp} {x : Str} {p pos : Pos} {e : Expr} {es : List Expr} {t : TDA} (C : CalleeX X.prog X.w X.K X.mg k x ps d) (hr : Room k X.A) (hg : Gl X x)
    (ha : PA X (e :: es) (lA X.K H0 t)) (hdb : (x == ("__debug__" : Str)) = false := by decide) (he : starEach (e :: es) X.env = (false, eval e X.env) :: starEach es X.env := by rfl) (hpl : (backTo pos (starEach es X.env)).any (·.1) = false := by rfl) :
    PE X (.Call (.Name x p) (e :: es) [] pos) (lE X.K H0 (dCall d t)) := by
  obtain ⟨f, fd, a, b, c, F⟩ := C.ex
  exact qe_call (F X.base) hr hg a b (.all c) (E := E0) passL ha hdb he hpl
/-- an own class as a value -/
theorem ExcAt.const {K : PySem.W.Frag} {mg : Str → Option Value} {x : Str} {C : Addr} (h : mg x = some (.ref C)) : ConstAt K mg x (.ref C) := ⟨.ref C, .ref C, h, rfl, fun _ => .ref C⟩
end
end Q4
namespace Q4
open PySem L2 PySem.Spec PyProof.Rows
section
variable {X : Cx} {H0 : Hp}
/-- a call by name of a def that may raise, where it does not -/
theorem qe_fnKX0 {k : Nat} {ps ks : List Str} {d : DSp} {x : Str} {p pos : Pos} {e : Expr} {es : List Expr} {kws : List Keyword} {t tk : TDA} (C : CalleeKX X.prog X.w X.K X.mg k x ps ks d) (hr : Room k X.A) (hg : Gl X x)
    (ha : PA X (e :: es) (lA X.K H0 t)) (hkw : PK X kws (lA X.K H0 tk)) (hne : 0 < (ps ++ ks).length) {na nb : Nat} (hna : ps.length = na) (hnb : ks.length = nb) (hall : (backToKw pos (keywordEach kws X.env)).all (·.1.isSome) = true := by rfl) (hks : (backToKw pos (keywordEach kws X.env)).filterMap (·.1) = ks := by rfl)
    (hdb : (x == ("__debug__" : Str)) = false := by decide) (he : starEach (e :: es) X.env = (false, eval e X.env) :: starEach es X.env := by rfl)
    (hpl : ((backTo pos (starEach (e :: es) X.env)).any (·.1) || (backToKw pos (keywordEach kws X.env)).any (·.1.isNone)) = false := by rfl) :
    PE X (.Call (.Name x p) (e :: es) kws pos) (lE X.K H0 (dCallK d na nb t tk)) := by
  subst hna hnb
  obtain ⟨f, fd, a, b, c, F⟩ := C.ex
  have kb : KBinds X.K fd (ps ++ ks) ks (both ps.length ks.length) (both ps.length ks.length) := by
    refine ⟨fun s us ws _ hl => ?_, fun {vs us zs ws} r rz => ?_⟩
    · unfold both at hl ⊢
      split at hl
      · rename_i z
        rw [if_pos z]
        exact .of_eq (c us ws z.1 z.2)
      · rw [List.length_nil] at hl
        omega
    · unfold both
      rw [← r.length, ← rz.length]
      split
      · exact r.append rz
      · exact .nil
  refine peL (pe_callK (E := E0) (F X.base) hr hg a b kb passL ha hkw hall hks hdb he hpl) fun σ H Q h => ?_
  obtain ⟨sd, m, P, aa, p, q⟩ := h
  refine ⟨sd, m, _, aa, p, fun xs m1 us H1 k1 r1 d1 p1 => ⟨sd, m1, _, aa.to k1 r1, p1, fun ys m2 ws H2 k2 r2 d2 p2 => ?_⟩⟩
  obtain ⟨l1, l2, p3⟩ := p2
  unfold both
  rw [if_pos ⟨by rw [← d1.length]; exact l1, by rw [← d2.length]; exact l2⟩]
  exact ⟨xs ++ ys, m2, P, noX, (d1.mono k2).append d2, r2, p3, fun d m' w H' k => q d m' w H' ((k1.trans k2).trans k), wantsX0⟩
end
end Q4

set_option Elab.async false
set_option linter.all false
set_option maxRecDepth 100000
namespace Q4
open PySem L2 PySem.Spec PyProof.Rows
/-! ### l.index(x), len of a dict, a clause that names a base class -/
def rIdx : RmD := fun x ys m P => match x, ys with
  | .ref a, [y] => ∃ (xs : List D) (j : Nat) (z : D), m a = some (.lst xs) ∧ okL xs ∧ okD y ∧ xs[j]? = some z ∧ eqD z y = true ∧ (∀ (i : Nat) (z' : D), i < j → xs[i]? = some z' → eqD z' y = false) ∧ P (.int (j : Nat)) m
  | _, _ => False
theorem D.pys_at : ∀ {xs : List D} {j : Nat}, (D.pys xs)[j]? = (xs[j]?).map D.py
  | [], _ => by simp [D.pys]
  | x :: xs, 0 => by simp [D.pys]
  | x :: xs, j + 1 => by rw [D.pys, List.getElem?_cons_succ, List.getElem?_cons_succ]; exact D.pys_at
section
variable {X : Cx}
theorem md_index (hu : X.A.units + 65 < cLine) : MethD X "list" "list.index" isLst rIdx := by
  refine ⟨_, mt_indexD hu, fun H m x u rm rx h => ?_, fun H m x u xs us P Q rm rx rs p q => ?_⟩
  · unfold isLst at h
    split at h
    · cases rx.ref_
      obtain ⟨xs, h⟩ := h
      obtain ⟨vs, e, _⟩ := rm _ _ h
      exact .inl ⟨rfl, _, .inl (.inl e)⟩
    · exact h.elim
  · unfold rIdx at p
    split at p
    · rename_i a y
      cases rx.ref_
      obtain ⟨w, rfl, r⟩ := rs.one_
      obtain ⟨xs, j, z, hm, ol, od, hz, e, hno, p⟩ := p
      obtain ⟨vs, ev, rr⟩ := rm _ _ hm
      have c1 := SeqAt.canLay_of_shaped ol
      have c2 := SeqAt.canLay_of_shaped od
      refine ⟨a, w, y.py, D.pys xs, j, z.py, rfl, rfl, .lst (.inl (.inl ev)) (dps_of rr (by simpa [PyData.canLay0] using c1)), dp_of r c2, ol, od, by rw [D.pys_at, hz]; rfl, e, fun i z' hi hz' => ?_, q _ m _ H (Keep.refl _) rm (.int _) p⟩
      rw [D.pys_at] at hz'
      cases e2 : xs[i]? with
      | none => rw [e2] at hz'; cases hz'
      | some x2 =>
        rw [e2] at hz'
        cases hz'
        exact hno i x2 hi e2
    · exact p.elim
def rLenK : RnD := fun xs m P => ∃ a kvs, xs = [.ref a] ∧ m a = some (.dct kvs) ∧ P (.int kvs.length) m
theorem call_lenK : CallR X (.builtin "len") (fun xs H Q => ∃ (a : Addr) (gs : List (Key × V)), xs = [.ref a] ∧ H a = some (.dK gs) ∧ Q (.int gs.length) H) := by
  intro pins s σ H xs us Q I r h
  obtain ⟨a, gs, rfl, e, q⟩ := h
  obtain ⟨u, rfl, rx⟩ := vals1 r
  cases rx
  exact d_len I (.of e) fun t s' I' => ⟨.int _, H, I', ⟨_, rfl⟩, q⟩
theorem cd_lenK : CallD X (.builtin "len") rLenK := by
  refine ⟨_, call_lenK, fun H m xs us P Q rm rx p q => ?_⟩
  obtain ⟨a, kvs, rfl, hm, p⟩ := p
  obtain ⟨u, rfl, r⟩ := rx.one_
  obtain rfl := r.ref_
  obtain ⟨gs, e, rk⟩ := rm.dict hm
  exact ⟨a, gs, rfl, e, q _ m _ H (Keep.refl _) rm (by rw [← rk.length]; exact .int _) p⟩
end
theorem hitOf_ok2 {K : PySem.W.Frag} {E C : Addr} (h : PySem.W.exmOne K (.ref E) (.ref C) = some true) : ∀ cls bb, hitOf E cls = some bb → PySem.W.exmOne K cls (.ref C) = some bb ∧ (bb = true → cls = .ref E) := fun cls bb e => by
  unfold hitOf at e
  split at e
  · split at e
    · rename_i a ha
      cases e
      subst ha
      exact ⟨h, fun _ => rfl⟩
    · cases e
  · cases e
end Q4

set_option Elab.async false
set_option linter.all false
set_option maxRecDepth 100000
set_option maxHeartbeats 0
namespace Q4
open PySem L2 PySem.Spec PyProof.Rows
/-! ### try with two clauses that give the error a name; each error of the body fits one of them -/
def offE (D : Ends) (i : Nat) : Ends := { nx := fun σ H => D.nx (σ.set i none) H, rt := D.rt, bk := fun σ H => D.bk (σ.set i none) H, ct := fun σ H => D.ct (σ.set i none) H }
abbrev TSu := Addr → Value → Option Addr → TS
def wTwo (K : PySem.W.Frag) (c1 c2 : Value) (i : Nat) (u1 u2 : TSu) (D : Ends) : WX := fun cls d σ H => ∃ b, PySem.W.exmOne K cls c1 = some b ∧
  (b = true → ∀ a, H a = none → u1 a cls d (offE D i) (σ.set i (some (.ref a))) H) ∧ (b = false → PySem.W.exmOne K cls c2 = some true ∧ ∀ a, H a = none → u2 a cls d (offE D i) (σ.set i (some (.ref a))) H)
section
variable {X : Cx} {x1 x2 n : Str} {c1 c2 : Value} {i : Nat} {body r1 r2 : List Stmt} {f1 f2 : Stmt} {np1 np2 pos p1 p2 : Pos} {tb : WX → TS} {u1 u2 : TSu}
theorem ps_two (eS : X.stack = X.env :: X.outer) (eF : X.env.frame = some X.env.locals) (nd : X.N.Nodup) (at_ : X.N[i]? = some n) (loc : X.env.kindOf n = some .local) (C1 : Names X x1 c1) (C2 : Names X x2 c2)
    (B : ∀ (W : WX) (pn : List (Addr × Obj)) (xe : Value → Shared → Prop), Takes (X.tr pn xe) W → PassesOwn (model X.prog X.w) X.A X.env xe → PSs (X.tr pn xe) body (tb W))
    (U1 : ∀ (a : Addr) (oe : Obj) (cls : Value) (d : Option Addr) (pn : List (Addr × Obj)), Zc cls d oe → (∃ vs, oe.data = .fields vs) → PSs (X.suite a ((a, oe) :: pn)) (f1 :: r1) (u1 a cls d))
    (U2 : ∀ (a : Addr) (oe : Obj) (cls : Value) (d : Option Addr) (pn : List (Addr × Obj)), Zc cls d oe → (∃ vs, oe.data = .fields vs) → PSs (X.suite a ((a, oe) :: pn)) (f2 :: r2) (u2 a cls d)) :
    PS X (.Try body [.ExceptHandler (some (.Name x1 np1)) (some n) (f1 :: r1) p1, .ExceptHandler (some (.Name x2 np2)) (some n) (f2 :: r2) p2] [] [] pos) (fun D σ H => tb (wTwo X.K c1 c2 i u1 u2 D) D σ H) := by
  refine ⟨fun pins s σ H D I start => ?_⟩
  have ok := I.ok
  have eFr : X.A.frames = some (X.env :: X.outer) := ok.frames.trans (congrArg some eS)
  refine wpAny_Try_except ?_
  refine wpAny_mono ((B (wTwo X.K c1 c2 i u1 u2 D) (X.pn ++ pins)
    (fun e t1 => wpAny (model X.prog X.w) X.A (noteFrame e X.env)
      (fun _ t2 => wpAny (model X.prog X.w) X.A (setFlight e none)
        (fun _ t3 => wpAny (model X.prog X.w) X.A
          (handleBy e X.env [.ExceptHandler (some (.Name x1 np1)) (some n) (f1 :: r1) p1, .ExceptHandler (some (.Name x2 np2)) (some n) (f2 :: r2) p2]) (SP X pins D) X.xe t3) X.xe t2) X.xe t1)
    (fun u sE caught => ?_) PassesOwn.looking).run [] s σ H D (I.toTry _) start)
    (fun f t hsp => ?_) (fun _ _ he => he)
  · -- an error is caught
    obtain ⟨a, Bd, sB, pB, σ', H', cls, d, rfl, JT, nb, grown, sky, free, os, ag, b, hb1, yes, no⟩ := caught
    have J0 : Inv X pins σ' H' sB := JT.ofTry ok
    rw [eS] at sky
    change wpAny (model X.prog X.w) X.A (noteFrame (Value.ref a) X.env) _ _ _
    refine Sky.land Zc.steady eFr eF sky fun h3 flies up3 => ?_
    have JL : Inv X pins σ' H' { sE with heap := h3 } := J0.landed nb flies.1 (grown.trans up3) os ag
    obtain ⟨ob, fv, obAt, obZ, obD⟩ := flies.there
    have apart : a ∉ frs (X.env :: X.outer) := fun hm => by
      obtain ⟨_, o2, at2, isnt⟩ := flies.2.2.1.mem hm
      cases obAt.symm.trans at2
      exact isnt _ obD
    have apart1 : a ≠ X.env.locals := fun z => apart (List.mem_filterMap.mpr ⟨X.env, List.mem_cons_self, eF.trans (congrArg some z.symm)⟩)
    have apart2 : a ∉ X.fs := fun hm => by
      obtain ⟨en, mem, q⟩ := List.mem_filterMap.mp hm
      exact apart (List.mem_filterMap.mpr ⟨en, List.mem_cons_of_mem _ mem, q⟩)
    have SL := JL.suite obAt obD free apart1 apart2
    have clause : ∀ {x : Str} {c : Value} {np p : Pos} {f : Stmt} {r : List Stmt} {u : TSu} {more : List ExceptHandler} {bb : Bool}, Names X x c →
        (∀ (a : Addr) (oe : Obj) (cls : Value) (d : Option Addr) (pn : List (Addr × Obj)), Zc cls d oe → (∃ vs, oe.data = .fields vs) → PSs (X.suite a ((a, oe) :: pn)) (f :: r) (u a cls d)) →
        PySem.W.exmOne X.K cls c = some bb → (bb = true → u a cls d (offE D i) (σ'.set i (some (.ref a))) H') →
        (bb = false → wpAny (model X.prog X.w) X.A (handleBy (.ref a) X.env more) (SP X pins D) X.xe { sE with heap := h3 }) →
        wpAny (model X.prog X.w) X.A (handleBy (.ref a) X.env (.ExceptHandler (some (.Name x np)) (some n) (f :: r) p :: more)) (SP X pins D) X.xe { sE with heap := h3 } := by
      intro x c np p f r u more bb hc hu hbb hyes hno
      refine wpAny_handleBy_cons (codeAny_handlers_test ?_) (fun q => by cases q)
      have kind_ : PySem.W.Looks (model X.prog X.w) h3 (typeOf (.ref a)) cls := fun _ _ _ _ kp q =>
        wpAny_typeOf_ref (kp _ _ obAt) (by rw [obZ.1]; exact q)
      have fits := PySem.W.exm_one (M := model X.prog X.w) JL.kIn kind_ hbb
      have named : ∀ {Q E : Value → Shared → Prop}, Q c { sE with heap := h3 } →
          wpAny (model X.prog X.w) (X.A.mark (some (.ref a))) (eval (.Name x np) X.env) Q E { sE with heap := h3 } := fun {Q E} q => by
        obtain ⟨hg, hd, own | ⟨none_, blt, nn⟩⟩ := hc
        · exact ld_glob (X := X.suite a ((a, ob) :: (X.pn ++ pins))) SL hg own q hd
        · exact ld_blt (X := X.suite a ((a, ob) :: (X.pn ++ pins))) SL hg none_ blt q nn hd
      refine named (fits.here ?_)
      cases bb with
      | false =>
        show wpAny _ X.A (handleBy (.ref a) X.env more) _ _ _
        exact hno rfl
      | true =>
        refine codeAny_handlers_suite_as (HandSPX.lands_againZ flies fun h4 flies4 up4 => ?_)
        have J4 : Inv X pins σ' H' { sE with heap := h4 } := J0.landed nb flies4.1 ((grown.trans up3).trans up4) os ag
        obtain ⟨ob4, fv4, at4, z4, d4⟩ := flies4.there
        have sl4 := J4.suite at4 d4 free apart1 apart2
        refine store_ok (X := X.suite a ((a, ob4) :: (X.pn ++ pins))) (v := .ref a) sl4 nd at_ (.inl loc) rfl (fun s5 S5 => ?_) (.inr loc)
        have done_ : ∀ {σz : L2.St} {Hz : Hp} {sz : Shared} {Q : Shared → Prop}, Inv (X.suite a ((a, ob4) :: (X.pn ++ pins))) [] σz Hz sz → (∀ t, Inv X pins (σz.set i none) Hz t → Q t) →
            wpAny (model X.prog X.w) X.A (do bindName X.env n .none; unbindBehindTheSuite X.env n p) (fun _ t => Q t) X.xe sz := fun Sz hq => gone_ok (Sz.unsuite ok) nd at_ loc hq
        refine wpAny_mono ((hu a ob4 cls d (X.pn ++ pins) z4 ⟨_, d4⟩).run [] s5 _ H' _ S5 (hyes rfl)) (fun f6 s6 end6 => ?_) (fun _ _ z => z.elim)
        cases f6 with
        | ret u6 =>
          obtain ⟨v6, σ6, H6, S6, r6, q6⟩ := end6
          exact done_ S6 fun t Jt => ⟨_, _, _, Jt, r6, q6⟩
        | _ =>
          obtain ⟨σ6, H6, S6, q6⟩ := end6
          exact done_ S6 fun t Jt => ⟨_, _, Jt, q6⟩
    exact clause C1 U1 hb1 (fun e => yes e a free) fun e => clause C2 U2 (no e).1 (fun _ => (no e).2 a free) fun e2 => by cases e2
  · cases f with
    | ret u =>
      obtain ⟨v, σr, Hr, JT, rr, q⟩ := hsp
      exact ⟨v, σr, Hr, JT.ofTry ok, rr, q⟩
    | next =>
      obtain ⟨σr, Hr, JT, q⟩ := hsp
      exact wpAny_execs_nil ⟨σr, Hr, JT.ofTry ok, q⟩
    | _ =>
      obtain ⟨σr, Hr, JT, q⟩ := hsp
      exact ⟨σr, Hr, JT.ofTry ok, q⟩
end
def dTry2 (E1 E2 : Addr) (i : Nat) (b : DX → TDS) (s1 s2 : Addr → TDS) : TDS := fun DD sd m =>
  b (fun sd' cls fo m' => fo = none ∧ ((cls = .ref E1 ∧ ∀ a, m' a = none → s1 a (DD.off i) (sd'.set i (some (.ref a))) m') ∨ (cls = .ref E2 ∧ ∀ a, m' a = none → s2 a (DD.off i) (sd'.set i (some (.ref a))) m'))) DD sd m
section
variable {X : Cx} {H0 : Hp} {x1 x2 n : Str} {c1 c2 : Value} {E1 E2 : Addr} {i : Nat} {body r1 r2 : List Stmt} {f1 f2 : Stmt} {np1 np2 pos p1 p2 : Pos} {b : DX → TDS} {s1 s2 : Addr → TDS}
theorem qs_try2 (hs : X.stack = X.env :: X.outer) (hf : X.env.frame = some X.env.locals) (hN : X.N.Nodup) (hi : X.N[i]? = some n) (hln : X.env.kindOf n = some .local) (hc1 : Names X x1 c1) (hc2 : Names X x2 c2)
    (h11 : PySem.W.exmOne X.K (.ref E1) c1 = some true) (h21 : PySem.W.exmOne X.K (.ref E2) c1 = some false) (h22 : PySem.W.exmOne X.K (.ref E2) c2 = some true)
    (hb : ∀ (H1 : Hp) (exx : DX) (W : WX) (pn : List (Addr × Obj)) (xe : Value → Shared → Prop), Takes (X.tr pn xe) W → PassesOwn (model X.prog X.w) X.A X.env xe → WW X.K H1 exx W → PSs (X.tr pn xe) body (lS X.K H1 (b exx)))
    (hs1 : ∀ (a : Addr) (oe : Obj) (pn : List (Addr × Obj)), Zc (.ref E1) none oe → (∃ vs, oe.data = .fields vs) → PSs (X.suite a ((a, oe) :: pn)) (f1 :: r1) (lS X.K H0 (s1 a)))
    (hs2 : ∀ (a : Addr) (oe : Obj) (pn : List (Addr × Obj)), Zc (.ref E2) none oe → (∃ vs, oe.data = .fields vs) → PSs (X.suite a ((a, oe) :: pn)) (f2 :: r2) (lS X.K H0 (s2 a))) :
    PS X (.Try body [.ExceptHandler (some (.Name x1 np1)) (some n) (f1 :: r1) p1, .ExceptHandler (some (.Name x2 np2)) (some n) (f2 :: r2) p2] [] [] pos) (lS X.K H0 (dTry2 E1 E2 i b s1 s2)) :=
  psL (ps_two (tb := fun W D σ H => ∃ exx, WW X.K H exx W ∧ lS X.K H (b exx) D σ H) (u1 := fun a cls d D σ H => cls = .ref E1 ∧ d = none ∧ lS X.K H0 (s1 a) D σ H) (u2 := fun a cls d D σ H => cls = .ref E2 ∧ d = none ∧ lS X.K H0 (s2 a) D σ H) hs hf hN hi hln hc1 hc2
    (fun W pn xe tkk po => ⟨fun pins s σ H D I h => by
      obtain ⟨exx, w1, h⟩ := h
      exact (hb H exx W pn xe tkk po w1).run pins s σ H D I h⟩)
    (fun a oe cls d pn hz hd => ⟨fun pins s σ H D I h => by
      obtain ⟨e1, e2, h⟩ := h
      subst e1 e2
      exact (hs1 a oe pn hz hd).run pins s σ H D I h⟩)
    (fun a oe cls d pn hz hd => ⟨fun pins s σ H D I h => by
      obtain ⟨e1, e2, h⟩ := h
      subst e1 e2
      exact (hs2 a oe pn hz hd).run pins s σ H D I h⟩)) fun D σ H h => by
    obtain ⟨sd, m, DD, a0, p, q1, q2, q3, q4⟩ := h
    refine ⟨_, fun sd' σ' cls fo m' od H' k rs rm xr he => ?_, sd, m, DD, ⟨a0.s, a0.m, Keep.refl _⟩, p, q1, q2, q3, q4⟩
    obtain ⟨hfo, he⟩ := he
    subst hfo
    have hod : od = none := by
      cases od with
      | none => rfl
      | some d => exact xr.elim
    have ends : ∀ (st : Addr → TDS) (a : Addr), H' a = none → st a (DD.off i) (sd'.set i (some (.ref a))) m' → lS X.K H0 (st a) (offE D i) (σ'.set i (some (.ref a))) H' := fun st a ha h3 => by
      refine ⟨_, m', DD.off i, ⟨rs.set i (.ref a), rm, a0.k.trans k⟩, h3, ?_, ?_, ?_, ?_⟩
      · exact fun sd2 m2 σ2 H2 k2 r2 rm2 p2 => q1 _ m2 _ H2 (k.trans k2) (r2.setNone i) rm2 p2
      · exact fun d m2 v H2 k2 rm2 rd p2 => q2 d m2 v H2 (k.trans k2) rm2 rd p2
      · exact fun sd2 m2 σ2 H2 k2 r2 rm2 p2 => q3 _ m2 _ H2 (k.trans k2) (r2.setNone i) rm2 p2
      · exact fun sd2 m2 σ2 H2 k2 r2 rm2 p2 => q4 _ m2 _ H2 (k.trans k2) (r2.setNone i) rm2 p2
    rcases he with ⟨rfl, h3⟩ | ⟨rfl, h3⟩
    · exact ⟨true, h11, fun _ a ha => ⟨rfl, hod, ends s1 a ha (h3 a (rm.free ha))⟩, (fun e => by cases e)⟩
    · exact ⟨false, h21, (fun e => by cases e), fun _ => ⟨h22, fun a ha => ⟨rfl, hod, ends s2 a ha (h3 a (rm.free ha))⟩⟩⟩
end
end Q4

set_option Elab.async false
set_option linter.all false
set_option maxRecDepth 100000
namespace Q4
open PySem L2 PySem.Spec PyProof.Rows
open PyProof.Rows (envOfC)
/-! ### objects of own classes -/
theorem ins_lookup {K : PySem.W.Frag} {H : Hp} {f : Str} : ∀ {fs : List (Str × D)} {gs : List (Str × V)}, RDs K H (fs.map (·.2)) (gs.map (·.2)) → fs.map (·.1) = gs.map (·.1) →
    (fs.lookup f = none → gs.lookup f = none) ∧ ∀ d, fs.lookup f = some d → ∃ v, gs.lookup f = some v ∧ RD K H d v
  | [], [], _, _ => ⟨fun _ => rfl, fun d h => by cases h⟩
  | [], _ :: _, r, _ => by have := r.length; cases this
  | _ :: _, [], r, _ => by have := r.length; cases this
  | (g, d) :: fs, (g', v) :: gs, r, e => by
    rw [List.map_cons, List.map_cons] at r e
    obtain ⟨e1, e2⟩ := List.cons.inj e
    have e1 : g = g' := e1
    subst e1
    cases r with
    | cons r0 rr =>
      obtain ⟨h1, h2⟩ := ins_lookup (f := f) rr e2
      rw [List.lookup_cons, List.lookup_cons]
      cases hb : f == g with
      | true => exact ⟨(fun h => by cases h), (fun d' h => by cases h; exact ⟨v, rfl, r0⟩)⟩
      | false => exact ⟨h1, h2⟩
def putFD (f : Str) (v : D) : List (Str × D) → List (Str × D)
  | [] => [(f, v)]
  | (g, x) :: r => if g = f then (g, v) :: r else (g, x) :: putFD f v r
theorem ins_put {K : PySem.W.Frag} {H : Hp} {f : Str} {d : D} {v : V} (h : RD K H d v) : ∀ {fs : List (Str × D)} {gs : List (Str × V)}, RDs K H (fs.map (·.2)) (gs.map (·.2)) → fs.map (·.1) = gs.map (·.1) →
    RDs K H ((putFD f d fs).map (·.2)) ((putF f v gs).map (·.2)) ∧ (putFD f d fs).map (·.1) = (putF f v gs).map (·.1)
  | [], [], _, _ => ⟨.cons h .nil, rfl⟩
  | [], _ :: _, r, _ => by have := r.length; cases this
  | _ :: _, [], r, _ => by have := r.length; cases this
  | (g, x) :: fs, (g', y) :: gs, r, e => by
    rw [List.map_cons, List.map_cons] at r e
    obtain ⟨e1, e2⟩ := List.cons.inj e
    have e1 : g = g' := e1
    subst e1
    cases r with
    | cons r0 rr =>
      obtain ⟨h1, h2⟩ := ins_put h rr e2
      rw [putFD, putF]
      by_cases hg : g = f
      · rw [if_pos hg, if_pos hg]
        exact ⟨.cons h rr, by rw [List.map_cons, List.map_cons, e2]⟩
      · rw [if_neg hg, if_neg hg]
        exact ⟨.cons r0 h1, by rw [List.map_cons, List.map_cons, h2]⟩
theorem RM.ins {K : PySem.W.Frag} {H : Hp} {m : M} {a C dx : Addr} {fs : List (Str × D)} (r : RM K H m) (h : m a = some (.ins C dx fs)) : ∃ gs, H a = some (.ins C dx gs) ∧ RDs K H (fs.map (·.2)) (gs.map (·.2)) ∧ fs.map (·.1) = gs.map (·.1) := r a _ h
theorem Keep.ins {K : PySem.W.Frag} {H : Hp} {p C dx : Addr} {gs : List (Str × V)} {o : HO} (h : H p = some (.ins C dx gs)) : Keep K H (upd H p o) := by
  refine ⟨fun a xs q => ?_, fun a xs q => ?_, fun a xs q => (let ⟨its, n, q⟩ := q; ⟨its, n, by rw [upd_ne (ne_of q h (by simp))]; exact q⟩)⟩
  · rcases q with (q | ⟨o', q⟩) | q
    · exact .inl (.inl ((upd_ne (ne_of q h (by simp))).trans q))
    · exact .inl (.inr ⟨o', (upd_ne (ne_of q h (by simp))).trans q⟩)
    · exact .inr q
  · rcases q with ⟨o', q⟩ | q
    · exact .inl ⟨o', (upd_ne (ne_of q h (by simp))).trans q⟩
    · exact .inr q
theorem RM.setIns {K : PySem.W.Frag} {H : Hp} {m : M} (r : RM K H m) {p C dx : Addr} {gs gs' : List (Str × V)} {fs : List (Str × D)} (h : H p = some (.ins C dx gs)) (q : RDs K H (fs.map (·.2)) (gs'.map (·.2))) (q2 : fs.map (·.1) = gs'.map (·.1)) :
    RM K (upd H p (.ins C dx gs')) (put m p (.ins C dx fs)) := fun a u e => by
  by_cases n : a = p
  · subst n
    rw [put_same] at e
    cases e
    exact ⟨gs', upd_same, q.mono (Keep.ins h), q2⟩
  · rw [put_ne n] at e
    exact (r a u e).stay (Keep.ins h) (upd_ne n)
/-- t.f of an object of the class C -/
def dFld (C : Addr) (t : TDE) (f : Str) : TDE := fun sd m P => t sd m fun x m1 => ∃ a dx fs v, x = .ref a ∧ m1 a = some (.ins C dx fs) ∧ fs.lookup f = some v ∧ P v m1
/-- t.f = u -/
def dSetFld (C : Addr) (t u : TDE) (f : Str) : TDS := fun DD sd m => u sd m fun y m1 => t sd m1 fun x m2 => ∃ a dx fs, x = .ref a ∧ m2 a = some (.ins C dx fs) ∧ fs.length < 1000 ∧ DD.nx sd (put m2 a (.ins C dx (putFD f y fs)))
/-- t.m(u ..) of an object of the class C -/
def dMeth (C : Addr) (f : Str) (d : DSp) (t : TDE) (u : TDA) : TDE := fun sd m P => t sd m fun x m1 => ∃ a dx fs, x = .ref a ∧ m1 a = some (.ins C dx fs) ∧ fs.lookup f = none ∧ u sd m1 fun xs m2 => d (x :: xs) m2 P noX
/-- C() -/
def dMake0 (C : Addr) (d : DSp) : TDE := fun _ m P => ∀ x dx, m x = none → d [.ref x] (put m x (.ins C dx [])) (fun v m2 => v = .non ∧ P (.ref x) m2) noX
structure FunAtM (K : PySem.W.Frag) (C : Addr) (x qual : Str) (st : Stmt) (ps : List Str) : Prop where
  ex : ∃ f fd, Fun K x qual st f fd ∧ Meth K C x f ∧ ∀ us : List Value, us.length = ps.length → bindArgs fd ⟨us, []⟩ = pure (ps.zip us)
structure CalleeM (P : Program) (w : World) (K : PySem.W.Frag) (mg : Str → Option Value) (k : Nat) (C : Addr) (x : Str) (ps : List Str) (d : DSp) : Prop where
  ex : ∃ f fd, Meth K C x f ∧ (∀ us : List Value, us.length = ps.length → bindArgs fd ⟨us, []⟩ = pure (ps.zip us)) ∧ ∀ base, FnOk P w K mg base CX0 k f fd ps (lSp K d)
section
variable {P : Program} {w : World} {K : PySem.W.Frag} {mg : Str → Option Value} {C : Addr} {x qual : Str} {st : Stmt} {ps N : List Str} {d : DSp} {k j : Nat}
theorem CalleeM.mono (c : CalleeM P w K mg j C x ps d) (h : j ≤ k) : CalleeM P w K mg k C x ps d := by
  obtain ⟨f, fd, a, b, e⟩ := c.ex
  exact ⟨f, fd, a, b, fun base => (e base).mono h⟩
theorem FunAtM.callee (F : FunAtM K C x qual st ps) (S : FnScope N ps (defScope st)) (len : ∀ ds m P EX, d ds m P EX → ds.length = ps.length)
    (t : TDS) (hread : ∀ ds m P EX, d ds m P EX → t { nx := fun _ m' => Ret P .non m', rt := Ret P } (dstart N ds) m)
    (hbody : ∀ (base : Heap) (f : Addr) (cdv : Value) (A : Around) (outer : List Env) (s : Shared) (H : Hp) (E : XK), Room k (A.deeper (envOfC qual (defScope st) s.heap.objs.size f cdv)) → PSs (cxOf CX0 P w K mg base N qual (defScope st) f cdv A outer s H E).nox (defBody st) (lS K H t)) :
    CalleeM P w K mg (k + 1) C x ps d := by
  obtain ⟨f, fd, F1, a, c⟩ := F.ex
  exact ⟨f, fd, a, c, fun base => Fun.okD F1 S len t hread (hbody base f)⟩
end
section
variable {X : Cx} {H0 : Hp} {C : Addr}
theorem qe_fld {e : Expr} {t : TDE} {f : Str} {pos : Pos} (c : Cls X.K C) (n : NoAttr X.K C f) (he : PE X e (lE X.K H0 t)) (hb : attributeBase e f X.env (eval e X.env) = eval e X.env := by rfl) : PE X (.Attribute e f pos) (lE X.K H0 (dFld C t f)) := peL (pe_fld he hb) fun σ H Q h => by
  obtain ⟨sd, m, P, a, p, q⟩ := h
  refine ⟨sd, m, _, a, p, fun x m1 u H1 k1 r1 d1 p1 => ?_⟩
  obtain ⟨ad, dx, fs, v, rfl, hm, hf, p2⟩ := p1
  obtain rfl := d1.ref_
  obtain ⟨gs, e1, e2, e3⟩ := r1.ins hm
  obtain ⟨w, hw, rw⟩ := (ins_lookup e2 e3).2 v hf
  exact ⟨ad, C, dx, gs, w, rfl, e1, c, n, hw, q v m1 w H1 k1 r1 rw p2⟩
theorem qs_setFld {o e : Expr} {t u : TDE} {f : Str} {pos pos' : Pos} (c : Cls X.K C) (n : NoAttr X.K C f) (ho : PE X o (lE X.K H0 t)) (he : PE X e (lE X.K H0 u)) (hs : swapsWith e (some (.Attribute o f pos')) pos.line X.env = pure false := by rfl) :
    PS X (.Assign [.Attribute o f pos'] e pos) (lS X.K H0 (dSetFld C t u f)) := psL (ps_fld ho he hs) fun D σ H h => by
  obtain ⟨sd, m, DD, aa, p, q⟩ := h
  refine ⟨sd, m, _, aa, p, fun y m1 w1 H1 k1 r1 d1 p1 => ⟨sd, m1, _, aa.to k1 r1, p1, fun x m2 w2 H2 k2 r2 d2 p2 => ?_⟩⟩
  obtain ⟨ad, dx, fs, rfl, hm, hl, p3⟩ := p2
  obtain rfl := d2.ref_
  obtain ⟨gs, e1, e2, e3⟩ := r2.ins hm
  have el : fs.length = gs.length := by rw [← List.length_map (f := (·.1)) (as := fs), e3, List.length_map]
  obtain ⟨i1, i2⟩ := ins_put (f := f) (d1.mono k2) e2 e3
  have KK : Keep X.K H (upd H2 ad (.ins C dx (putF f w1 gs))) := (k1.trans k2).trans (Keep.ins e1)
  exact ⟨ad, C, dx, gs, rfl, e1, c, n, by omega, q.1 _ _ _ _ KK (aa.s.mono KK) (r2.setIns e1 i1 i2) p3⟩
theorem l_meth {K : PySem.W.Frag} {H0 : Hp} {f : Str} {d : DSp} {t : TDE} {u : TDA} {σ : L2.St} {H : Hp} {Q : VK} (h : lE K H0 (dMeth C f d t u) σ H Q) : tMeth C f (lSp K d) [] E0 (lE K H0 t) (lA K H0 u) σ H Q := by
  obtain ⟨sd, m, P, aa, p, q⟩ := h
  refine ⟨sd, m, _, aa, p, fun x m1 w1 H1 k1 r1 d1 p1 => ?_⟩
  obtain ⟨ad, dx, fs, rfl, hm, hf, p2⟩ := p1
  obtain rfl := d1.ref_
  obtain ⟨gs, e1, e2, e3⟩ := r1.ins hm
  refine ⟨ad, dx, gs, rfl, e1, (ins_lookup e2 e3).1 hf, sd, m1, _, aa.to k1 r1, p2, fun xs m2 us H2 k2 r2 d2 p3 => ?_⟩
  show lSp K d (.ref ad :: (us ++ [])) H2 Q E0
  rw [List.append_nil]
  exact ⟨.ref ad :: xs, m2, P, noX, .cons (.ref ad) d2, r2, p3, fun d m' w H' k => q d m' w H' ((k1.trans k2).trans k), wantsX0⟩
theorem l_meth0 {K : PySem.W.Frag} {H0 : Hp} {f : Str} {d : DSp} {t : TDE} {σ : L2.St} {H : Hp} {Q : VK} (h : lE K H0 (dMeth C f d t dNil) σ H Q) : tMeth C f (lSp K d) [] E0 (lE K H0 t) tNil σ H Q := by
  obtain ⟨sd, m, P, aa, p, q⟩ := h
  refine ⟨sd, m, _, aa, p, fun x m1 w1 H1 k1 r1 d1 p1 => ?_⟩
  obtain ⟨ad, dx, fs, rfl, hm, hf, p2⟩ := p1
  obtain rfl := d1.ref_
  obtain ⟨gs, e1, e2, e3⟩ := r1.ins hm
  exact ⟨ad, dx, gs, rfl, e1, (ins_lookup e2 e3).1 hf, [.ref ad], m1, P, noX, .cons (.ref ad) .nil, r1, p2, fun d m' w H' k => q d m' w H' (k1.trans k), wantsX0⟩
theorem qe_meth {k : Nat} {f : Str} {ps : List Str} {d : DSp} {o e : Expr} {es : List Expr} {apos pos : Pos} {t : TDE} {u : TDA} {pl : Sem Bool} (c : Cls X.K C) (M : CalleeM X.prog X.w X.K X.mg k C f ps d) (hr : Room k X.A) (ho : PE X o (lE X.K H0 t)) (ha : PA X (e :: es) (lA X.K H0 u))
    (e1 : starEach (e :: es) X.env = (false, eval e X.env) :: starEach es X.env := by rfl) (e2 : (backTo pos (starEach es X.env)).any (·.1) = false := by rfl)
    (ht : eval (.Call (.Attribute o f apos) (e :: es) [] pos) X.env = (do
      let ov ← eval o X.env
      standAt apos.atName
      let (g, first) ← holding [ov] (getMethod ov f pl)
      callWith pos g first (backTo pos (starEach (e :: es) X.env)) (backToKw pos (keywordEach [] X.env))) := by rfl) :
    PE X (.Call (.Attribute o f apos) (e :: es) [] pos) (lE X.K H0 (dMeth C f d t u)) := by
  obtain ⟨g, fd, a, b, F⟩ := M.ex
  exact peL (pe_meth (pl := pl) (E := E0) ho c a (F X.base) hr (.all b) .nil pass0 ha e1 e2 ht) fun _ _ _ => l_meth
theorem qe_meth0 {k : Nat} {f : Str} {ps : List Str} {d : DSp} {o : Expr} {apos pos : Pos} {t : TDE} {pl : Sem Bool} (c : Cls X.K C) (M : CalleeM X.prog X.w X.K X.mg k C f ps d) (hr : Room k X.A) (ho : PE X o (lE X.K H0 t))
    (ht : eval (.Call (.Attribute o f apos) [] [] pos) X.env = (do
      let ov ← eval o X.env
      standAt apos.atName
      let (g, first) ← holding [ov] (getMethod ov f pl)
      callWith pos g first (backTo pos (starEach [] X.env)) (backToKw pos (keywordEach [] X.env))) := by rfl) :
    PE X (.Call (.Attribute o f apos) [] [] pos) (lE X.K H0 (dMeth C f d t dNil)) := by
  obtain ⟨g, fd, a, b, F⟩ := M.ex
  exact peL (pe_meth0 (pl := pl) (E := E0) ho c a (F X.base) hr (.all b) .nil pass0 ht) fun σ H Q h => l_meth0 h
theorem RM.newIns {K : PySem.W.Frag} {H : Hp} {m : M} (r : RM K H m) {p dx C : Addr} (h : H p = none) : RM K (upd H p (.ins C dx [])) (put m p (.ins C dx [])) := fun a u e => by
  by_cases n : a = p
  · subst n
    rw [put_same] at e
    cases e
    exact ⟨[], upd_same, .nil, rfl⟩
  · rw [put_ne n] at e
    exact (r a u e).stay (Keep.new h) (upd_ne n)
theorem qe_make0 {k : Nat} {d : DSp} {x : Str} {p pos : Pos} (mk : PySem.W.makesIn X.K C = true) (kc : PySem.W.keepIn X.K (.ref C) = true) (I : CalleeM X.prog X.w X.K X.mg k C "__init__" ["self"] d) (hr : Room (k + 1) X.A) (hg : Gl X x) (hm : X.mg x = some (.ref C))
    (hdb : (x == ("__debug__" : Str)) = false := by decide) : PE X (.Call (.Name x p) [] [] pos) (lE X.K H0 (dMake0 C d)) := by
  obtain ⟨g, fd, a, b, F⟩ := I.ex
  refine peL (pe_make0 (E := E0) ⟨mk, a.at_, a.fn, kc⟩ (F X.base) hr hg hm (.all b) .nil pass0 hdb) fun σ H Q h => ?_
  obtain ⟨sd, m, P, aa, p, q⟩ := h
  intro y dx hy hdx hne
  have hy2 : upd H dx (.own y) y = none := (upd_ne (Ne.symm hne)).trans hy
  have kk : Keep X.K H (upd (upd H dx (.own y)) y (.ins C dx [])) := (Keep.new hdx).trans (Keep.new hy2)
  refine ⟨[.ref y], _, fun v m2 => v = .non ∧ P (.ref y) m2, noX, .cons (.ref y) .nil, (aa.m.new hdx).newIns hy2, p y dx (aa.m.free hy), fun v m' w H' k r rd ⟨ev, pp⟩ => ?_, wantsX0⟩
  subst ev
  exact ⟨rd.non_, q _ m' _ H' (kk.trans k) r (.ref y) pp⟩
end
/-! ### del d[k], l.insert(i, x), l.pop(i) -/
def dropD (kvs : List (Key × D)) (k : Key) : List (Key × D) := kvs.filter fun p => decide (p.1 ≠ k)
/-- del t[u] of a dict -/
def dDDel (t u : TDE) : TDS := fun DD sd m => t sd m fun x m1 => u sd m1 fun y m2 => ∃ a kvs k, x = .ref a ∧ y = kD k ∧ m2 a = some (.dct kvs) ∧ (valD kvs k).isSome = true ∧ DD.nx sd (put m2 a (.dct (dropD kvs k)))
def rInsert : RmD := fun x ys m P => match x, ys with
  | .ref a, [.int i, y] => ∃ xs, m a = some (.lst xs) ∧ xs.length < sizeLine ∧ 0 ≤ i ∧ i < 2 ^ 63 ∧ P .non (put m a (.lst (xs.take i.toNat ++ [y] ++ xs.drop i.toNat)))
  | _, _ => False
def rPopAtD : RmD := fun x ys m P => match x, ys with
  | .ref a, [.int i] => ∃ xs y, m a = some (.lst xs) ∧ 0 ≤ i ∧ i < 2 ^ 62 ∧ xs[i.toNat]? = some y ∧ P y (put m a (.lst (xs.eraseIdx i.toNat)))
  | _, _ => False
theorem RK.drop {K : PySem.W.Frag} {H : Hp} (k : Key) : ∀ {kvs : List (Key × D)} {gs : List (Key × V)}, RK K H kvs gs → RK K H (dropD kvs k) (dropK gs k)
  | [], [], _ => .nil
  | [], _ :: _, r => by have := r.length; cases this
  | _ :: _, [], r => by have := r.length; cases this
  | p :: kvs, q :: gs, r => by
    obtain ⟨e, h, r2⟩ := r.cons
    have ih := RK.drop k r2
    unfold dropD dropK at ih ⊢
    rw [List.filter_cons, List.filter_cons]
    by_cases hk : p.1 = k
    · rw [if_neg (by simp [hk]), if_neg (by simp [← e, hk])]
      exact ih
    · rw [if_pos (by simp [hk]), if_pos (by simp [← e, hk])]
      exact .mk_cons e h ih
theorem RDs.erase {K : PySem.W.Frag} {H : Hp} : ∀ {xs : List D} {vs : List V}, RDs K H xs vs → ∀ n, RDs K H (xs.eraseIdx n) (vs.eraseIdx n)
  | _, _, .nil, _ => .nil
  | _, _, .cons h r, 0 => r
  | _, _, .cons h r, n + 1 => .cons h (r.erase n)
section
variable {X : Cx} {H0 : Hp}
theorem qs_ddel {o i : Expr} {t u : TDE} {pos tpos : Pos} (ho : PE X o (lE X.K H0 t)) (hi : PE X i (lE X.K H0 u)) : PS X (.Delete [.Subscript o i tpos] pos) (lS X.K H0 (dDDel t u)) := psL (ps_ddel ho hi) fun DD σ H h => by
  obtain ⟨sd, m, EE, aa, p, q⟩ := h
  refine ⟨sd, m, _, aa, p, fun x m1 w1 H1 k1 r1 d1 p1 => ⟨sd, m1, _, aa.to k1 r1, p1, fun y m2 w2 H2 k2 r2 d2 p2 => ?_⟩⟩
  obtain ⟨ad, kvs, k, rfl, rfl, hm, hv, p3⟩ := p2
  obtain rfl := (d1.mono k2).ref_
  obtain rfl := d2.key_
  obtain ⟨gs, e, rk⟩ := r2.dict hm
  have KK : Keep X.K H (upd H2 ad (.dK (dropK gs k))) := (k1.trans k2).trans (Keep.dk e)
  exact ⟨ad, gs, k, rfl, e, rfl, by rw [isSome_eq rk k]; exact hv, q.1 _ _ _ _ KK (aa.s.mono KK) (r2.setDct e (rk.drop k)) p3⟩
theorem isLst_ty {H : Hp} {m : M} {x : D} {u : V} (rm : RM X.K H m) (rx : RD X.K H x u) (h : isLst x m) : tyV X.K "list" u H := by
  unfold isLst at h
  split at h
  · cases rx.ref_
    obtain ⟨xs, h⟩ := h
    obtain ⟨vs, e, _⟩ := rm _ _ h
    exact .inl ⟨rfl, _, .inl (.inl e)⟩
  · exact h.elim
theorem md_insert : MethD X "list" "list.insert" isLst rInsert := by
  refine ⟨_, mt_insert, fun H m x u rm rx h => isLst_ty rm rx h, fun H m x u xs us P Q rm rx rs p q => ?_⟩
  unfold rInsert at p
  split at p
  · rename_i a i y
    cases rx.ref_
    obtain ⟨w1, w2, rfl, r1, r2⟩ := rs.two_
    obtain rfl := r1.int_
    obtain ⟨xs, hm, hl, h0, h1, p⟩ := p
    obtain ⟨vs, e, rr⟩ := rm _ _ hm
    refine ⟨a, vs, i, w2, rfl, rfl, e, by rw [← rr.length]; exact hl, h0, h1, q _ _ _ _ (Keep.lst e) (rm.setPut e (((rr.take _).append (.cons r2 .nil)).append (rr.drop _))) .non p⟩
  · exact p.elim
theorem md_popAt : MethD X "list" "list.pop" isLst rPopAtD := by
  refine ⟨_, mt_popAt, fun H m x u rm rx h => isLst_ty rm rx h, fun H m x u xs us P Q rm rx rs p q => ?_⟩
  unfold rPopAtD at p
  split at p
  · rename_i a i
    cases rx.ref_
    obtain ⟨w1, rfl, r1⟩ := rs.one_
    obtain rfl := r1.int_
    obtain ⟨xs, y, hm, h0, h1, hy, p⟩ := p
    obtain ⟨vs, e, rr⟩ := rm _ _ hm
    obtain ⟨v, hv, rv⟩ := rr.get hy
    have hlt := (List.getElem?_eq_some_iff.mp hv).1
    have hix : PySem.seqIndex? i vs.length = some i.toNat := by
      have n0 : ¬ i < 0 := by omega
      unfold PySem.seqIndex?
      simp only [if_neg n0]
      exact if_pos (by rw [Bool.and_eq_true]; exact ⟨decide_eq_true h0, decide_eq_true (by omega)⟩)
    exact ⟨a, vs, i, i.toNat, v, rfl, rfl, e, by omega, by omega, hix, hv, q _ _ _ _ (Keep.lst e) (rm.setPut e (rr.erase _)) (rv.mono (Keep.lst e)) p⟩
  · exact p.elim
end
/-! ### a comprehension over enumerate(l) of a list; a, b = t, u -/
def jNum (a : Addr) : DIt := fun i m o => ∃ xs, m a = some (.lst xs) ∧ o = (xs[i]?).map fun x => .tup [.int (i : Nat), x]
theorem lift_num {K : PySem.W.Frag} {H : Hp} {b : Addr} : LiftIt K H (jNum b) (Ite K b) := fun H2 k2 i m2 r2 o e => by
  obtain ⟨ys, hy, e⟩ := e
  obtain ⟨ws, e1, g2⟩ := r2 _ _ hy
  have g1 : SqL K H2 b ws := .inl (.inl e1)
  cases e2 : ys[i]? with
  | none =>
    rw [e2] at e
    subst e
    exact ⟨ws, g1, by rw [← g2.length]; exact List.getElem?_eq_none_iff.mp e2⟩
  | some x =>
    rw [e2] at e
    subst e
    obtain ⟨u, e3, r3⟩ := g2.get e2
    refine ⟨⟨ws, u, g1, e3⟩, fun v H3 y => ?_⟩
    obtain ⟨T, z, rfl, hn, rfl, hz⟩ := y
    have e5 := hz ws g1
    rw [e3] at e5
    cases e5
    have kk : Keep K H2 (upd H2 T (.tup [.int (i : Nat), u])) := Keep.new hn
    exact ⟨kk, r2.new hn, .tup (.inl (.inl upd_same)) ((RDs.cons (.int _) (.cons r3 .nil)).mono kk)⟩
def CN (a : Addr) (xs : List D) (g : TDG) (tt : TDT) (te : TDE) (vs : List Nat) (sd : DS) (m1 : M) (P : DK) : Prop := ∀ p, m1 p = none → ∃ W : Nat → List D → M → Prop, W 0 [] m1 ∧ (∀ i acc m2, i ≤ xs.length → W i acc m2 → m2 a = some (.lst xs)) ∧
  (∀ i x acc m2, xs[i]? = some x → W i acc m2 → CTurn g tt te vs sd p (W (i + 1)) (.tup [.int (i : Nat), x]) acc m2) ∧ ∀ acc m2, W xs.length acc m2 → P (.ref p) (put m2 p (.lst acc))
def dLcN (t : TDA) (g : TDG) (tt : TDT) (te : TDE) (vs : List Nat) : TDE := fun sd m P => t sd m fun ys m1 => match ys with | [.ref a] => ∃ xs, m1 a = some (.lst xs) ∧ CN a xs g tt te vs sd m1 P | _ => False
section
variable {K : PySem.W.Frag} {H0 H : Hp} {g : TDG} {tt : TDT} {te : TDE} {vs : List Nat} {sd : DS} {m1 : M} {P : DK} {p : Addr} {σ : L2.St} {Q : VK}
theorem c_num {a : Addr} {xs : List D} (hap : a ≠ p) (h : ∃ W : Nat → List D → M → Prop, W 0 [] m1 ∧ (∀ i acc m2, i ≤ xs.length → W i acc m2 → m2 a = some (.lst xs)) ∧ (∀ i x acc m2, xs[i]? = some x → W i acc m2 → CTurn g tt te vs sd p (W (i + 1)) (.tup [.int (i : Nat), x]) acc m2) ∧ ∀ acc m2, W xs.length acc m2 → P (.ref p) (put m2 p (.lst acc))) :
    ∃ (N : Nat) (W : Nat → List D → M → Prop), W 0 [] m1 ∧ ∀ i acc m2, W i acc m2 → i ≤ N ∧ ∃ o, jNum a i (put m2 p (.lst acc)) o ∧ match o with
      | none => P (.ref p) (put m2 p (.lst acc))
      | some x => CTurn g tt te vs sd p (W (i + 1)) x acc m2 := by
  obtain ⟨W, w0, wl, ws, wd⟩ := h
  refine ⟨xs.length, fun i acc m => i ≤ xs.length ∧ (i ≤ xs.length → W i acc m), ⟨Nat.zero_le _, fun _ => w0⟩, ?_⟩
  rintro i acc m2 ⟨hi, w⟩
  refine ⟨hi, ?_⟩
  have hl : put m2 p (.lst acc) a = some (.lst xs) := (put_ne hap).trans (wl i acc m2 hi (w hi))
  by_cases e : i < xs.length
  · exact ⟨some (.tup [.int (i : Nat), xs[i]]), ⟨xs, hl, by rw [List.getElem?_eq_getElem e]; rfl⟩, c_cut e (ws i xs[i] acc m2 (List.getElem?_eq_getElem e) (w hi))⟩
  · have : i = xs.length := by omega
    subst this
    exact ⟨none, ⟨xs, hl, by rw [List.getElem?_eq_none (Nat.le_refl _)]; rfl⟩, wd acc m2 (w hi)⟩
theorem l_lcN {t : TDA} (h : lE K H0 (dLcN t g tt te vs) σ H Q) : tLc (iEnum K (lA K H0 t)) (lG K H0 vs g) (lT K H0 tt) (lE K H0 te) vs σ H Q := by
  obtain ⟨sd, m, P, a, p, q⟩ := h
  refine ⟨sd, m, _, a, p, fun d m' v H' k r rd p' => ?_⟩
  split at p'
  · obtain ⟨u, rfl, r1⟩ := rd.one_
    cases r1.ref_
    obtain ⟨xs, h, p'⟩ := p'
    obtain ⟨ws, e1, rr⟩ := r _ _ h
    refine ⟨_, ws, rfl, .inl (.inl e1), fun D hD => lc_core a.k k a.s r lift_num q hD (c_num ?_ (p' D (r.free hD)))⟩
    intro e
    subst e
    rw [r.free hD] at h
    cases h
  · exact p'.elim
end
def dPar (i j : Nat) (t : TDA) : TDS := fun DD sd m => t sd m fun xs m1 => ∃ v w, xs = [v, w] ∧ DD.nx ((sd.set i (some v)).set j (some w)) m1
theorem qs_par {X : Cx} {H0 : Hp} {i j : Nat} {x y : Str} {a b : Expr} {t : TDA} {px py pt : Pos} {kt k2 : Nat} {pt2 pos : Pos} (hc : X.calm = true) (hN : X.N.Nodup) (hi : X.N[i]? = some x) (hj : X.N[j]? = some y) (hij : i ≠ j)
    (hx : X.env.scope.names.lookup x = some .local) (hy : X.env.scope.names.lookup y = some .local) (ha : PA X [a, b] (lA X.K H0 t))
    (hw : swappedStores [.Tuple [.Name x px, .Name y py] kt pt] (.Tuple [a, b] k2 pt2) X.env = pure (some [x, y])) (hs : swapsWithSole [.Tuple [.Name x px, .Name y py] kt pt] (.Tuple [a, b] k2 pt2) pos.line X.env = pure false := by rfl) :
    PS X (.Assign [.Tuple [.Name x px, .Name y py] kt pt] (.Tuple [a, b] k2 pt2) pos) (lS X.K H0 (dPar i j t)) := psL (ps_par hc hN hi hj hij hx hy ha hw hs) fun DD σ H h => by
  obtain ⟨sd, m, EE, aa, p, q⟩ := h
  refine ⟨sd, m, _, aa, p, fun xs m1 us H1 k1 r1 d1 p1 => ?_⟩
  obtain ⟨v, w, rfl, p2⟩ := p1
  obtain ⟨u1, u2, rfl, g1, g2⟩ := d1.two_
  exact ⟨u1, u2, rfl, q.1 _ _ _ _ k1 (((aa.s.mono k1).set i g1).set j g2) r1 p2⟩
theorem FunAtM.of {K : PySem.W.Frag} {C f : Addr} {x qual : Str} {st : Stmt} {ps : List Str} {oc kV doc pm cdv ct : Value} {od an : Option Addr} {osl : Array (Option Value)}
    (a1 : PySem.W.findIn K (.ref C) x = some (some (.ref f))) (i1 : PySem.W.isFn K (.ref f) = true) (l1 : K.lookup f = some ⟨oc, od, .func (PySem.W.fnOf x qual (defArgs st) (defBody st) (defScope st) .none kV doc pm an cdv ct), osl⟩) (c1 : PySem.W.codeIn K cdv qual = true) (k1 : PySem.W.keepIn K (.ref f) = true)
    (hb : ∀ (kV doc pm : Value) (an : Option Addr) (cdv ct : Value) (us : List Value), us.length = ps.length → bindArgs (PySem.W.fnOf x qual (defArgs st) (defBody st) (defScope st) .none kV doc pm an cdv ct) ⟨us, []⟩ = pure (ps.zip us)) : FunAtM K C x qual st ps :=
  ⟨f, _, fun_mk l1 c1 k1, ⟨a1, i1, k1⟩, hb kV doc pm an cdv ct⟩
end Q4

set_option Elab.async false
set_option linter.all false
set_option maxRecDepth 100000
namespace Q4
open PySem L2 PySem.Spec PyProof.Rows
/-! ### sep.join(x), l.extend(k) -/
def isTxt (x : D) (_ : M) : Prop := match x with | .str _ => True | _ => False
def rJoin : RmD := fun x xs m P => match x, xs with
  | .str a, [t] => ∃ ys : List Str, (t = .tup (ys.map D.str) ∨ isL m t (ys.map D.str)) ∧ (ys.map (·.length)).sum + ys.length * a.length ≤ 16777216 ∧ P (.str (Str.join a ys)) m
  | _, _ => False
def rExt : RmD := fun x ys m P => match x, ys with
  | .ref a, [.ref b] => ∃ xs zs, m a = some (.lst xs) ∧ m b = some (.lst zs) ∧ xs.length + zs.length ≤ sizeLine ∧ P .non (put m a (.lst (xs ++ zs)))
  | _, _ => False
section
variable {X : Cx}
theorem md_join : MethD X "str" "str.join" isTxt rJoin := by
  refine ⟨_, mt_join, fun H m x u rm rx h => ?_, fun H m x u xs us P Q rm rx rs p q => ?_⟩
  · unfold isTxt at h
    split at h
    · obtain rfl := rx.str_
      rfl
    · exact h.elim
  · unfold rJoin at p
    split at p
    · rename_i a t
      obtain rfl := rx.str_
      obtain ⟨w, rfl, r⟩ := rs.one_
      obtain ⟨ys, ht, hz, p⟩ := p
      rcases ht with rfl | ht
      · obtain ⟨b, vs, rfl, h1, h2⟩ := r.tup_
        obtain rfl := rds_strs h2
        exact ⟨a, b, ys, rfl, rfl, .inr h1, hz, by rw [TL.join_eq]; exact q _ m _ H (Keep.refl _) rm (.str _) p⟩
      · obtain ⟨b, vs, rfl, h1, h2⟩ := rm.list r ht
        obtain rfl := rds_strs h2
        exact ⟨a, b, ys, rfl, rfl, .inl h1, hz, by rw [TL.join_eq]; exact q _ m _ H (Keep.refl _) rm (.str _) p⟩
    · exact p.elim
theorem md_extend : MethD X "list" "list.extend" isLst rExt := by
  refine ⟨_, mt_extend, fun H m x u rm rx h => isLst_ty rm rx h, fun H m x u xs us P Q rm rx rs p q => ?_⟩
  unfold rExt at p
  split at p
  · rename_i a b
    cases rx.ref_
    obtain ⟨w, rfl, r⟩ := rs.one_
    cases r.ref_
    obtain ⟨xs, zs, h1, h2, hz, p⟩ := p
    obtain ⟨vs, e1, r1⟩ := rm _ _ h1
    obtain ⟨us, e2, r2⟩ := rm _ _ h2
    exact ⟨a, b, vs, us, rfl, rfl, e1, e2, by rw [← r1.length, ← r2.length]; exact hz, q _ _ _ _ (Keep.lst e1) (rm.setPut e1 (r1.append r2)) .non p⟩
  · exact p.elim
/-! ### str(x) of an int or a text -/
def rStrA : RnD := fun xs m P => match xs with | [.int i] => i.natAbs.log2 < 1920 ∧ P (.str (toString i)) m | [.str y] => P (.str y) m | _ => False
theorem cd_strA : CallD X (.type "str") rStrA := by
  have h1 : CallD X (.type "str") rStr := cd_str
  have h2 : CallD X (.type "str") (fun xs m P => ∃ y, xs = [.str y] ∧ P (.str y) m) := by
    refine ⟨_, SkE.call_str_str, fun H m xs us P Q rm rx p q => ?_⟩
    obtain ⟨y, rfl, p⟩ := p
    obtain ⟨u, rfl, r⟩ := rx.one_
    obtain rfl := r.str_
    exact ⟨_, rfl, q _ m _ H (Keep.refl _) rm (.str _) p⟩
  refine (h1.or h2).imp fun xs m P p => ?_
  unfold rStrA at p
  split at p
  · exact .inl p
  · exact .inr ⟨_, rfl, p⟩
  · exact p.elim
/-! ### x in a written tuple, x a text or any data -/
def rInDT : R2D := fun x y m P => rInD x y m P ∨ rInT x y m P
theorem od_inDT (hu : X.A.units + 65 < cLine) : OpD X (compareOp .In) rInDT := od_inD.or (od_inT hu)
/-! ### name += e -/
def rIAdd : R2D := fun x y m P => match x, y with
  | .int i, .int j => P (.int (i + j)) m
  | .str a, .str b => a.length + b.length ≤ sizeLine ∧ P (.str (a ++ b)) m
  | .ref a, .ref b => ∃ xs zs, m a = some (.lst xs) ∧ m b = some (.lst zs) ∧ xs.length + zs.length ≤ sizeLine ∧ P (.ref a) (put m a (.lst (xs ++ zs)))
  | _, _ => False
theorem od_iadd : OpD X (inplaceOp .Add) rIAdd := by
  have h1 : OpD X (inplaceOp .Add) (rI2 (fun _ _ => True) fun i j => .int (i + j)) := opd_I0 iop_add fun _ _ _ => .int _
  have h2 : OpD X (inplaceOp .Add) (fun x y m P => ∃ a b, x = .str a ∧ y = .str b ∧ a.length + b.length ≤ sizeLine ∧ P (.str (a ++ b)) m) := by
    refine ⟨_, iop_add_str, fun H m x y u v P Q rm rx ry p q => ?_⟩
    obtain ⟨a, b, rfl, rfl, z, p⟩ := p
    cases rx.str_
    cases ry.str_
    exact ⟨_, _, rfl, rfl, z, q _ m _ H (Keep.refl _) rm (.str _) p⟩
  have h4 : OpD X (inplaceOp .Add) (fun x y m P => ∃ a b xs ys, x = .ref a ∧ y = .ref b ∧ m a = some (.lst xs) ∧ m b = some (.lst ys) ∧ xs.length + ys.length ≤ sizeLine ∧ P (.ref a) (put m a (.lst (xs ++ ys)))) := by
    refine ⟨_, iop_ext, fun H m x y u v P Q rm rx ry p q => ?_⟩
    obtain ⟨a, b, xs, ys, rfl, rfl, ha, hb, z, p⟩ := p
    cases rx.ref_
    cases ry.ref_
    obtain ⟨vs, e1, r1⟩ := rm a _ ha
    obtain ⟨us, e2, r2⟩ := rm b _ hb
    exact ⟨a, b, vs, us, rfl, rfl, e1, e2, by rw [← r1.length, ← r2.length]; exact z, q _ _ _ _ (Keep.lst e1) (rm.setPut e1 (r1.append r2)) (.ref a) p⟩
  refine (h1.or (h2.or h4)).imp fun x y m P p => ?_
  unfold rIAdd at p
  split at p
  · exact .inl ⟨trivial, p⟩
  · exact .inr (.inl ⟨_, _, rfl, rfl, p⟩)
  · obtain ⟨xs, ys, p⟩ := p
    exact .inr (.inr ⟨_, _, xs, ys, rfl, rfl, p⟩)
  · exact p.elim
theorem qs_augO {H0 : Hp} {r : R2D} {i : Nat} {x : Str} {e : Expr} {t : TDE} {op : Operator} {pos pos' : Pos} (hN : X.N.Nodup) (hi : X.N[i]? = some x) (hx : Loc X.env.scope x) (he : PE X e (lE X.K H0 t)) (ho : OpD X (inplaceOp op) r) (hf : X.fn x = true ∨ X.env.scope.names.lookup x = some .local := by first | exact .inl rfl | exact .inr rfl | assumption) :
    PS X (.AugAssign (.Name x pos') op e pos) (lS X.K H0 (dAug i t r)) := by
  obtain ⟨r', h1, h2⟩ := ho.ex
  refine psL (ps_aug hN hi hx he (ti := r') (fun pins s σ H x y v u Q I rx ry q => h1 pins s σ H x y v u Q I rx ry q) hf) fun D σ H h => ?_
  obtain ⟨sd, m, DD, a, ⟨d, e1, p⟩, q⟩ := h
  obtain ⟨v, e2, rd⟩ := a.s.get i d e1
  refine ⟨v, e2, sd, m, _, a, p, fun y m1 w H1 k1 r1 d1 p1 => ?_⟩
  exact h2 H1 m1 d y v w _ _ r1 (rd.mono k1) d1 p1 fun z m2 w2 H2 k2 r2 d2 p2 => q.1 _ m2 _ H2 (k1.trans k2) ((a.s.mono (k1.trans k2)).set i d2) r2 p2
/-! ### text * int, min of two ints -/
def rMulS : R2D := fun x y m P => match x, y with | .str z, .int n => MulOk z n ∧ P (.str (Txt.mul z n)) m | _, _ => False
theorem od_mulS : OpD X (binaryOp .Mult) rMulS := by
  refine ⟨fun x y H Q => ∃ z n, x = .str z ∧ y = .int n ∧ MulOk z n ∧ Q (.str (Txt.mul z n)) H, ?_, fun H m x y u v P Q rm rx ry p q => ?_⟩
  · intro pins s σ H x y v u Q I rx ry h
    obtain ⟨z, n, rfl, rfl, hk, q⟩ := h
    obtain ⟨t, rfl⟩ := rx
    obtain ⟨t2, rfl⟩ := ry
    exact SB.mul hk fun t' k => ⟨.str _, H, I.tok k, ⟨t', rfl⟩, q⟩
  · unfold rMulS at p
    split at p
    · cases rx.str_
      cases ry.int_
      exact ⟨_, _, rfl, rfl, p.1, q _ m _ H (Keep.refl _) rm (.str _) p.2⟩
    · exact p.elim
def rMin2 : RnD := fun xs m P => match xs with | [.int i, .int j] => P (.int (if j < i then j else i)) m | _ => False
theorem cd_min2 (hc : X.calm = true) : CallD X (.builtin "min") rMin2 := by
  refine ⟨_, call_min2 hc, fun H m xs us P Q rm rx p q => ?_⟩
  unfold rMin2 at p
  split at p
  · obtain ⟨u, v, rfl, r1, r2⟩ := rx.two_
    cases r1.int_
    cases r2.int_
    exact ⟨_, _, rfl, q _ m _ H (Keep.refl _) rm (.int _) p⟩
  · exact p.elim
end
/-! ### a dict of the module: texts by texts -/
/-- ks: what stands at a key, or that nothing stands there -/
structure KMap (K : PySem.W.Frag) (w : World) (d : Addr) (ks : List (Str × Option Str)) : Prop where
  kd : ∃ es n, KDict K w d es n
  at_ : ∀ z o, (z, o) ∈ ks → match o with | none => PySem.W.nsIn K d z = some none | some y => ∃ t, PySem.W.nsIn K d z = some (some (.str y t))
section
variable {X : Cx} {H0 : Hp} {d : Addr} {ks : List (Str × Option Str)}
def rInKM (d : Addr) (ks : List (Str × Option Str)) : R2D := fun x y m P => ∃ z o, x = .str z ∧ y = .ref d ∧ (z, o) ∈ ks ∧ P (.bl o.isSome) m
theorem od_inKM (k : KMap X.K X.w d ks) : OpD X (compareOp .In) (rInKM d ks) := by
  obtain ⟨es, n, D⟩ := k.kd
  refine ⟨_, op_in_kd D, fun H m x y u v P Q rm rx ry p q => ?_⟩
  obtain ⟨z, o, rfl, rfl, hm, p⟩ := p
  cases rx.str_
  cases ry.ref_
  have e := k.at_ z o hm
  cases o with
  | none => exact ⟨z, none, rfl, rfl, e, q _ m _ H (Keep.refl _) rm (.bl _) p⟩
  | some y =>
    obtain ⟨t, e⟩ := e
    exact ⟨z, _, rfl, rfl, e, q _ m _ H (Keep.refl _) rm (.bl _) p⟩
def rGetKM (d : Addr) (ks : List (Str × Option Str)) : R2D := fun x y m P => ∃ z w, x = .ref d ∧ y = .str z ∧ (z, some w) ∈ ks ∧ P (.str w) m
theorem ix_km {es : Array DictEntry} {n : Nat} (D : KDict X.K X.w d es n) : IxR X (fun x y H Q => ∃ (z : Str) (u0 : Value) (v0 : V), x = .ref d ∧ y = .str z ∧ PySem.W.nsIn X.K d z = some (some u0) ∧ RelV v0 u0 ∧ Q v0 H) := by
  intro value slice pins s σ H x y v u Q I rx ry h hs
  have e : v = .ref d := by
    obtain ⟨z, u0, v0, rfl, _⟩ := h
    exact rx
  subst e
  exact tail_any (kd_type D I) PySem.F.slot_dict_getitem.lookup (op_item_kd D pins s σ H x y _ u Q I rx ry h) hs
theorem qe_getKM {a b : Expr} {ta tb : TDE} {pos : Pos} (k : KMap X.K X.w d ks) (ha : PE X a (lE X.K H0 ta)) (hb : PE X b (lE X.K H0 tb)) (hs : PlainIx b) : PE X (.Subscript a b pos) (lE X.K H0 (dOp (rGetKM d ks) ta tb)) := by
  obtain ⟨es, n, D⟩ := k.kd
  refine peL (pe_ix (ix_km D) ha hb hs) fun _ _ _ => l_op fun H m x y u v P Q rm rx ry p q => ?_
  obtain ⟨z, w, rfl, rfl, hm, p⟩ := p
  cases rx.ref_
  cases ry.str_
  obtain ⟨t, e⟩ := k.at_ z (some w) hm
  exact ⟨z, _, .str w, rfl, rfl, e, ⟨t, rfl⟩, q _ m _ H (Keep.refl _) rm (.str _) p⟩
end
end Q4

set_option Elab.async false
set_option linter.all false
set_option maxRecDepth 100000
namespace Q4
open PySem PySem.Spec PyProof.Rows L2 HT
/-! ### del l[a:] -/
theorem cut_eq (sel : Nat → Bool) : ∀ (its : List Value) (a j : Nat), (∀ k, k < its.length → sel (j + k) = decide (a ≤ k)) → (its.zipIdx j).filterMap (fun p => if sel p.2 = true then none else some p.1) = its.take a
  | [], a, j, _ => by rw [List.take_nil]; rfl
  | x :: its, 0, j, h => by
    have h0 := h 0 (by simp)
    rw [Nat.add_zero] at h0
    rw [List.zipIdx_cons, List.filterMap_cons, List.take_zero]
    dsimp only
    rw [if_pos (by rw [h0]; decide)]
    have := cut_eq sel its 0 (j + 1) fun k hk => by
      have := h (k + 1) (by simp; omega)
      rw [show j + 1 + k = j + (k + 1) by omega, this]
      simp
    rw [List.take_zero] at this
    exact this
  | x :: its, a + 1, j, h => by
    have h0 := h 0 (by simp)
    rw [Nat.add_zero] at h0
    rw [List.zipIdx_cons, List.filterMap_cons, List.take_succ_cons]
    dsimp only
    rw [if_neg (by rw [h0]; simp)]
    have := cut_eq sel its a (j + 1) fun k hk => by
      have := h (k + 1) (by simp; omega)
      rw [show j + 1 + k = j + (k + 1) by omega, this]
      simp
    dsimp only
    rw [this]
section
variable {prog : Program} {w : World} {A : Around} {E : Value → Shared → Prop} {s : Shared}
theorem delItem_cut {l sl : Addr} {its : List Value} {n : Nat} {vl vu : Value} {a : Nat} {Q : Unit → Shared → Prop} (e : s.heap.get? l = some { cls := .type "list", data := .seq its.toArray n })
    (hs : s.heap.IsSliceOf sl vl vu .none) (pl : IsPart vl (some (a : Int))) (pu : IsPart vu none) (ha : a ≤ its.length) (hz : its.length ≤ sizeLine)
    (h : ∀ f : Array Value → Array Value, f its.toArray = (its.take a).toArray → Q () { s with heap := s.heap.update l (Obj.mapSeq f) }) : wpAny (model prog w) A (delItem (.ref l) (.ref sl)) Q E s := by
  have hl : s.heap.IsList l its.toArray := PySem.IsL.isList e
  obtain ⟨os, hos, hcs, hds⟩ := id hs
  have hTs : s.TypeIs (.ref sl) "slice" := ⟨os, hos, hcs⟩
  unfold delItem
  try with_reducible refine wpAny_holding ?_
  first | refine wpAny_bind (wpAny_pure ?_) | skip
  refine wpAny_bind (wpAny_sequenceKey hl.typeIs (by decide) ?_)
  refine wpAny_bind (wpAny_callSpecial?_slot (name := Str.ofString "__delitem__") hl.typeIs F.slot_list_delitem (wpAny_call_entry F.slot_list_delitem hl.typeIs F.entry_list_delitem ?_ (F.args_list_delitem_2 _ _)))
  show wpAny _ _ (Builtin.List.listSubscript? (.ref sl) >>= _) _ _ s
  refine wpAny_bind ?_
  unfold Builtin.List.listSubscript?
  refine wpAny_bind (wpAny_specialOf hTs slice_no_index ?_)
  simp only [Option.isNone_none, if_true]
  refine wpAny_pure ?_
  show wpAny _ _ (typeOf (.ref sl) >>= _) _ _ s
  refine wpAny_bind (wpAny_typeOf hTs ?_)
  first | rw [if_neg (by decide)] | refine PySem.W.KFB.if_not (by decide) ?_
  rw [listSliceParts_eq]
  refine wpAny_bind (wpAny_bind (wpAny_field hos hds (x := .none) rfl (wpAny_bind (wpAny_listPart .none ?_))))
  have hstep : ¬ ((rawPart none == rawInt 0) = true) := Bool.false_ne_true
  rw [if_neg hstep]
  refine wpAny_bind (wpAny_field hos hds (x := vl) rfl (wpAny_bind (wpAny_listPart pl ?_)))
  refine wpAny_bind (wpAny_field hos hds (x := vu) rfl (wpAny_bind (wpAny_listPart pu (wpAny_pure ?_))))
  unfold Builtin.List.listItems
  refine wpAny_bind (wpAny_bind (wpAny_seqItems e rfl (wpAny_pure ?_)))
  have hb : sliceBounds (some (a : Int)) none none its.toArray.size = ((a : Int), (its.length : Int), 1) := by
    rw [List.size_toArray]
    simp only [sliceBounds, Option.getD_none]
    have n1 : ¬ ((a : Int) < 0) := by omega
    simp only [n1, if_false, show (1 : Int) > 0 by decide, if_true]
    congr 1
    omega
  refine wpAny_bind (wpAny_of_eq ((sliceIndices_raw (some (a : Int)) none none its.toArray.size (by simp)).trans (congrArg (pure : Int × Int × Int → Sem (Int × Int × Int)) hb)) ?_)
  refine wpAny_bind (wpAny_rule ?_)
  refine wpAny_bind (wpAny_updateSeq (hz := by rw [List.size_toArray]; exact hz) (_hz' := ?hz') e rfl ?_)
  case hz' =>
    refine Nat.le_trans (Nat.le_of_eq (congrArg (fun l : List Value => l.toArray.size) (cut_eq _ its a 0 ?_))) ?_
    · intro k hk
      rw [Nat.zero_add]
      show (if (1 : Int) > 0 then (decide ((a : Int) ≤ (k : Int)) && decide ((k : Int) < (its.length : Int)) && (((k : Int) - (a : Int)) % 1 == 0)) else _) = _
      rw [if_pos (by decide), Int.emod_one, decide_eq_true (by omega : (k : Int) < (its.length : Int))]
      simp
    · rw [List.size_toArray, List.length_take]; omega
  refine wpAny_bind (wpAny_letGo ?_)
  first
    | refine wpAny_bind (wpAny_pure (wpAny_pure ⟨.none, rfl, wpAny_pure (h _ ?_)⟩))
    | refine wpAny_pure ⟨.none, rfl, wpAny_pure (h _ ?_)⟩
  refine congrArg List.toArray (cut_eq _ its a 0 ?_)
  intro k hk
  rw [Nat.zero_add]
  show (if (1 : Int) > 0 then (decide ((a : Int) ≤ (k : Int)) && decide ((k : Int) < (its.length : Int)) && (((k : Int) - (a : Int)) % 1 == 0)) else _) = _
  rw [if_pos (by decide), Int.emod_one, decide_eq_true (by omega : (k : Int) < (its.length : Int))]
  simp
end
section
variable {X : Cx} {H0 : Hp}
def tDelSl (to : TE) (tl : TO) : TS := fun D σ H => to σ H fun x H1 => tl σ H1 fun o H2 => ∃ (l : Addr) (xs : List V) (k : Nat), x = .ref l ∧ o = some (k : Int) ∧ H2 l = some (.lst xs) ∧ k ≤ xs.length ∧ D.nx σ (upd H2 l (.lst (xs.take k)))
theorem ps_delSl {o : Expr} {lo : Option Expr} {to : TE} {tl : TO} {p2 tpos pos : Pos} (ho : PE X o to) (hl : PO X lo tl) : PS X (.Delete [.Subscript o (.Slice lo none none p2) tpos] pos) (tDelSl to tl) := by
  refine ⟨fun pins s σ H D I h => ?_⟩
  refine wpAny_Delete (wpAny_deleteEach_cons (wpAny_delete_Subscript (thn (ho.run pins s σ H _ I h) fun u s1 ⟨x, H1, I1, rx, q1⟩ => ?_)))
  refine wpAny_Slice (thn (hl.run pins s1 σ H1 _ I1 q1) fun vl s2 ⟨lo', H2, I2, plo, l, xs, k, ex, ey, hH, hk, q2⟩ => ?_)
  subst ex ey
  obtain rfl : u = Value.ref l := rx
  rw [evalPart_none]
  refine wpAny_pure (wpAny_pure ?_)
  have I3 : Inv X pins σ H2 { s2 with heap := s2.heap.push { cls := .type "slice", data := .fields #[vl, .none, .none] } } := I2.kept (t' := s2.toks) fun b ob q => Heap.get?_push_of_some _ q
  obtain ⟨z, its, n, r, hl2, e⟩ := I3.lstM hH
  refine delItem_cut (a := k) e (Heap.IsSliceOf.new ..) plo .none (by omega) (by omega) fun f hf => wpAny_deleteEach_nil ⟨σ, _, ?_, q2⟩
  refine I3.lset (its' := its.take k) (t' := s2.toks) hH e hf (r.take k) ?_
  rw [List.length_take]
  omega
/-- del t[u:] of a list -/
def dDelSl (t : TDE) (u : TDO) : TDS := fun DD sd m => t sd m fun x m1 => u sd m1 fun o m2 => ∃ a xs, ∃ k : Nat, x = .ref a ∧ o = some (k : Int) ∧ m2 a = some (.lst xs) ∧ k ≤ xs.length ∧ DD.nx sd (put m2 a (.lst (xs.take k)))
theorem qs_delSl {o : Expr} {lo : Option Expr} {t : TDE} {u : TDO} {p2 tpos pos : Pos} (ho : PE X o (lE X.K H0 t)) (hl : PO X lo (lO X.K H0 u)) : PS X (.Delete [.Subscript o (.Slice lo none none p2) tpos] pos) (lS X.K H0 (dDelSl t u)) := psL (ps_delSl ho hl) fun DD σ H h => by
  obtain ⟨sd, m, EE, aa, p, q⟩ := h
  refine ⟨sd, m, _, aa, p, fun x m1 w1 H1 k1 r1 d1 p1 => ⟨sd, m1, _, aa.to k1 r1, p1, fun y m2 H2 k2 r2 p2 => ?_⟩⟩
  obtain ⟨ad, xs, k, rfl, rfl, hm, hk, p3⟩ := p2
  obtain rfl := d1.ref_
  obtain ⟨vs, e, rr⟩ := r2 _ _ hm
  have KK : Keep X.K H (upd H2 ad (.lst (vs.take k))) := (k1.trans k2).trans (Keep.lst e)
  exact ⟨ad, vs, k, rfl, rfl, e, by rw [← rr.length]; exact hk, q.1 _ _ _ _ KK (aa.s.mono KK) (r2.setPut e (rr.take k)) p3⟩
/-! ### l.pop(), l.reverse() -/
def rPopD : RmD := fun x ys m P => match x, ys with
  | .ref a, [] => ∃ xs y, m a = some (.lst xs) ∧ xs[xs.length - 1]? = some y ∧ P y (put m a (.lst xs.dropLast))
  | _, _ => False
def rRevD : RmD := fun x ys m P => match x, ys with
  | .ref a, [] => ∃ xs, m a = some (.lst xs) ∧ P .non (put m a (.lst xs.reverse))
  | _, _ => False
theorem RDs.dropLast {K : PySem.W.Frag} {H : Hp} : ∀ {xs : List D} {vs : List V}, RDs K H xs vs → RDs K H xs.dropLast vs.dropLast
  | _, _, .nil => .nil
  | _, _, .cons h .nil => .nil
  | _, _, .cons h (.cons h2 r) => .cons h (RDs.dropLast (.cons h2 r))
theorem RDs.reverse {K : PySem.W.Frag} {H : Hp} : ∀ {xs : List D} {vs : List V}, RDs K H xs vs → RDs K H xs.reverse vs.reverse
  | _, _, .nil => .nil
  | _, _, .cons h r => by rw [List.reverse_cons, List.reverse_cons]; exact r.reverse.append (.cons h .nil)
theorem md_pop : MethD X "list" "list.pop" isLst rPopD := by
  refine ⟨_, mt_pop, fun H m x u rm rx h => isLst_ty rm rx h, fun H m x u xs us P Q rm rx rs p q => ?_⟩
  unfold rPopD at p
  split at p
  · cases rx.ref_
    obtain rfl := rs.nil_
    obtain ⟨xs, y, hm, hy, p⟩ := p
    obtain ⟨vs, e, rr⟩ := rm _ _ hm
    obtain ⟨v, hv, rv⟩ := rr.get hy
    exact ⟨_, vs, v, rfl, rfl, e, by rw [← rr.length]; exact hv, q _ _ _ _ (Keep.lst e) (rm.setPut e rr.dropLast) (rv.mono (Keep.lst e)) p⟩
  · exact p.elim
theorem md_reverse : MethD X "list" "list.reverse" isLst rRevD := by
  refine ⟨_, mt_reverse, fun H m x u rm rx h => isLst_ty rm rx h, fun H m x u xs us P Q rm rx rs p q => ?_⟩
  unfold rRevD at p
  split at p
  · cases rx.ref_
    obtain rfl := rs.nil_
    obtain ⟨xs, hm, p⟩ := p
    obtain ⟨vs, e, rr⟩ := rm _ _ hm
    exact ⟨_, vs, rfl, rfl, e, q _ _ _ _ (Keep.lst e) (rm.setPut e rr.reverse) .non p⟩
  · exact p.elim
end
end Q4

set_option Elab.async false
set_option linter.all false
set_option maxRecDepth 100000
namespace Q4
open PySem PySem.Spec PyProof.Rows L2 HT
/-! ### a tuple that has no dict of its own -/
section
variable {X : Cx} {H0 : Hp}
theorem call_tupleB : CallR X (.type "tuple") (fun xs H Q => ∃ p ys, xs = [.ref p] ∧ SqL X.K H p ys ∧ ∀ l its n, H l = none → Q (.ref l) (upd H l (.frz { cls := .type "tuple", data := .seq its n } (.tup ys)))) := by
  intro pins s σ H xs us Q I r h
  obtain ⟨p, ys, rfl, hq, q⟩ := h
  obtain ⟨u, rfl, rx⟩ := vals1 r
  cases rx
  obtain ⟨its, r', pl, hz⟩ := I.list hq
  have hlen := r'.length
  refine call_tuple_list pl.isList (fun h' kp => ?_) (by simp only [List.size_toArray] <;> omega)
  have I1 : Inv X pins σ H { s with heap := h' } := I.kept (t' := s.toks) kp
  have I2 : Inv X pins σ (upd H h'.objs.size (.frz { cls := .type "tuple", data := .seq its.toArray 0 } (.tup ys))) { s with heap := h'.push { cls := .type "tuple", data := .seq its.toArray } } :=
    I1.laid (t' := s.toks) (fun b o e => Heap.get?_push_of_some _ e) (Nat.le_refl _) ⟨Heap.get?_push_size _ rfl, hz, its, r', IsTup.new _ _⟩
  exact ⟨.ref h'.objs.size, _, I2, rfl, q _ _ _ (I1.hok.fresh (Nat.le_refl _))⟩
def rTupleB : RnD := fun xs m P => match xs with | [x] => ∃ ys, isL m x ys ∧ P (.btp ys) m | _ => False
theorem cd_tupleB : CallD X (.type "tuple") rTupleB := by
  refine ⟨_, call_tupleB, fun H m xs us P Q rm rx p q => ?_⟩
  unfold rTupleB at p
  split at p
  · obtain ⟨u, rfl, r⟩ := rx.one_
    obtain ⟨ys, h, p⟩ := p
    obtain ⟨_, vs, rfl, h1, h2⟩ := rm.list r h
    exact ⟨_, vs, rfl, h1, fun l its n hl => q _ m _ _ (Keep.new hl) (rm.new hl) (.btp ⟨its, n, upd_same⟩ (h2.mono (Keep.new hl))) p⟩
  · exact p.elim
/-- such a tuple, read as any tuple -/
def unb : D → D
  | .btp xs => .tup xs
  | x => x
theorem RD.unb {K : PySem.W.Frag} {H : Hp} {d : D} {v : V} (r : RD K H d v) : RD K H (unb d) v := by
  cases r with
  | btp h r => exact .tup h.sq r
  | non => exact .non
  | bl b => exact .bl b
  | int i => exact .int i
  | str x => exact .str x
  | ref a => exact .ref a
  | ty n => exact .ty n
  | tup h r => exact .tup h r
  | rol h r => exact .rol h r
def dUnb (t : TDE) : TDE := fun sd m P => t sd m fun x m1 => P (unb x) m1
theorem qe_unb {e : Expr} {t : TDE} (h : PE X e (lE X.K H0 t)) : PE X e (lE X.K H0 (dUnb t)) := peL h fun σ H Q h => by
  obtain ⟨sd, m, P, a, p, q⟩ := h
  exact ⟨sd, m, _, a, p, fun d m' v H' k r rd p' => q _ m' v H' k r rd.unb p'⟩
/-! ### dict(such a tuple of pairs) -/
theorem call_dictB (hcalm : X.calm = true) : CallR X (.type "dict") (fun xs H Q => ∃ (a : Addr) (ps : List Addr) (kvs : List (Key × V)), xs = [.ref a] ∧ FrzB H a (ps.map V.ref) ∧ Paired (fun p kv => SqT X.K H p [kV kv.1, kv.2]) ps kvs ∧
    ∀ p, H p = none → Q (.ref p) (upd H p (.dK (mergeK [] kvs)))) := by
  intro pins s σ H xs us Q I r q
  obtain ⟨a, ps, kvs, ex, ⟨its, n, hq⟩, hp, q⟩ := q
  subst ex
  obtain ⟨u, eu, rx⟩ := vals1 r
  subst eu
  cases rx
  obtain ⟨he, hz, us, rv, hT⟩ := (show ObjOk X.prog X.w H s.heap a (.frz { cls := .type "tuple", data := .seq its n } (.tup (ps.map V.ref))) from I.hok a _ hq)
  obtain ⟨o2, ho2, _, n2, hd2⟩ := hT
  rw [he] at ho2
  cases ho2
  cases hd2
  have ei := refs_at rv
  subst ei
  rw [List.length_map] at hz
  obtain ⟨prs, rel, hl, hpr⟩ := pairs_of I hp
  have key : ∃ qs : List (Value × Value), qs.length = prs.length ∧ ∀ (j : Nat) (q : Key × Value), prs[j]? = some q → ∃ u, qs[j]? = some (u, q.2) ∧ ∃ b, ps[j]? = some b ∧ IsTup s.heap b #[u, q.2] ∧ keyIs q.1 u = true := by
    clear rel q he rv
    revert hl hpr
    generalize ps = ps'
    intro hl hpr
    clear hp hz hq r
    induction prs generalizing ps' with
    | nil => exact ⟨[], rfl, fun j q e => by simp at e⟩
    | cons p prs ih =>
      cases ps' with
      | nil => simp at hl
      | cons b ps' =>
        obtain ⟨qs, h1, h2⟩ := ih ps' (by simpa using hl) fun j q e => hpr (j + 1) q (by simpa using e)
        obtain ⟨b', u, e1, e2, e3⟩ := hpr 0 p rfl
        refine ⟨(u, p.2) :: qs, by simp [h1], fun j q e => ?_⟩
        cases j with
        | zero =>
          have e' : p = q := Option.some.inj e
          subst e'
          exact ⟨u, rfl, b', e1, e2, e3⟩
        | succ j => exact h2 j q (by simpa using e)
  obtain ⟨qs, hqs, hqp⟩ := key
  have bk : ∀ (j : Nat) (k v : Value), qs[j]? = some (k, v) → ∃ q : Key × Value, prs[j]? = some q ∧ q.2 = v ∧ keyIs q.1 k = true ∧ ∃ b, ps[j]? = some b ∧ IsTup s.heap b #[k, v] := by
    intro j k v e
    have hj : j < prs.length := by rw [← hqs]; exact (List.getElem?_eq_some_iff.mp e).1
    obtain ⟨u, e1, b, e2, e3, e4⟩ := hqp j prs[j] (List.getElem?_eq_getElem hj)
    rw [e] at e1
    cases e1
    exact ⟨prs[j], List.getElem?_eq_getElem hj, rfl, e4, b, e2, e3⟩
  refine PySem.call_dict_pairs (knd := mixKind X.prog X.w) (kvs := prs) (PairArg.tuple a (List.map Value.ref ps).toArray (fun j => (ps[j]?).getD 0) qs) (I.ok.hd hcalm) ⟨⟨_, n, he, rfl, rfl, rfl⟩, by simp [hqs, hl], fun j k v e => ?_⟩ ⟨hqs.symm, fun j k v e => ?_⟩ (by rw [hqs, hl]; exact hz) fun h' tk hd' k => ?_
  · obtain ⟨q', e1, e2, e3, b, e4, e5⟩ := bk j k v e
    have e6 : (ps[j]?).getD 0 = b := by rw [e4]; rfl
    refine ⟨by simp [e4], .inl ?_⟩
    show s.heap.IsTuple ((ps[j]?).getD 0) _
    rw [e6]
    exact e5
  · obtain ⟨q', e1, e2, e3, b, e4, e5⟩ := bk j k v e
    exact ⟨q'.1, by rw [e1, ← e2], e3⟩
  · have hm : (s.heap.objs.size == sysModules) = false := beq_eq_false_iff_ne.mpr (Nat.ne_of_gt I.big)
    have hlen : (mergeK [] kvs).length ≤ sizeLine := by
      refine Nat.le_trans (length_mergeK kvs []) ?_
      rw [List.length_nil, Nat.zero_add, rel.length, hl]
      exact hz
    exact ⟨.ref s.heap.objs.size, upd H s.heap.objs.size (.dK (mergeK [] kvs)), I.laid (t' := tk) (fun b o e => k b o (by simp) e) (Nat.le_refl _) (show ObjOk X.prog X.w _ _ _ (.dK (mergeK [] kvs)) from ⟨hlen, hm, merged [] prs, KV.merge rel .nil, hd'⟩), rfl, q _ (I.hok.fresh (Nat.le_refl _))⟩
end
end Q4

set_option Elab.async false
set_option linter.all false
set_option maxRecDepth 100000
namespace Q4
open PySem PySem.Spec PyProof.Rows L2 HT RT
/-! ### list(reversed(list)) -/
section
variable {prog : Program} {w : World} {A : Around} {E : Value → Shared → Prop} {s : Shared}
theorem extend_rev {R : Result → Shared → Prop} {it l : Addr} {items : Array Value} (hh : A.handled = none) (hit : s.heap.IsRevIter it l ((items.size : Int) - 1)) (hl : s.heap.IsList l items) (hne : l ≠ it) (hn : items.size ≤ sizeLine)
    (S : Addr) (res : Value) (c0 : Nat) (hS : s.heap.get? S = some { cls := .type "list", data := .seq #[] c0 }) (hSi : S ≠ it) (hSl : S ≠ l)
    (hR : ∀ h' tk acc' c', (∀ b o, b ≠ S → b ≠ it → s.heap.get? b = some o → h'.get? b = some o) → h'.get? S = some { cls := .type "list", dict := none, data := .seq acc' c', slots := #[] } →
      ItemsOf (fun i v => items[items.size - 1 - i]? = some v) acc' items.size → R (.ok (.ret res)) { s with heap := h', toks := tk }) :
    wpAny (model prog w) A.in1 (Builtin.List.listExtendWith (.ref S) (.ref it) res)
      (fun fin s' => match fin with | .done f => R (.ok f) s' | .again c' => c'.quiet = true ∧ codeAny (model prog w) A c' R s') (fun e s' => R (.error e) s') s := by
  have W := (Walks.listRev (prog := prog) (w := w) (A := A.in1) hh it l hne items).toS
  have hSf : S ∉ [it, l] := by simp only [List.mem_cons, List.not_mem_nil, or_false, not_or]; exact ⟨hSi, hSl⟩
  have hT : s.TypeIs (.ref it) "list_reverseiterator" := Heap.IsRevIter.typeIs hit
  have h1 : Builtin.List.listSameRef (.ref S) (.ref it) = false := by simp [Builtin.List.listSameRef, hSi]
  unfold Builtin.List.listExtendWith
  refine wpAny_bind (wpAny_typeOf hT ?_)
  rw [if_neg (by rw [h1]; decide)]
  refine wpAny_bind (wpAny_pyIter_revIter hit ?_)
  refine wpAny_bind (wpAny_holding ?_)
  unfold Builtin.List.listLengthHint
  refine wpAny_bind (wpAny_specialOf hT nolen_lri ?_)
  show wpAny _ A.in1 (specialOf (Value.ref it) (Str.ofString "__length_hint__") >>= _) _ _ _
  refine wpAny_bind (wpAny_specialOf hT hint_lri ?_)
  generalize hid : ("list_reverseiterator.__length_hint__" : String) = id0
  wp_delta
  rw [show splitId id0 = some ("list_reverseiterator", "__length_hint__") from by subst hid; decide +kernel]
  subst hid
  refine wpAny_bind (wpAny_isInstance (b := true) hT (by rw [isSubtype_type]; kernel_rfl) ?_)
  refine wpAny_pure ?_
  rw [if_neg (by decide)]
  have e0 : ((items.size : Nat) : Int) - 1 - ((0 : Nat) : Int) = (items.size : Int) - 1 := by omega
  refine wpAny_pure ⟨plainId_quiet F.plain_extend_loop _, codeAny_extend_loopS W hn _ hSf _ items.size 0 _ _ _ rfl (Nat.zero_le _) ⟨Nat.zero_le _, by rw [e0]; exact hit, hl⟩ hS (ItemsOf.nil _) fun s' acc' c' hm hS' hacc => ?_⟩
  rw [Moved.eq_with hm]
  refine hR s'.heap s'.toks acc' c' (fun b o hb hb2 e => hm.heap b o (fun hmem => ?_) e) hS' hacc
  rcases List.mem_cons.mp hmem with e' | hmem
  · exact hb e'
  · exact hb2 (List.mem_singleton.mp hmem)
theorem list_init_rev {R : Result → Shared → Prop} {it l : Addr} {items : Array Value} (hh : A.handled = none) (hit : s.heap.IsRevIter it l ((items.size : Int) - 1)) (hl : s.heap.IsList l items) (hne : l ≠ it) (hn : items.size ≤ sizeLine)
    (S : Addr) (hS : s.heap.get? S = some { cls := .type "list", data := .seq #[] }) (hSi : S ≠ it) (hSl : S ≠ l)
    (hR : ∀ h' tk acc' c', (∀ b o, b ≠ S → b ≠ it → s.heap.get? b = some o → h'.get? b = some o) → h'.get? S = some { cls := .type "list", dict := none, data := .seq acc' c', slots := #[] } →
      ItemsOf (fun i v => items[items.size - 1 - i]? = some v) acc' items.size → R (.ok (.ret .none)) { s with heap := h', toks := tk }) :
    wpAny (model prog w) A.in1 (Builtin.«list.__init__» ⟨[.ref S, .ref it], []⟩)
      (fun fin s' => match fin with | .done f => R (.ok f) s' | .again c' => c'.quiet = true ∧ codeAny (model prog w) A c' R s') (fun e s' => R (.error e) s') s := by
  show wpAny _ _ (do let old ← Builtin.List.listItems (.ref S); Builtin.List.listUpdate (.ref S) (fun _ => #[]); letGo old.toList.reverse; Builtin.List.listExtendWith (.ref S) (.ref it) .none) _ _ s
  refine wpAny_bind ?_
  unfold Builtin.List.listItems
  refine wpAny_bind (wpAny_seqItems hS rfl (wpAny_pure ?_))
  show wpAny _ _ (updateSeq S (fun _ => #[]) >>= fun _ => letGo (#[] : Array Value).toList.reverse >>= fun _ => Builtin.List.listExtendWith (.ref S) (.ref it) .none) _ _ s
  refine wpAny_bind (wpAny_updateSeq hS rfl ?_)
  have hS₂ := Heap.get?_update_self (Obj.mapSeq (fun _ => (#[] : Array Value))) hS rfl
  have oth : ∀ b o, b ≠ S → s.heap.get? b = some o → (s.heap.update S (Obj.mapSeq (fun _ => (#[] : Array Value)))).get? b = some o :=
    fun b o hb e => (Heap.get?_update_other _ _ (Ne.symm hb)).trans e
  refine wpAny_bind (wpAny_letGo ?_)
  refine extend_rev hh (hit.at fun o e => oth _ _ (Ne.symm hSi) e) (hl.at fun o e => oth _ _ (Ne.symm hSl) e) hne hn S .none _ hS₂ hSi hSl fun h' tk acc' c' hk hS' hacc => ?_
  exact hR h' tk acc' c' (fun b o hb hb2 e => hk b o hb hb2 (oth b o hb e)) hS' hacc
theorem call_list_rev {Q : Value → Shared → Prop} {it l : Addr} {items : Array Value} (hh : A.handled = none) (hit : s.heap.IsRevIter it l ((items.size : Int) - 1)) (hl : s.heap.IsList l items) (hne : l ≠ it) (hn : items.size ≤ sizeLine)
    (hQ : ∀ h' tk acc' c', (∀ b o, b ≠ it → s.heap.get? b = some o → h'.get? b = some o) → h'.get? s.heap.objs.size = some { cls := .type "list", dict := none, data := .seq acc' c', slots := #[] } →
      ItemsOf (fun i v => items[items.size - 1 - i]? = some v) acc' items.size → Q (.ref s.heap.objs.size) { s with heap := h', toks := tk }) :
    wpAny (model prog w) A (call (.type "list") [.ref it]) Q E s := by
  obtain ⟨oi, hoi, _⟩ := id hit
  obtain ⟨ol, hol, _⟩ := id hl
  refine callType_codes (Q₁ := fun obj s₁ => obj = .ref s.heap.objs.size ∧ s₁ = { s with heap := s.heap.push { cls := .type "list", data := .seq #[] } }) F.called_list (F.typeCall_list_1 _) F.entry_list_init
    (code_list_new _ ⟨rfl, rfl⟩) fun obj s₁ h₁ => ?_
  obtain ⟨rfl, rfl⟩ := h₁
  have hS : (s.heap.push { cls := .type "list", data := .seq #[] }).get? s.heap.objs.size = some { cls := .type "list", data := .seq #[] } := Heap.get?_push_size _ rfl
  refine ⟨⟨_, hS, rfl⟩, F.args_list_init_2 _ _, list_init_rev (A := A.in1) hh (hit.at fun o e => Heap.get?_push_of_some _ e) (hl.push _) hne hn _ hS (Nat.ne_of_gt (Heap.lt_size hoi)) (Nat.ne_of_gt (Heap.lt_size hol)) fun h' tk acc' c' hk hS' hacc => ?_⟩
  exact ⟨rfl, hQ h' tk acc' c' (fun b o hb e => hk b o (Nat.ne_of_lt (Heap.lt_size e)) hb (Heap.get?_push_of_some _ e)) hS' hacc⟩
end
section
variable {X : Cx} {H0 : Hp}
/-- list(reversed(x)), x a list: a new list -/
def tListRev (K : PySem.W.Frag) (te : TE) : TE := fun σ H Q => te σ H fun v H1 => ∃ (a : Addr) (xs : List V), v = .ref a ∧ SqL K H1 a xs ∧ ∀ q, H1 q = none → Q (.ref q) (upd H1 q (.lst xs.reverse))
theorem pe_listRev {e : Expr} {te : TE} {p p2 pos pos2 : Pos} (hc : X.calm = true) (hg : Gl X "list") (hm : X.mg "list" = none) (hg2 : Gl X "reversed") (hm2 : X.mg "reversed" = none) (he : PE X e te)
    (hs : starEach [e] X.env = (false, eval e X.env) :: starEach [] X.env := by rfl)
    (hs2 : starEach [.Call (.Name "reversed" p2) [e] [] pos2] X.env = (false, eval (.Call (.Name "reversed" p2) [e] [] pos2) X.env) :: starEach [] X.env := by rfl) :
    PE X (.Call (.Name "list" p) [.Call (.Name "reversed" p2) [e] [] pos2] [] pos) (tListRev X.K te) := by
  refine ⟨fun pins s σ H Q I h => ?_⟩
  refine Call_ (ld_blt I hg hm PyProof.Rows.boot_list (PyProof.Rows.callWith_type1 (args_cons (Call_ (ld_blt I hg2 hm2 PyProof.Rows.boot_reversed (PyProof.Rows.callWith_type1 (args_cons (thn (he.run pins s σ H _ I h) fun u s1 ⟨v, H1, I1, r1, q1⟩ => args_nil ?_) hs) hs rfl))) hs2) hs2 rfl))
  obtain ⟨a, xs, ev, hq, q⟩ := q1
  subst ev
  obtain rfl : u = Value.ref a := r1
  obtain ⟨its, rv, p', hz⟩ := I1.list hq
  refine call_reversed_list p'.isList (args_nil ?_)
  have k0 : ∀ b o, s1.heap.get? b = some o → (s1.heap.push (revObj a ((its.toArray.size : Int) - 1))).get? b = some o := fun b o e => Heap.get?_push_of_some _ e
  have I2 : Inv X pins σ H1 { s1 with heap := s1.heap.push (revObj a ((its.toArray.size : Int) - 1)) } := I1.kept (t' := s1.toks) k0
  obtain ⟨f0, f1, f2, f3, f4, f5⟩ := I1.fpOk (H' := H1) (b := s1.heap.objs.size) (Nat.le_refl _) (I1.hok.fresh (Nat.le_refl _))
  have hl := p'.isList
  obtain ⟨ol, hol, _⟩ := id hl
  have hne : a ≠ s1.heap.objs.size := Nat.ne_of_lt (Heap.lt_size hol)
  have hn : its.toArray.size ≤ sizeLine := by rw [List.size_toArray, ← rv.length]; exact hz
  refine call_list_rev (s := { s1 with heap := s1.heap.push (revObj a ((its.toArray.size : Int) - 1)) }) (I1.ok.hd hc) ⟨_, Heap.get?_push_size _ rfl, rfl, rfl⟩ (hl.push _) hne hn fun h' tk acc c' hk hS' hi => ?_
  have hle : s1.heap.objs.size ≤ (s1.heap.push (revObj a ((its.toArray.size : Int) - 1))).objs.size := by show _ ≤ (s1.heap.objs.push _).size; rw [Array.size_push]; omega
  refine ⟨.ref _, upd H1 _ (.lst xs.reverse), I1.laid (t' := tk) (fun b o e => hk b o (Nat.ne_of_lt (Heap.lt_size e)) (k0 b o e)) hle ⟨by rw [List.length_reverse]; exact hz, acc.toList, c', vals_rev rv hi, ?_⟩, rfl, q _ (I1.hok.fresh hle)⟩
  rw [Array.toArray_toList]
  exact hS'
end
end Q4

set_option Elab.async false
set_option linter.all false
set_option maxRecDepth 100000
namespace Q4
open PySem L2
/-! ### for x in reversed(list) -/
def jRev (a : Addr) (n : Nat) : DIt := fun i m o => ∃ xs, m a = some (.lst xs) ∧ xs.length = n ∧ o = xs.reverse[i]?
theorem lift_rev {K : PySem.W.Frag} {H : Hp} {b : Addr} {n : Nat} : LiftIt K H (jRev b n) (Itv K b n) := fun H2 k2 i m2 r2 o e => by
  obtain ⟨ys, hy, hn, e⟩ := e
  obtain ⟨ws, e1, g2⟩ := r2 _ _ hy
  have g1 : SqL K H2 b ws := .inl (.inl e1)
  have gl := g2.length
  cases e2 : ys.reverse[i]? with
  | none =>
    rw [e2] at e
    subst e
    have := List.getElem?_eq_none_iff.mp e2
    rw [List.length_reverse] at this
    show n ≤ i
    omega
  | some x =>
    rw [e2] at e
    subst e
    have hi : i < ys.length := by
      have := (List.getElem?_eq_some_iff.mp e2).1
      rwa [List.length_reverse] at this
    rw [List.getElem?_reverse hi, hn] at e2
    obtain ⟨u, e3, r3⟩ := g2.get e2
    refine ⟨⟨by omega, ws, u, g1, e3⟩, fun v H3 y => ?_⟩
    obtain ⟨e4, y⟩ := y
    have e5 := y ws g1
    rw [e3] at e5
    cases e5
    subst e4
    exact ⟨Keep.refl _, r2, r3⟩
/-- over the list at a from its end, which stays -/
def FV (a : Addr) (xs : List D) (g : TDG) (tb : TDS) : TDS := fun D sd m => ∃ W : Nat → DS → M → Prop, W 0 sd m ∧ (∀ i sd m, i ≤ xs.length → W i sd m → m a = some (.lst xs)) ∧
  (∀ i x sd m, xs.reverse[i]? = some x → W i sd m → g x sd m fun sd2 m2 => tb { D with nx := Fg (W (i + 1)), ct := Fg (W (i + 1)), bk := D.nx } sd2 m2) ∧ ∀ sd m, W xs.length sd m → D.nx sd m
theorem f_rev {a : Addr} {xs : List D} {g : TDG} {t : TDS} {D' : DEnds} {sd : DS} {m : M} (h : FV a xs g t D' sd m) :
    ∃ (N : Nat) (W : Nat → DS → M → Prop), W 0 sd m ∧ ∀ i sd m, W i sd m → i ≤ N ∧ ∃ o, jRev a xs.length i m o ∧ match o with
      | none => D'.nx sd m
      | some x => g x sd m fun sd2 m2 => t { D' with nx := Fg (W (i + 1)), ct := Fg (W (i + 1)), bk := D'.nx } sd2 m2 := by
  obtain ⟨W, h0, hl, hs, hd⟩ := h
  refine ⟨xs.length, fun i sd m => i ≤ xs.length ∧ (i ≤ xs.length → W i sd m), ⟨Nat.zero_le _, fun _ => h0⟩, ?_⟩
  rintro i sd m ⟨hi, w⟩
  refine ⟨hi, ?_⟩
  by_cases e : i < xs.reverse.length
  · have e' : i < xs.length := by rwa [List.length_reverse] at e
    refine ⟨some xs.reverse[i], ⟨xs, hl i sd m hi (w hi), rfl, (List.getElem?_eq_getElem e).symm⟩, ?_⟩
    have q := hs i xs.reverse[i] sd m (List.getElem?_eq_getElem e) (w hi)
    have eq : (fun (sd : DS) (m : M) => i + 1 ≤ xs.length ∧ (i + 1 ≤ xs.length → W (i + 1) sd m)) = W (i + 1) := by
      funext sd m
      exact propext ⟨fun z => z.2 z.1, fun z => ⟨e', fun _ => z⟩⟩
    show g xs.reverse[i] sd m fun sd2 m2 => t { D' with nx := Fg fun (sd : DS) (m : M) => i + 1 ≤ xs.length ∧ (i + 1 ≤ xs.length → W (i + 1) sd m), ct := Fg fun (sd : DS) (m : M) => i + 1 ≤ xs.length ∧ (i + 1 ≤ xs.length → W (i + 1) sd m), bk := D'.nx } sd2 m2
    rw [eq]
    exact q
  · have : i = xs.length := by rw [List.length_reverse] at e; omega
    subst this
    exact ⟨none, ⟨xs, hl _ sd m hi (w hi), rfl, (List.getElem?_eq_none (by rw [List.length_reverse]; exact Nat.le_refl _)).symm⟩, hd sd m (w hi)⟩
def dForV (t : TDE) (g : TDG) (tb : TDS) : TDS := fun D sd m => t sd m fun x m1 => match x with | .ref a => ∃ xs, m1 a = some (.lst xs) ∧ FV a xs g tb D sd m1 | _ => False
section
variable {X : Cx} {H0 : Hp} {tg : Expr} {body : List Stmt} {g : TDG} {tb : TDS} {pos : Pos} {vs : List Nat}
theorem qs_forV {e : Expr} {t : TDE} {p p2 : Pos} (hp : PassesOwn (model X.prog X.w) X.A X.env X.xe) (hc : X.calm = true) (hgl : Gl X "reversed") (hm : X.mg "reversed" = none) (he : PE X e (lE X.K H0 t)) (hg : PG X tg (lG X.K H0 vs g)) (hb : PSs X body (lS X.K H0 tb))
    (hs : starEach [e] X.env = (false, eval e X.env) :: starEach [] X.env := by rfl) (hf : ∀ x, foldedSetIterable (.Call (.Name "reversed" p) [e] [] p2) X.env x = pure x := by intro _; rfl) : PS X (.For tg (.Call (.Name "reversed" p) [e] [] p2) body [] pos) (lS X.K H0 (dForV t g tb)) :=
  psL (ps_for hp hc (RT.pi_revA hgl hm he hs) hg hb hf) fun D σ H h => by
    obtain ⟨sd, m, DD, a, p, q1, q2, q3, q4⟩ := h
    refine ⟨sd, m, _, a, p, fun d m' v H' k r rd p' => ?_⟩
    cases d with
    | ref b =>
      cases rd.ref_
      obtain ⟨xs, h, p'⟩ := p'
      obtain ⟨ws, e1, r1⟩ := r _ _ h
      refine ⟨b, ws, rfl, .inl ⟨.inl (.inl e1), ?_⟩⟩
      have := r1.length
      rw [← this]
      exact for_core a.k k (a.s.mono k) r lift_rev q1 q2 (f_rev p')
    | _ => exact p'.elim
/-- list(reversed(t)) -/
def dListRev (t : TDE) : TDE := fun sd m P => t sd m fun x m1 => ∃ a xs, x = .ref a ∧ m1 a = some (.lst xs) ∧ ∀ p, m1 p = none → P (.ref p) (put m1 p (.lst xs.reverse))
theorem qe_listRev {e : Expr} {t : TDE} {p p2 pos pos2 : Pos} (hc : X.calm = true) (hg : Gl X "list") (hm : X.mg "list" = none) (hg2 : Gl X "reversed") (hm2 : X.mg "reversed" = none) (he : PE X e (lE X.K H0 t))
    (hs : starEach [e] X.env = (false, eval e X.env) :: starEach [] X.env := by rfl)
    (hs2 : starEach [.Call (.Name "reversed" p2) [e] [] pos2] X.env = (false, eval (.Call (.Name "reversed" p2) [e] [] pos2) X.env) :: starEach [] X.env := by rfl) :
    PE X (.Call (.Name "list" p) [.Call (.Name "reversed" p2) [e] [] pos2] [] pos) (lE X.K H0 (dListRev t)) := peL (pe_listRev hc hg hm hg2 hm2 he hs hs2) fun σ H Q h => by
  obtain ⟨sd, m, P, a, p, q⟩ := h
  refine ⟨sd, m, _, a, p, fun d m' v H' k r rd p' => ?_⟩
  obtain ⟨b, xs, rfl, h, p'⟩ := p'
  cases rd.ref_
  obtain ⟨ws, e1, r1⟩ := r _ _ h
  exact ⟨b, ws, rfl, .inl (.inl e1), fun z hz => q _ _ _ _ (k.trans (Keep.new hz)) (r.newPut hz r1.reverse) (.ref z) (p' z (r.free hz))⟩
/-! ### dict(a bare tuple of pairs) -/
def mergeD (kvs more : List (Key × D)) : List (Key × D) := more.foldl (fun acc kv => putD acc kv.1 kv.2) kvs
theorem RK.merge {K : PySem.W.Frag} {H : Hp} : ∀ {more : List (Key × D)} {ms : List (Key × V)} {kvs : List (Key × D)} {gs : List (Key × V)}, RK K H more ms → RK K H kvs gs → RK K H (mergeD kvs more) (mergeK gs ms)
  | [], [], _, _, _, r => r
  | [], _ :: _, _, _, r, _ => by have := r.length; cases this
  | _ :: _, [], _, _, r, _ => by have := r.length; cases this
  | p :: more, q :: ms, kvs, gs, r, r0 => by
    obtain ⟨e, d, r'⟩ := r.cons
    have h := RK.merge r' (r0.put p.1 d)
    rw [e] at h
    show RK K H (mergeD (putD kvs p.1 p.2) more) (mergeK (putK gs q.1 q.2) ms)
    rw [e]
    exact h
theorem mergeD_new : ∀ (more kvs : List (Key × D)), (more.map (·.1)).Nodup → (∀ q ∈ more, ∀ p ∈ kvs, p.1 ≠ q.1) → mergeD kvs more = kvs ++ more
  | [], kvs, _, _ => (List.append_nil _).symm
  | q :: more, kvs, h, hn => by
    rw [List.map_cons, List.nodup_cons] at h
    have e : putD kvs q.1 q.2 = kvs ++ [q] := by
      unfold putD
      rw [if_neg]
      intro z
      obtain ⟨p, hp, hq⟩ := List.any_eq_true.mp z
      exact hn q (List.mem_cons_self ..) p hp (of_decide_eq_true hq)
    show mergeD (putD kvs q.1 q.2) more = _
    rw [e, mergeD_new more _ h.2 fun r hr p hp => ?_, List.append_assoc]
    · rfl
    · rcases List.mem_append.mp hp with hp | hp
      · exact hn r (List.mem_cons_of_mem _ hr) p hp
      · rw [List.mem_singleton.mp hp]
        intro z
        exact h.1 (List.mem_map.mpr ⟨r, hr, z.symm⟩)
def rDictB : RnD := fun xs m P => match xs with | [.btp ps] => ∃ kvs : List (Key × D), ps = kvs.map (fun q => .tup [kD q.1, q.2]) ∧ (kvs.map (·.1)).Nodup ∧ ∀ p, m p = none → P (.ref p) (put m p (.dct kvs)) | _ => False
theorem pairs_rk {K : PySem.W.Frag} {H : Hp} : ∀ {kvs : List (Key × D)} {vs : List V}, RDs K H (kvs.map fun q => .tup [kD q.1, q.2]) vs → ∃ (ps : List Addr) (gs : List (Key × V)), vs = ps.map V.ref ∧ RK K H kvs gs ∧ Paired (fun p kv => SqT K H p [kV kv.1, kv.2]) ps gs
  | [], vs, r => by
    obtain rfl := r.nil_
    exact ⟨[], [], rfl, .nil, .nil⟩
  | q :: kvs, vs, r => by
    rw [List.map_cons] at r
    cases r with
    | cons h r =>
      obtain ⟨ps, gs, rfl, h1, h2⟩ := pairs_rk r
      obtain ⟨a, us, rfl, hs, rr⟩ := h.tup_
      obtain ⟨u, v, rfl, ru, rv⟩ := rr.two_
      obtain rfl := ru.key_
      exact ⟨a :: ps, (q.1, v) :: gs, rfl, .mk_cons rfl rv h1, .cons hs h2⟩
theorem cd_dictB (hc : X.calm = true) : CallD X (.type "dict") rDictB := by
  refine ⟨_, call_dictB hc, fun H m xs us P Q rm rx p q => ?_⟩
  unfold rDictB at p
  split at p
  · obtain ⟨u, rfl, r⟩ := rx.one_
    obtain ⟨kvs, rfl, hn, p⟩ := p
    obtain ⟨a, vs, rfl, h1, h2⟩ := r.btp_
    obtain ⟨ps, gs, rfl, rk, hp⟩ := pairs_rk h2
    refine ⟨a, ps, gs, rfl, h1, hp, fun z hz => q _ _ _ _ (Keep.new hz) (rm.newDct hz ?_) (.ref z) (p z (rm.free hz))⟩
    have := RK.merge rk (.nil (K := X.K) (H := H))
    rwa [mergeD_new kvs [] hn (fun _ _ _ h => by cases h)] at this
  · exact p.elim
/-! ### o.f += u -/
def dAugFld (C : Addr) (t u : TDE) (f : Str) (r : R2D) : TDS := fun DD sd m => t sd m fun x m1 => ∃ a dx fs v, x = .ref a ∧ m1 a = some (.ins C dx fs) ∧ fs.lookup f = some v ∧
  u sd m1 fun y m2 => r v y m2 fun z m3 => ∃ dx' fs', m3 a = some (.ins C dx' fs') ∧ fs'.length < 1000 ∧ DD.nx sd (put m3 a (.ins C dx' (putFD f z fs')))
theorem qs_augFldI {C : Addr} {o e : Expr} {t u : TDE} {f : Str} {pos tpos : Pos} {op : Operator} {g : Int → Int → Int} (c : Cls X.K C) (n : NoAttr X.K C f) (ho : PE X o (lE X.K H0 t)) (he : PE X e (lE X.K H0 u)) (hop : PIp X op (ipI g)) :
    PS X (.AugAssign (.Attribute o f tpos) op e pos) (lS X.K H0 (dAugFld C t u f (rInp g))) := psL (ps_fldaug (rd := ipI g) ho he hop) fun D σ H h => by
  obtain ⟨sd, m, DD, aa, p, q⟩ := h
  refine ⟨sd, m, _, aa, p, fun x m1 w1 H1 k1 r1 d1 p1 => ?_⟩
  obtain ⟨ad, dx, fs, v, rfl, hm, hf, p2⟩ := p1
  obtain rfl := d1.ref_
  obtain ⟨gs, e1, e2, e3⟩ := r1.ins hm
  obtain ⟨w, hw, rw⟩ := (ins_lookup e2 e3).2 v hf
  refine ⟨ad, C, dx, gs, w, rfl, e1, c, n, hw, sd, m1, _, aa.to k1 r1, p2, fun y m2 w2 H2 k2 r2 d2 p3 => ?_⟩
  unfold rInp at p3
  split at p3
  · cases rw.int_
    cases d2.int_
    obtain ⟨dx', fs', hm2, hl, p4⟩ := p3
    obtain ⟨gs2, f1, f2, f3⟩ := r2.ins hm2
    have el : fs'.length = gs2.length := by rw [← List.length_map (f := (·.1)) (as := fs'), f3, List.length_map]
    rename_i i j
    obtain ⟨i1, i2⟩ := ins_put (f := f) (RD.int (K := X.K) (H := H2) (g i j)) f2 f3
    have KK : Keep X.K H (upd H2 ad (.ins C dx' (putF f (.int (g i j)) gs2))) := (k1.trans k2).trans (Keep.ins f1)
    exact ⟨i, j, rfl, rfl, dx', gs2, f1, by omega, q.1 _ _ _ _ KK (aa.s.mono KK) (r2.setIns f1 i1 i2) p4⟩
  · exact p3.elim
/-! ### C(e ..) -/
def dMake (C : Addr) (d : DSp) (t : TDA) : TDE := fun sd m P => t sd m fun xs m1 => ∀ x dx, m1 x = none → d (.ref x :: xs) (put m1 x (.ins C dx [])) (fun v m2 => v = .non ∧ P (.ref x) m2) noX
theorem qe_make {k : Nat} {C : Addr} {d : DSp} {x : Str} {ps : List Str} {e : Expr} {es : List Expr} {t : TDA} {p pos : Pos} (mk : PySem.W.makesIn X.K C = true) (kc : PySem.W.keepIn X.K (.ref C) = true) (I : CalleeM X.prog X.w X.K X.mg k C "__init__" ps d) (hr : Room (k + 1) X.A) (hg : Gl X x) (hm : X.mg x = some (.ref C))
    (ha : PA X (e :: es) (lA X.K H0 t)) (hdb : (x == ("__debug__" : Str)) = false := by decide) (h1 : starEach (e :: es) X.env = (false, eval e X.env) :: starEach es X.env := by rfl) (h2 : (backTo pos (starEach es X.env)).any (·.1) = false := by rfl) : PE X (.Call (.Name x p) (e :: es) [] pos) (lE X.K H0 (dMake C d t)) := by
  obtain ⟨g, fd, a, b, F⟩ := I.ex
  refine peL (pe_make (E := E0) ⟨mk, a.at_, a.fn, kc⟩ (F X.base) hr hg hm (.all b) .nil pass0 ha hdb h1 h2) fun σ H Q h => ?_
  obtain ⟨sd, m, P, aa, p, q⟩ := h
  refine ⟨sd, m, _, aa, p, fun xs m1 us H1 k1 r1 d1 p1 => ?_⟩
  intro y dx hy hdx hne
  have hy2 : upd H1 dx (.own y) y = none := (upd_ne (Ne.symm hne)).trans hy
  have kk : Keep X.K H1 (upd (upd H1 dx (.own y)) y (.ins C dx [])) := (Keep.new hdx).trans (Keep.new hy2)
  rw [List.append_nil]
  refine ⟨.ref y :: xs, _, fun v m2 => v = .non ∧ P (.ref y) m2, noX, .cons (.ref y) (d1.mono kk), (r1.new hdx).newIns hy2, p1 y dx (r1.free hy), fun v m' w H' k r rd ⟨ev, pp⟩ => ?_, wantsX0⟩
  subst ev
  exact ⟨rd.non_, q _ m' _ H' (k1.trans (kk.trans k)) r (.ref y) pp⟩
/-! ### o.m() of a built-in type -/
def dBM0 (ty : D → M → Prop) (r : RmD) (to : TDE) : TDE := fun sd m P => to sd m fun x m1 => ty x m1 ∧ r x [] m1 P
theorem qe_bm0 {T id : String} {name : Str} {o : Expr} {apos cpos : Pos} {ty : D → M → Prop} {r : RmD} {to : TDE} (hm : MethD X T id ty r) (pa : PlainAttrs T) (slot : Slot T name id) (hty : typeOf (.builtin id) = pure (.type "method_descriptor")) (ho : PE X o (lE X.K H0 to))
    (hbase : attributeBase o name X.env (eval o X.env) = eval o X.env := by rfl) (hline : (apos.endLine == cpos.line) = true := by rfl) : PE X (.Call (.Attribute o name apos) [] [] cpos) (lE X.K H0 (dBM0 ty r to)) := by
  obtain ⟨r1, h1, h2, h3⟩ := hm.ex
  refine peL (pe_bm0 pa slot hty h1 ho hbase hline) fun σ H Q h => ?_
  obtain ⟨sd, m, P, a, p, q⟩ := h
  refine ⟨sd, m, _, a, p, fun x m1 u H1 k1 r1 d1 p1 => ?_⟩
  exact ⟨h2 _ _ _ _ r1 d1 p1.1, h3 _ _ _ _ _ _ _ _ r1 d1 .nil p1.2 fun d m' w H' k => q d m' w H' (k1.trans k)⟩
/-! ### sorted(ints) -/
def rSortD : RnD := fun xs m P => match xs with | [x] => ∃ ns : List Int, isL m x (ns.map D.int) ∧ ∀ (ns' : List Int) (p : Addr), ns'.Perm ns → ns'.Pairwise (· ≤ ·) → m p = none → P (.ref p) (put m p (.lst (ns'.map D.int))) | _ => False
theorem rds_int {K : PySem.W.Frag} {H : Hp} : ∀ {ns : List Int} {vs : List V}, RDs K H (ns.map D.int) vs → vs = ns.map V.int
  | [], _, r => r.nil_
  | n :: ns, vs, r => by
    rw [List.map_cons] at r
    cases r with
    | cons h r => rw [h.int_, rds_int r]; rfl
theorem int_rds {K : PySem.W.Frag} {H : Hp} : ∀ ns : List Int, RDs K H (ns.map D.int) (ns.map V.int)
  | [] => .nil
  | n :: ns => .cons (.int n) (int_rds ns)
theorem cd_sorted : CallD X (.builtin "sorted") rSortD := by
  refine ⟨_, cr_sortedI, fun H m xs us P Q rm rx p q => ?_⟩
  unfold rSortD at p
  split at p
  · obtain ⟨u, rfl, r⟩ := rx.one_
    obtain ⟨ns, h, p⟩ := p
    obtain ⟨a, vs, rfl, h1, h2⟩ := rm.list r h
    obtain rfl := rds_int h2
    exact ⟨a, ns, rfl, h1, fun ns' z hp hs hz => q _ _ _ _ (Keep.new hz) (rm.newPut hz (int_rds ns')) (.ref z) (p ns' z hp hs (rm.free hz))⟩
  · exact p.elim
end
end Q4

set_option Elab.async false
set_option linter.all false
set_option maxRecDepth 100000
namespace Q4
open PySem L2
/-! ### defs as values: names of them, and calls of locals that hold them -/
abbrev CAT := Addr → DSp → Prop
structure CalleeAt (P : Program) (w : World) (K : PySem.W.Frag) (mg : Str → Option Value) (k : Nat) (f : Addr) (d : DSp) : Prop where
  ex : ∃ (fd : FuncData) (ps : List Str), PySem.W.keepIn K (.ref f) = true ∧ (∀ us : List Value, us.length = ps.length → bindArgs fd ⟨us, []⟩ = pure (ps.zip us)) ∧ ∀ base, FnOk P w K mg base CX0 k f fd ps (lSp K d)
theorem Callee.at {P : Program} {w : World} {K : PySem.W.Frag} {mg : Str → Option Value} {k : Nat} {x : Str} {ps : List Str} {d : DSp} (C : Callee P w K mg k x ps d) : ∃ f, mg x = some (.ref f) ∧ CalleeAt P w K mg k f d :=
  let ⟨f, fd, a, b, c, e⟩ := C.ex
  ⟨f, a, fd, ps, b, c, e⟩
section
variable {X : Cx} {H0 : Hp}
def dFnV (CA : CAT) (d : DSp) : TDE := fun _ m P => ∀ f, CA f d → P (.ref f) m
theorem qe_fnV {k : Nat} {x : Str} {ps : List Str} {d : DSp} {pos : Pos} (C : Callee X.prog X.w X.K X.mg k x ps d) (hg : Gl X x) (hd : (x == ("__debug__" : Str)) = false := by decide) :
    PE X (.Name x pos) (lE X.K H0 (dFnV (CalleeAt X.prog X.w X.K X.mg k) d)) := by
  obtain ⟨f, hm, C⟩ := C.at
  refine peL (qe_glob (H0 := H0) (v := .ref f) (d := .ref f) hg hm rfl (fun _ => .ref f) hd) fun σ H Q h => ?_
  obtain ⟨sd, m, P, a, p, q⟩ := h
  exact ⟨sd, m, P, a, p f C, q⟩
def dCallV (CA : CAT) (i : Nat) (t : TDA) : TDE := fun sd m P => ∃ f d, sd[i]? = some (some (.ref f)) ∧ CA f d ∧ t sd m fun xs m1 => d xs m1 P noX
theorem qe_callV {k i : Nat} {x : Str} {p pos : Pos} {e : Expr} {es : List Expr} {t : TDA} (hr : Room k X.A) (hN : X.N[i]? = some x) (hv : Vis X.env.scope x) (ha : PA X (e :: es) (lA X.K H0 t))
    (hdb : (x == ("__debug__" : Str)) = false := by decide) (hcd : (x == ("__classdict__" : Str)) = false := by decide)
    (he : starEach (e :: es) X.env = (false, eval e X.env) :: starEach es X.env := by rfl) (hpl : (backTo pos (starEach es X.env)).any (·.1) = false := by rfl) :
    PE X (.Call (.Name x p) (e :: es) [] pos) (lE X.K H0 (dCallV (CalleeAt X.prog X.w X.K X.mg k) i t)) := by
  refine ⟨fun pins s σ H Q I h => ?_⟩
  obtain ⟨sd, m, P, a, ⟨f, d, hs, C, p⟩, q⟩ := h
  obtain ⟨fd, ps, b, c, F⟩ := C.ex
  obtain ⟨v, hv1, hv2⟩ := a.s.get _ _ hs
  obtain rfl := hv2.ref_
  exact (pe_callL (i := i) (f := f) (dvs := []) (E := E0) (F X.base) hr hN hv b (.all c) .nil pass0 ha hdb hcd he hpl).run pins s σ H Q I ⟨hv1, l_call ⟨sd, m, P, a, p, q⟩⟩
end
def dPar3 (i j l : Nat) (t : TDA) : TDS := fun DD sd m => t sd m fun xs m1 => ∃ v w z, xs = [v, w, z] ∧ DD.nx (((sd.set i (some v)).set j (some w)).set l (some z)) m1
theorem qs_par3 {X : Cx} {H0 : Hp} {i j l : Nat} {x y z : Str} {a b c : Expr} {t : TDA} {px py pz pt : Pos} {kt k2 : Nat} {pt2 pos : Pos} (hc : X.calm = true) (hN : X.N.Nodup) (hi : X.N[i]? = some x) (hj : X.N[j]? = some y) (hl : X.N[l]? = some z) (hij : i ≠ j) (hil : i ≠ l) (hjl : j ≠ l)
    (hx : X.env.scope.names.lookup x = some .local) (hy : X.env.scope.names.lookup y = some .local) (hz : X.env.scope.names.lookup z = some .local) (ha : PA X [a, b, c] (lA X.K H0 t))
    (hw : swappedStores [.Tuple [.Name x px, .Name y py, .Name z pz] kt pt] (.Tuple [a, b, c] k2 pt2) X.env = pure (some [x, y, z]))
    (hs : swapsWithSole [.Tuple [.Name x px, .Name y py, .Name z pz] kt pt] (.Tuple [a, b, c] k2 pt2) pos.line X.env = pure false := by rfl) :
    PS X (.Assign [.Tuple [.Name x px, .Name y py, .Name z pz] kt pt] (.Tuple [a, b, c] k2 pt2) pos) (lS X.K H0 (dPar3 i j l t)) := psL (ps_par3 hc hN hi hj hl hij hil hjl hx hy hz ha hw hs) fun DD σ H h => by
  obtain ⟨sd, m, EE, aa, p, q⟩ := h
  refine ⟨sd, m, _, aa, p, fun xs m1 us H1 k1 r1 d1 p1 => ?_⟩
  obtain ⟨v, w, z, rfl, p2⟩ := p1
  obtain ⟨u1, u2, u3, rfl, g1, g2, g3⟩ := d1.three_
  exact ⟨u1, u2, u3, rfl, q.1 _ _ _ _ k1 ((((aa.s.mono k1).set i g1).set j g2).set l g3) r1 p2⟩
/-! ### texts that are walked -/
abbrev chD (z : Str) : List D := z.cps.toList.map fun c => .str ⟨#[c]⟩
theorem lift_str {K : PySem.W.Frag} {H : Hp} {z : Str} : LiftIt K H (jTup (chD z)) (Its z) := fun H2 k2 i m2 r2 o e => by
  have e : o = (chD z)[i]? := e
  unfold chD at e
  rw [List.getElem?_map, Array.getElem?_toList] at e
  cases e2 : z.cps[i]? with
  | none =>
    rw [e2] at e
    subst e
    exact Array.getElem?_eq_none_iff.mp e2
  | some c =>
    rw [e2] at e
    subst e
    refine ⟨(Array.getElem?_eq_some_iff.mp e2).1, fun v H3 y => ?_⟩
    obtain ⟨rfl, c', e3, rfl⟩ := y
    rw [e2] at e3
    cases e3
    exact ⟨Keep.refl _, r2, .str _⟩
def dForC (t : TDE) (g : TDG) (tb : TDS) : TDS := fun D sd m => t sd m fun x m1 => ∃ z, x = .str z ∧ FT (chD z) g tb D sd m1
def dLcC (t : TDE) (g : TDG) (tt : TDT) (te : TDE) (vs : List Nat) : TDE := fun sd m P => t sd m fun x m1 => ∃ z, x = .str z ∧ CT (chD z) g tt te vs sd m1 P
section
variable {X : Cx} {H0 : Hp} {tg : Expr} {body : List Stmt} {g : TDG} {tb : TDS} {pos : Pos} {vs : List Nat} {K : PySem.W.Frag} {tt : TDT} {te : TDE} {σ : St} {H : Hp} {Q : VK}
theorem qs_forC {l : Expr} {t : TDE} (hp : PassesOwn (model X.prog X.w) X.A X.env X.xe) (hc : X.calm = true) (hl : PE X l (lE X.K H0 t)) (hg : PG X tg (lG X.K H0 vs g)) (hb : PSs X body (lS X.K H0 tb)) (hf : ∀ x, foldedSetIterable l X.env x = pure x := by intro _; rfl) : PS X (.For tg l body [] pos) (lS X.K H0 (dForC t g tb)) :=
  psL (ps_for hp hc (pi_str hl) hg hb hf) fun D σ H h => by
    obtain ⟨sd, m, DD, a, p, q1, q2, q3, q4⟩ := h
    refine ⟨sd, m, _, a, p, fun d m' v H' k r rd p' => ?_⟩
    obtain ⟨z, rfl, W, w0, wst, wd⟩ := p'
    obtain rfl := rd.str_
    exact ⟨z, rfl, for_core a.k k (a.s.mono k) r lift_str q1 q2 (f_tup W w0 wst wd)⟩
theorem l_lcC {t : TDE} (h : lE K H0 (dLcC t g tt te vs) σ H Q) : tLc (iStr (lE K H0 t)) (lG K H0 vs g) (lT K H0 tt) (lE K H0 te) vs σ H Q := by
  obtain ⟨sd, m, P, a, p, q⟩ := h
  refine ⟨sd, m, _, a, p, fun d m' v H' k r rd p' => ?_⟩
  obtain ⟨z, rfl, p'⟩ := p'
  obtain rfl := rd.str_
  exact ⟨z, rfl, fun D hD => lc_core a.k k a.s r lift_str q hD (c_tup (p' D (r.free hD)))⟩
end
section
variable {sd : DS} {m : M} {D' : DEnds} {t : TDS} {g : TDG} {ta : TDE} {P : DK} {tt : TDT} {te : TDE} {vs : List Nat} {tl : TDA} {CA : CAT}
theorem s_forC (h : ta sd m fun x m1 => ∃ z, x = .str z ∧ FT (chD z) g t D' sd m1) : dForC ta g t D' sd m := h
theorem s_lcC (h : ta sd m fun x m1 => ∃ z, x = .str z ∧ CT (chD z) g tt te vs sd m1 P) : dLcC ta g tt te vs sd m P := h
theorem r_FC {z : Str} (h : FT (chD z) g t D' sd m) : ∃ z', D.str z = .str z' ∧ FT (chD z') g t D' sd m := ⟨z, rfl, h⟩
theorem r_CC {z : Str} (h : CT (chD z) g tt te vs sd m P) : ∃ z', D.str z = .str z' ∧ CT (chD z') g tt te vs sd m P := ⟨z, rfl, h⟩
theorem s_par3 {i j l : Nat} (h : tl sd m fun xs m1 => ∃ v w z, xs = [v, w, z] ∧ D'.nx (((sd.set i (some v)).set j (some w)).set l (some z)) m1) : dPar3 i j l tl D' sd m := h
theorem r_par3 {i j l : Nat} {x y z : D} {Q : DS → M → Prop} (h : Q (((sd.set i (some x)).set j (some y)).set l (some z)) m) : ∃ v w u, [x, y, z] = [v, w, u] ∧ Q (((sd.set i (some v)).set j (some w)).set l (some u)) m := ⟨x, y, z, rfl, h⟩
theorem s_fnV {d : DSp} (h : ∀ f, CA f d → P (.ref f) m) : dFnV CA d sd m P := h
theorem s_callV {i : Nat} {f : Addr} {d : DSp} (h1 : sd[i]? = some (some (.ref f))) (h2 : CA f d) (h : tl sd m fun xs m1 => d xs m1 P noX) : dCallV CA i tl sd m P := ⟨f, d, h1, h2, h⟩
end
end Q4

set_option maxHeartbeats 0
namespace Q4
open PySem L2
def topS (i : Nat) : Stmt := PySem.Challenge.pw_lendback_k09_parse_declarations.main.body.getD i (.Pass ⟨0, 0, 0, 0⟩)
abbrev c_SMALL_LETTERS : D := .str "abcdefghijklmnopqrstuvwxyz"
abbrev c_CAPITALS : D := .str "ABCDEFGHIJKLMNOPQRSTUVWXYZ"
abbrev c_DIGITS : D := .str "0123456789"
abbrev c_RESERVED_WORDS : D := .tup [.str "and", .str "bool", .str "box", .str "do", .str "else", .str "false", .str "fn", .str "from", .str "if", .str "int", .str "is", .str "let", .str "maybe", .str "mut", .str "none", .str "not", .str "or", .str "print", .str "record", .str "return", .str "some", .str "swap", .str "true", .str "unbox", .str "unit", .str "while", .str "with"]
abbrev c_SIGNS : D := .tup [.str "->", .str "==", .str "{", .str "}", .str "(", .str ")", .str "[", .str "]", .str ",", .str ";", .str ":", .str ".", .str "?", .str "^", .str "&", .str "+", .str "-", .str "*", .str "<", .str "="]
abbrev c_LONGEST_NAME : D := .int 20
abbrev c_LONGEST_NUMBER : D := .int 10
abbrev c_LOWEST : D := .int (-2147483648)
abbrev c_HIGHEST : D := .int 2147483647
abbrev c_OPERATION_SIGNS : D := .tup [.str "+", .str "-", .str "*", .str "<", .str "==", .str "and", .str "or"]
abbrev s_consists_of : Stmt := topS 11
theorem sc_consists_of : FnScope ["word", "characters", "character"] ["word", "characters"] (defScope s_consists_of) := ⟨rfl, rfl, rfl, by decide +kernel, rfl, by decide +kernel, by decide +kernel⟩
def b_consists_of : TDS := (dRet (dCB rAllD (dCons (dLcC (dVar 0) (dName 2) dYes (dOp rInD (dVar 2) (dVar 1)) [2]) dNil)))
theorem ok_consists_of {P : Program} {w : World} {K : PySem.W.Frag} {mg : Str → Option Value} {k : Nat} {d : DSp} (F : FunAt K mg "consists_of" s_consists_of ["word", "characters"]) (z_all : mg "all" = none)
    (len : ∀ ds m P EX, d ds m P EX → ds.length = 2) (rd : ∀ ds m Q EX, d ds m Q EX → Go Q (b_consists_of) (dstart ["word", "characters", "character"] ds) m) : Callee P w K mg (k + 1) "consists_of" ["word", "characters"] d :=
  F.callee sc_consists_of len (b_consists_of) rd fun base f cdv A outer s H E hr =>
    ((qss_one (qs_ret (qe_callB (cd_all rfl) (by rfl) z_all (by decide +kernel) (qa_cons (qe_lcX (own := [("character", 2)]) rfl sc_consists_of.nd (pi_str (qv 0)) (blkOk_by (N := ["word", "characters", "character"]) (sc := defScope s_consists_of) (by decide +kernel)) (fun _ _ _ _ _ => (qg_name (i := 2) sc_consists_of.nd rfl (by first | exact Or.inl rfl | exact Or.inr rfl) (by decide))) (fun _ _ _ _ _ => qts_nil) (fun _ _ _ _ _ => (qe_cmp od_inD (qv 2) (qv 1) (by rfl))) (fun _ _ _ => l_lcC)) qa_nil)))))
abbrev s_is_name : Stmt := topS 12
theorem sc_is_name : FnScope ["word"] ["word"] (defScope s_is_name) := ⟨rfl, rfl, rfl, by decide +kernel, rfl, by decide +kernel, by decide +kernel⟩
def b_is_name (d_consists_of : DSp) : TDS := (dRet (dAndV (dOp rInD (dOp rIxD (dVar 0) (dC (.int 0))) (dC c_SMALL_LETTERS)) (dAndV (dCall d_consists_of (dCons (dVar 0) (dCons (dOp rAdd (dOp rAdd (dC c_SMALL_LETTERS) (dC c_DIGITS)) (dC (.str "_"))) dNil))) (dAndV (dOp rLeD (dCB rLen (dCons (dVar 0) dNil)) (dC c_LONGEST_NAME)) (dOp rNotInD (dVar 0) (dC c_RESERVED_WORDS))))))
theorem ok_is_name {P : Program} {w : World} {K : PySem.W.Frag} {mg : Str → Option Value} {k : Nat} {d d_consists_of : DSp} (F : FunAt K mg "is_name" s_is_name ["word"]) (C_consists_of : Callee P w K mg k "consists_of" ["word", "characters"] d_consists_of) (k_SMALL_LETTERS : ConstAt K mg "SMALL_LETTERS" c_SMALL_LETTERS) (k_DIGITS : ConstAt K mg "DIGITS" c_DIGITS) (k_LONGEST_NAME : ConstAt K mg "LONGEST_NAME" c_LONGEST_NAME) (k_RESERVED_WORDS : ConstAt K mg "RESERVED_WORDS" c_RESERVED_WORDS) (z_len : mg "len" = none)
    (len : ∀ ds m P EX, d ds m P EX → ds.length = 1) (rd : ∀ ds m Q EX, d ds m Q EX → Go Q (b_is_name d_consists_of) (dstart ["word"] ds) m) : Callee P w K mg (k + 1) "is_name" ["word"] d :=
  F.callee sc_is_name len (b_is_name d_consists_of) rd fun base f cdv A outer s H E hr =>
    ((qss_one (qs_ret (qe_and (qe_cmp od_inD (qe_ix (qv 0) qe_int (fun _ _ => rfl)) (qe_const k_SMALL_LETTERS (by rfl)) (by rfl)) (qe_and (qe_fn C_consists_of hr (by rfl) (qa_cons (qv 0) (qa_cons (qe_op od_add (qe_op od_add (qe_const k_SMALL_LETTERS (by rfl)) (qe_const k_DIGITS (by rfl))) qe_str) qa_nil))) (qe_and (qe_cmp od_le (qe_callB (cd_len) (by rfl) z_len PySem.boot_len (qa_cons (qv 0) qa_nil)) (qe_const k_LONGEST_NAME (by rfl)) (nomark _)) (qe_one (qe_cmp od_notInD (qv 0) (qe_const k_RESERVED_WORDS (by rfl)) (by rfl)))))))))
abbrev s_is_record_name : Stmt := topS 13
theorem sc_is_record_name : FnScope ["word"] ["word"] (defScope s_is_record_name) := ⟨rfl, rfl, rfl, by decide +kernel, rfl, by decide +kernel, by decide +kernel⟩
def b_is_record_name (d_consists_of : DSp) : TDS := (dRet (dAndV (dOp rInD (dOp rIxD (dVar 0) (dC (.int 0))) (dC c_CAPITALS)) (dAndV (dCall d_consists_of (dCons (dVar 0) (dCons (dOp rAdd (dOp rAdd (dC c_SMALL_LETTERS) (dC c_CAPITALS)) (dC c_DIGITS)) dNil))) (dOp rLeD (dCB rLen (dCons (dVar 0) dNil)) (dC c_LONGEST_NAME)))))
theorem ok_is_record_name {P : Program} {w : World} {K : PySem.W.Frag} {mg : Str → Option Value} {k : Nat} {d d_consists_of : DSp} (F : FunAt K mg "is_record_name" s_is_record_name ["word"]) (C_consists_of : Callee P w K mg k "consists_of" ["word", "characters"] d_consists_of) (k_CAPITALS : ConstAt K mg "CAPITALS" c_CAPITALS) (k_SMALL_LETTERS : ConstAt K mg "SMALL_LETTERS" c_SMALL_LETTERS) (k_DIGITS : ConstAt K mg "DIGITS" c_DIGITS) (k_LONGEST_NAME : ConstAt K mg "LONGEST_NAME" c_LONGEST_NAME) (z_len : mg "len" = none)
    (len : ∀ ds m P EX, d ds m P EX → ds.length = 1) (rd : ∀ ds m Q EX, d ds m Q EX → Go Q (b_is_record_name d_consists_of) (dstart ["word"] ds) m) : Callee P w K mg (k + 1) "is_record_name" ["word"] d :=
  F.callee sc_is_record_name len (b_is_record_name d_consists_of) rd fun base f cdv A outer s H E hr =>
    ((qss_one (qs_ret (qe_and (qe_cmp od_inD (qe_ix (qv 0) qe_int (fun _ _ => rfl)) (qe_const k_CAPITALS (by rfl)) (by rfl)) (qe_and (qe_fn C_consists_of hr (by rfl) (qa_cons (qv 0) (qa_cons (qe_op od_add (qe_op od_add (qe_const k_SMALL_LETTERS (by rfl)) (qe_const k_CAPITALS (by rfl))) (qe_const k_DIGITS (by rfl))) qa_nil))) (qe_one (qe_cmp od_le (qe_callB (cd_len) (by rfl) z_len PySem.boot_len (qa_cons (qv 0) qa_nil)) (qe_const k_LONGEST_NAME (by rfl)) (nomark _))))))))
abbrev s_is_number : Stmt := topS 14
theorem sc_is_number : FnScope ["word"] ["word"] (defScope s_is_number) := ⟨rfl, rfl, rfl, by decide +kernel, rfl, by decide +kernel, by decide +kernel⟩
def b_is_number (d_consists_of : DSp) : TDS := (dRet (dAndV (dCall d_consists_of (dCons (dVar 0) (dCons (dC c_DIGITS) dNil))) (dAndV (dOrV (dOp rEqD (dVar 0) (dC (.str "0"))) (dOp rNeD (dOp rIxD (dVar 0) (dC (.int 0))) (dC (.str "0")))) (dOp rLeD (dCB rLen (dCons (dVar 0) dNil)) (dC c_LONGEST_NUMBER)))))
theorem ok_is_number {P : Program} {w : World} {K : PySem.W.Frag} {mg : Str → Option Value} {k : Nat} {d d_consists_of : DSp} (F : FunAt K mg "is_number" s_is_number ["word"]) (C_consists_of : Callee P w K mg k "consists_of" ["word", "characters"] d_consists_of) (k_DIGITS : ConstAt K mg "DIGITS" c_DIGITS) (k_LONGEST_NUMBER : ConstAt K mg "LONGEST_NUMBER" c_LONGEST_NUMBER) (z_len : mg "len" = none)
    (len : ∀ ds m P EX, d ds m P EX → ds.length = 1) (rd : ∀ ds m Q EX, d ds m Q EX → Go Q (b_is_number d_consists_of) (dstart ["word"] ds) m) : Callee P w K mg (k + 1) "is_number" ["word"] d :=
  F.callee sc_is_number len (b_is_number d_consists_of) rd fun base f cdv A outer s H E hr =>
    ((qss_one (qs_ret (qe_and (qe_fn C_consists_of hr (by rfl) (qa_cons (qv 0) (qa_cons (qe_const k_DIGITS (by rfl)) qa_nil))) (qe_and (qe_or (qe_cmp (od_eq hr.units) (qv 0) qe_str (nomark _)) (qe_one (qe_cmp (od_ne hr.units) (qe_ix (qv 0) qe_int (fun _ _ => rfl)) qe_str (nomark _)))) (qe_one (qe_cmp od_le (qe_callB (cd_len) (by rfl) z_len PySem.boot_len (qa_cons (qv 0) qa_nil)) (qe_const k_LONGEST_NUMBER (by rfl)) (nomark _))))))))
abbrev s_label_of : Stmt := topS 15
theorem sc_label_of : FnScope ["word"] ["word"] (defScope s_label_of) := ⟨rfl, rfl, rfl, by decide +kernel, rfl, by decide +kernel, by decide +kernel⟩
def b_label_of (d_is_name d_is_record_name d_is_number : DSp) : TDS := (dSeq (dIf (dOr (dB (dOp rInD (dVar 0) (dC c_RESERVED_WORDS))) (dB (dOp rInD (dVar 0) (dC c_SIGNS))))
    (dRet (dVar 0))
    dNext)
    (dSeq (dIf (dTru (dCall d_is_name (dCons (dVar 0) dNil)))
    (dRet (dC (.str "name")))
    dNext)
    (dSeq (dIf (dTru (dCall d_is_record_name (dCons (dVar 0) dNil)))
    (dRet (dC (.str "Name")))
    dNext)
    (dSeq (dIf (dTru (dCall d_is_number (dCons (dVar 0) dNil)))
    (dRet (dC (.str "number")))
    dNext)
    (dRet (dC (.str "wrong")))))))
theorem ok_label_of {P : Program} {w : World} {K : PySem.W.Frag} {mg : Str → Option Value} {k : Nat} {d d_is_name d_is_record_name d_is_number : DSp} (F : FunAt K mg "label_of" s_label_of ["word"]) (C_is_name : Callee P w K mg k "is_name" ["word"] d_is_name) (C_is_record_name : Callee P w K mg k "is_record_name" ["word"] d_is_record_name) (C_is_number : Callee P w K mg k "is_number" ["word"] d_is_number) (k_RESERVED_WORDS : ConstAt K mg "RESERVED_WORDS" c_RESERVED_WORDS) (k_SIGNS : ConstAt K mg "SIGNS" c_SIGNS)
    (len : ∀ ds m P EX, d ds m P EX → ds.length = 1) (rd : ∀ ds m Q EX, d ds m Q EX → Go Q (b_label_of d_is_name d_is_record_name d_is_number) (dstart ["word"] ds) m) : Callee P w K mg (k + 1) "label_of" ["word"] d :=
  F.callee sc_label_of len (b_label_of d_is_name d_is_record_name d_is_number) rd fun base f cdv A outer s H E hr =>
    ((qss_cons (qs_if (PW.pt (qw_or (qt_cmp od_inD (qv 0) (qe_const k_RESERVED_WORDS (by rfl)) (by rfl)) (qw_or1 (qt_cmp od_inD (qv 0) (qe_const k_SIGNS (by rfl)) (by rfl)))))
    (qss_one (qs_ret (qv 0)))
    qss_nil)
    (qss_cons (qs_if (qt_tru (qe_fn C_is_name hr (by rfl) (qa_cons (qv 0) qa_nil)))
    (qss_one (qs_ret qe_str))
    qss_nil)
    (qss_cons (qs_if (qt_tru (qe_fn C_is_record_name hr (by rfl) (qa_cons (qv 0) qa_nil)))
    (qss_one (qs_ret qe_str))
    qss_nil)
    (qss_cons (qs_if (qt_tru (qe_fn C_is_number hr (by rfl) (qa_cons (qv 0) qa_nil)))
    (qss_one (qs_ret qe_str))
    qss_nil)
    (qss_one (qs_ret qe_str)))))))
abbrev s_run_end : Stmt := topS 16
theorem sc_run_end : FnScope ["text", "at", "characters"] ["text", "at", "characters"] (defScope s_run_end) := ⟨rfl, rfl, rfl, by decide +kernel, rfl, by decide +kernel, by decide +kernel⟩
def b_run_end : TDS := (dSeq (dWhile (dAnd (dB (dOp rLtD (dVar 1) (dCB rLen (dCons (dVar 0) dNil)))) (dB (dOp rInD (dOp rIxD (dVar 0) (dVar 1)) (dVar 2))))
    (dAug 1 (dC (.int 1)) rIAdd))
    (dRet (dVar 1)))
theorem ok_run_end {P : Program} {w : World} {K : PySem.W.Frag} {mg : Str → Option Value} {k : Nat} {d : DSp} (F : FunAt K mg "run_end" s_run_end ["text", "at", "characters"]) (z_len : mg "len" = none)
    (len : ∀ ds m P EX, d ds m P EX → ds.length = 3) (rd : ∀ ds m Q EX, d ds m Q EX → Go Q (b_run_end) (dstart ["text", "at", "characters"] ds) m) : Callee P w K mg (k + 1) "run_end" ["text", "at", "characters"] d :=
  F.callee sc_run_end len (b_run_end) rd fun base f cdv A outer s H E hr =>
    ((qss_cons (qs_while PassesOwn.never (PW.pt (qw_and (qt_cmp od_lt (qv 1) (qe_callB (cd_len) (by rfl) z_len PySem.boot_len (qa_cons (qv 0) qa_nil)) (nomark _)) (qw_and1 (qt_cmp od_inD (qe_ix (qv 0) (qv 1) (fun _ _ => rfl)) (qv 2) (by rfl)))))
    (qss_one (qs_augO (i := 1) sc_run_end.nd rfl (by first | exact Or.inl rfl | exact Or.inr rfl) qe_int od_iadd)))
    (qss_one (qs_ret (qv 1)))))
abbrev s_token_end : Stmt := topS 17
theorem sc_token_end : FnScope ["text", "at"] ["text", "at"] (defScope s_token_end) := ⟨rfl, rfl, rfl, by decide +kernel, rfl, by decide +kernel, by decide +kernel⟩
def b_token_end (d_run_end : DSp) : TDS := (dSeq (dIf (dB (dOp rInD (dOp rIxD (dVar 0) (dVar 1)) (dOp rAdd (dC c_SMALL_LETTERS) (dC c_CAPITALS))))
    (dRet (dCall d_run_end (dCons (dVar 0) (dCons (dVar 1) (dCons (dOp rAdd (dOp rAdd (dOp rAdd (dC c_SMALL_LETTERS) (dC c_CAPITALS)) (dC c_DIGITS)) (dC (.str "_"))) dNil)))))
    dNext)
    (dSeq (dIf (dB (dOp rInD (dOp rIxD (dVar 0) (dVar 1)) (dC c_DIGITS)))
    (dRet (dCall d_run_end (dCons (dVar 0) (dCons (dVar 1) (dCons (dC c_DIGITS) dNil)))))
    dNext)
    (dSeq (dIf (dB (dOp rInD (dSl (dVar 0) (dPart (dVar 1)) (dPart (dOp rAdd (dVar 1) (dC (.int 2))))) (dTup (dCons (dC (.str "->")) (dCons (dC (.str "==")) dNil)))))
    (dRet (dOp rAdd (dVar 1) (dC (.int 2))))
    dNext)
    (dRet (dOp rAdd (dVar 1) (dC (.int 1)))))))
theorem ok_token_end {P : Program} {w : World} {K : PySem.W.Frag} {mg : Str → Option Value} {k : Nat} {d d_run_end : DSp} (F : FunAt K mg "token_end" s_token_end ["text", "at"]) (C_run_end : Callee P w K mg k "run_end" ["text", "at", "characters"] d_run_end) (k_SMALL_LETTERS : ConstAt K mg "SMALL_LETTERS" c_SMALL_LETTERS) (k_CAPITALS : ConstAt K mg "CAPITALS" c_CAPITALS) (k_DIGITS : ConstAt K mg "DIGITS" c_DIGITS)
    (len : ∀ ds m P EX, d ds m P EX → ds.length = 2) (rd : ∀ ds m Q EX, d ds m Q EX → Go Q (b_token_end d_run_end) (dstart ["text", "at"] ds) m) : Callee P w K mg (k + 1) "token_end" ["text", "at"] d :=
  F.callee sc_token_end len (b_token_end d_run_end) rd fun base f cdv A outer s H E hr =>
    ((qss_cons (qs_if (qt_cmp od_inD (qe_ix (qv 0) (qv 1) (fun _ _ => rfl)) (qe_op od_add (qe_const k_SMALL_LETTERS (by rfl)) (qe_const k_CAPITALS (by rfl))) (by rfl))
    (qss_one (qs_ret (qe_fn C_run_end hr (by rfl) (qa_cons (qv 0) (qa_cons (qv 1) (qa_cons (qe_op od_add (qe_op od_add (qe_op od_add (qe_const k_SMALL_LETTERS (by rfl)) (qe_const k_CAPITALS (by rfl))) (qe_const k_DIGITS (by rfl))) qe_str) qa_nil))))))
    qss_nil)
    (qss_cons (qs_if (qt_cmp od_inD (qe_ix (qv 0) (qv 1) (fun _ _ => rfl)) (qe_const k_DIGITS (by rfl)) (by rfl))
    (qss_one (qs_ret (qe_fn C_run_end hr (by rfl) (qa_cons (qv 0) (qa_cons (qv 1) (qa_cons (qe_const k_DIGITS (by rfl)) qa_nil))))))
    qss_nil)
    (qss_cons (qs_if (qt_cmp od_inD (qe_slice (qv 0) (qo_some (qv 1)) (qo_some (qe_op od_add (qv 1) qe_int))) (qe_tup (qa_cons qe_str (qa_cons qe_str qa_nil))) (by rfl))
    (qss_one (qs_ret (qe_op od_add (qv 1) qe_int)))
    qss_nil)
    (qss_one (qs_ret (qe_op od_add (qv 1) qe_int)))))))
abbrev s_split_text : Stmt := topS 18
theorem sc_split_text : FnScope ["text", "tokens", "line", "line_start", "at", "word"] ["text"] (defScope s_split_text) := ⟨rfl, rfl, rfl, by decide +kernel, rfl, by decide +kernel, by decide +kernel⟩
def b_split_text (d_token_end d_label_of : DSp) : TDS := (dSeq (dAsg (dLst dNil) (dName 1))
    (dSeq (dAsg (dTup (dCons (dC (.int 1)) (dCons (dC (.int 0)) (dCons (dC (.int 0)) dNil)))) (dGTup 3 (dGCons (dName 2) (dGCons (dName 3) (dGCons (dName 4) dGNil)))))
    (dSeq (dWhile (dB (dOp rLtD (dVar 4) (dCB rLen (dCons (dVar 0) dNil))))
    (dIf (dB (dOp rEqD (dOp rIxD (dVar 0) (dVar 4)) (dC (.str "\n"))))
    (dPar3 2 3 4 (dCons (dOp rAdd (dVar 2) (dC (.int 1))) (dCons (dOp rAdd (dVar 4) (dC (.int 1))) (dCons (dOp rAdd (dVar 4) (dC (.int 1))) dNil))))
    (dIf (dB (dOp rEqD (dOp rIxD (dVar 0) (dVar 4)) (dC (.str " "))))
    (dAug 4 (dC (.int 1)) rIAdd)
    (dSeq (dAsg (dSl (dVar 0) (dPart (dVar 4)) (dPart (dCall d_token_end (dCons (dVar 0) (dCons (dVar 4) dNil))))) (dName 5))
    (dSeq (dDrop (dBM isLst rApp (dVar 1) (dCons (dTup (dCons (dCall d_label_of (dCons (dVar 5) dNil)) (dCons (dVar 5) (dCons (dVar 2) (dCons (dOp rAdd (dOp rSub (dVar 4) (dVar 3)) (dC (.int 1))) dNil))))) dNil)))
    (dAug 4 (dCB rLen (dCons (dVar 5) dNil)) rIAdd))))))
    (dSeq (dDrop (dBM isLst rApp (dVar 1) (dCons (dTup (dCons (dC (.str "end")) (dCons (dC (.str "")) (dCons (dVar 2) (dCons (dOp rAdd (dOp rSub (dVar 4) (dVar 3)) (dC (.int 1))) dNil))))) dNil)))
    (dRet (dVar 1))))))
theorem ok_split_text {P : Program} {w : World} {K : PySem.W.Frag} {mg : Str → Option Value} {k : Nat} {d d_token_end d_label_of : DSp} (F : FunAt K mg "split_text" s_split_text ["text"]) (C_token_end : Callee P w K mg k "token_end" ["text", "at"] d_token_end) (C_label_of : Callee P w K mg k "label_of" ["word"] d_label_of) (z_len : mg "len" = none)
    (len : ∀ ds m P EX, d ds m P EX → ds.length = 1) (rd : ∀ ds m Q EX, d ds m Q EX → Go Q (b_split_text d_token_end d_label_of) (dstart ["text", "tokens", "line", "line_start", "at", "word"] ds) m) : Callee P w K mg (k + 1) "split_text" ["text"] d :=
  F.callee sc_split_text len (b_split_text d_token_end d_label_of) rd fun base f cdv A outer s H E hr =>
    ((qss_cons (qs_set (i := 1) sc_split_text.nd rfl (by first | exact Or.inl rfl | exact Or.inr rfl) (qe_lst qa_nil))
    (qss_cons (qs_asg (vs := [2, 3, 4]) (qe_tup (qa_cons qe_int (qa_cons qe_int (qa_cons qe_int qa_nil)))) (qg_tup rfl (qgs_cons (qg_name (i := 2) sc_split_text.nd rfl (by first | exact Or.inl rfl | exact Or.inr rfl) (by decide)) (qgs_cons (qg_name (i := 3) sc_split_text.nd rfl (by first | exact Or.inl rfl | exact Or.inr rfl) (by decide)) (qgs_cons (qg_name (i := 4) sc_split_text.nd rfl (by first | exact Or.inl rfl | exact Or.inr rfl) (by decide)) qgs_nil)))))
    (qss_cons (qs_while PassesOwn.never (qt_cmp od_lt (qv 4) (qe_callB (cd_len) (by rfl) z_len PySem.boot_len (qa_cons (qv 0) qa_nil)) (nomark _))
    (qss_one (qs_if (qt_cmp (od_eq hr.units) (qe_ix (qv 0) (qv 4) (fun _ _ => rfl)) qe_str (nomark _))
    (qss_one (qs_par3 (i := 2) (j := 3) (l := 4) rfl sc_split_text.nd rfl rfl rfl (by decide) (by decide) (by decide) rfl rfl rfl (qa_cons (qe_op od_add (qv 2) qe_int) (qa_cons (qe_op od_add (qv 4) qe_int) (qa_cons (qe_op od_add (qv 4) qe_int) qa_nil))) rfl))
    (qss_one (qs_if (qt_cmp (od_eq hr.units) (qe_ix (qv 0) (qv 4) (fun _ _ => rfl)) qe_str (nomark _))
    (qss_one (qs_augO (i := 4) sc_split_text.nd rfl (by first | exact Or.inl rfl | exact Or.inr rfl) qe_int od_iadd))
    (qss_cons (qs_set (i := 5) sc_split_text.nd rfl (by first | exact Or.inl rfl | exact Or.inr rfl) (qe_slice (qv 0) (qo_some (qv 4)) (qo_some (qe_fn C_token_end hr (by rfl) (qa_cons (qv 0) (qa_cons (qv 4) qa_nil))))))
    (qss_cons (qs_expr (qe_bm md_append PySem.F.plainAttrs_list PySem.F.slot_list_append PySem.F.type_list_append (qv 1) (qa_cons (qe_tup (qa_cons (qe_fn C_label_of hr (by rfl) (qa_cons (qv 5) qa_nil)) (qa_cons (qv 5) (qa_cons (qv 2) (qa_cons (qe_op od_add (qe_op od_sub (qv 4) (qv 3)) qe_int) qa_nil))))) qa_nil)))
    (qss_one (qs_augO (i := 4) sc_split_text.nd rfl (by first | exact Or.inl rfl | exact Or.inr rfl) (qe_callB (cd_len) (by rfl) z_len PySem.boot_len (qa_cons (qv 5) qa_nil)) od_iadd)))))))))
    (qss_cons (qs_expr (qe_bm md_append PySem.F.plainAttrs_list PySem.F.slot_list_append PySem.F.type_list_append (qv 1) (qa_cons (qe_tup (qa_cons qe_str (qa_cons qe_str (qa_cons (qv 2) (qa_cons (qe_op od_add (qe_op od_sub (qv 4) (qv 3)) qe_int) qa_nil))))) qa_nil)))
    (qss_one (qs_ret (qv 1))))))))
abbrev s_parse_program : Stmt := topS 23
theorem sc_parse_program : FnScope ["text", "tokens", "records", "at", "functions"] ["text"] (defScope s_parse_program) := ⟨rfl, rfl, rfl, by decide +kernel, rfl, by decide +kernel, by decide +kernel⟩
def b_parse_program (CA : CAT) (d_split_text d_read_while_seen d_read_token v_read_declared_record v_read_function : DSp) : TDS := (dSeq (dAsg (dCall d_split_text (dCons (dVar 0) dNil)) (dName 1))
    (dSeq (dAsg (dCall d_read_while_seen (dCons (dVar 1) (dCons (dC (.int 0)) (dCons (dC (.str "record")) (dCons (dFnV CA v_read_declared_record) dNil))))) (dGTup 2 (dGCons (dName 2) (dGCons (dName 3) dGNil))))
    (dSeq (dAsg (dCall d_read_while_seen (dCons (dVar 1) (dCons (dVar 3) (dCons (dC (.str "fn")) (dCons (dFnV CA v_read_function) dNil))))) (dGTup 2 (dGCons (dName 4) (dGCons (dName 3) dGNil))))
    (dSeq (dDrop (dCall d_read_token (dCons (dVar 1) (dCons (dVar 3) (dCons (dC (.str "end")) dNil)))))
    (dRet (dTup (dCons (dVar 2) (dCons (dVar 4) dNil))))))))
theorem ok_parse_program {P : Program} {w : World} {K : PySem.W.Frag} {mg : Str → Option Value} {k kv : Nat} {d d_split_text d_read_while_seen d_read_token v_read_declared_record v_read_function : DSp} (F : FunAt K mg "parse_program" s_parse_program ["text"]) (C_split_text : Callee P w K mg k "split_text" ["text"] d_split_text) (C_read_while_seen : Callee P w K mg k "read_while_seen" ["tokens", "at", "label", "read_part"] d_read_while_seen) (C_read_token : Callee P w K mg k "read_token" ["tokens", "at", "label"] d_read_token) (V_read_declared_record : Callee P w K mg kv "read_declared_record" ["tokens", "at"] v_read_declared_record) (V_read_function : Callee P w K mg kv "read_function" ["tokens", "at"] v_read_function)
    (len : ∀ ds m P EX, d ds m P EX → ds.length = 1) (rd : ∀ ds m Q EX, d ds m Q EX → Go Q (b_parse_program (CalleeAt P w K mg kv) d_split_text d_read_while_seen d_read_token v_read_declared_record v_read_function) (dstart ["text", "tokens", "records", "at", "functions"] ds) m) : Callee P w K mg (k + 1) "parse_program" ["text"] d :=
  F.callee sc_parse_program len (b_parse_program (CalleeAt P w K mg kv) d_split_text d_read_while_seen d_read_token v_read_declared_record v_read_function) rd fun base f cdv A outer s H E hr =>
    ((qss_cons (qs_set (i := 1) sc_parse_program.nd rfl (by first | exact Or.inl rfl | exact Or.inr rfl) (qe_fn C_split_text hr (by rfl) (qa_cons (qv 0) qa_nil)))
    (qss_cons (qs_asg (vs := [2, 3]) (qe_fn C_read_while_seen hr (by rfl) (qa_cons (qv 1) (qa_cons qe_int (qa_cons qe_str (qa_cons (qe_fnV V_read_declared_record (by rfl)) qa_nil))))) (qg_tup rfl (qgs_cons (qg_name (i := 2) sc_parse_program.nd rfl (by first | exact Or.inl rfl | exact Or.inr rfl) (by decide)) (qgs_cons (qg_name (i := 3) sc_parse_program.nd rfl (by first | exact Or.inl rfl | exact Or.inr rfl) (by decide)) qgs_nil))))
    (qss_cons (qs_asg (vs := [4, 3]) (qe_fn C_read_while_seen hr (by rfl) (qa_cons (qv 1) (qa_cons (qv 3) (qa_cons qe_str (qa_cons (qe_fnV V_read_function (by rfl)) qa_nil))))) (qg_tup rfl (qgs_cons (qg_name (i := 4) sc_parse_program.nd rfl (by first | exact Or.inl rfl | exact Or.inr rfl) (by decide)) (qgs_cons (qg_name (i := 3) sc_parse_program.nd rfl (by first | exact Or.inl rfl | exact Or.inr rfl) (by decide)) qgs_nil))))
    (qss_cons (qs_expr (qe_fn C_read_token hr (by rfl) (qa_cons (qv 1) (qa_cons (qv 3) (qa_cons qe_str qa_nil)))))
    (qss_one (qs_ret (qe_tup (qa_cons (qv 2) (qa_cons (qv 4) qa_nil))))))))))
abbrev s_read_token : Stmt := topS 24
theorem sc_read_token : FnScope ["tokens", "at", "label", "found", "text", "line", "column"] ["tokens", "at", "label"] (defScope s_read_token) := ⟨rfl, rfl, rfl, by decide +kernel, rfl, by decide +kernel, by decide +kernel⟩
def b_read_token : TDS := (dSeq (dAsg (dOp rIxD (dVar 0) (dVar 1)) (dGTup 4 (dGCons (dName 3) (dGCons (dName 4) (dGCons (dName 5) (dGCons (dName 6) dGNil))))))
    (dSeq (dIf (dB (dOp rNeD (dVar 3) (dVar 2)))
    dDead
    dNext)
    (dRet (dTup (dCons (dVar 4) (dCons (dOp rAdd (dVar 1) (dC (.int 1))) dNil))))))
theorem ok_read_token {P : Program} {w : World} {K : PySem.W.Frag} {mg : Str → Option Value} {k : Nat} {d : DSp} (F : FunAt K mg "read_token" s_read_token ["tokens", "at", "label"])
    (len : ∀ ds m P EX, d ds m P EX → ds.length = 3) (rd : ∀ ds m Q EX, d ds m Q EX → Go Q (b_read_token) (dstart ["tokens", "at", "label", "found", "text", "line", "column"] ds) m) : Callee P w K mg (k + 1) "read_token" ["tokens", "at", "label"] d :=
  F.callee sc_read_token len (b_read_token) rd fun base f cdv A outer s H E hr =>
    ((qss_cons (qs_asg (vs := [3, 4, 5, 6]) (qe_ix (qv 0) (qv 1) (fun _ _ => rfl)) (qg_tup rfl (qgs_cons (qg_name (i := 3) sc_read_token.nd rfl (by first | exact Or.inl rfl | exact Or.inr rfl) (by decide)) (qgs_cons (qg_name (i := 4) sc_read_token.nd rfl (by first | exact Or.inl rfl | exact Or.inr rfl) (by decide)) (qgs_cons (qg_name (i := 5) sc_read_token.nd rfl (by first | exact Or.inl rfl | exact Or.inr rfl) (by decide)) (qgs_cons (qg_name (i := 6) sc_read_token.nd rfl (by first | exact Or.inl rfl | exact Or.inr rfl) (by decide)) qgs_nil))))))
    (qss_cons (qs_if (qt_cmp (od_ne hr.units) (qv 3) (qv 2) (nomark _))
    (qss_one qs_dead)
    qss_nil)
    (qss_one (qs_ret (qe_tup (qa_cons (qv 4) (qa_cons (qe_op od_add (qv 1) qe_int) qa_nil))))))))
abbrev s_behind : Stmt := topS 25
theorem sc_behind : FnScope ["tokens", "at", "label"] ["tokens", "at", "label"] (defScope s_behind) := ⟨rfl, rfl, rfl, by decide +kernel, rfl, by decide +kernel, by decide +kernel⟩
def b_behind (d_read_token : DSp) : TDS := (dRet (dOp rIxD (dCall d_read_token (dCons (dVar 0) (dCons (dVar 1) (dCons (dVar 2) dNil)))) (dC (.int 1))))
theorem ok_behind {P : Program} {w : World} {K : PySem.W.Frag} {mg : Str → Option Value} {k : Nat} {d d_read_token : DSp} (F : FunAt K mg "behind" s_behind ["tokens", "at", "label"]) (C_read_token : Callee P w K mg k "read_token" ["tokens", "at", "label"] d_read_token)
    (len : ∀ ds m P EX, d ds m P EX → ds.length = 3) (rd : ∀ ds m Q EX, d ds m Q EX → Go Q (b_behind d_read_token) (dstart ["tokens", "at", "label"] ds) m) : Callee P w K mg (k + 1) "behind" ["tokens", "at", "label"] d :=
  F.callee sc_behind len (b_behind d_read_token) rd fun base f cdv A outer s H E hr =>
    ((qss_one (qs_ret (qe_ix (qe_fn C_read_token hr (by rfl) (qa_cons (qv 0) (qa_cons (qv 1) (qa_cons (qv 2) qa_nil)))) qe_int (fun _ _ => rfl)))))
abbrev s_read_name : Stmt := topS 26
theorem sc_read_name : FnScope ["tokens", "at"] ["tokens", "at"] (defScope s_read_name) := ⟨rfl, rfl, rfl, by decide +kernel, rfl, by decide +kernel, by decide +kernel⟩
def b_read_name (d_read_token : DSp) : TDS := (dRet (dCall d_read_token (dCons (dVar 0) (dCons (dVar 1) (dCons (dC (.str "name")) dNil)))))
theorem ok_read_name {P : Program} {w : World} {K : PySem.W.Frag} {mg : Str → Option Value} {k : Nat} {d d_read_token : DSp} (F : FunAt K mg "read_name" s_read_name ["tokens", "at"]) (C_read_token : Callee P w K mg k "read_token" ["tokens", "at", "label"] d_read_token)
    (len : ∀ ds m P EX, d ds m P EX → ds.length = 2) (rd : ∀ ds m Q EX, d ds m Q EX → Go Q (b_read_name d_read_token) (dstart ["tokens", "at"] ds) m) : Callee P w K mg (k + 1) "read_name" ["tokens", "at"] d :=
  F.callee sc_read_name len (b_read_name d_read_token) rd fun base f cdv A outer s H E hr =>
    ((qss_one (qs_ret (qe_fn C_read_token hr (by rfl) (qa_cons (qv 0) (qa_cons (qv 1) (qa_cons qe_str qa_nil)))))))
abbrev s_read_while_seen : Stmt := topS 27
theorem sc_read_while_seen : FnScope ["tokens", "at", "label", "read_part", "parts", "part"] ["tokens", "at", "label", "read_part"] (defScope s_read_while_seen) := ⟨rfl, rfl, rfl, by decide +kernel, rfl, by decide +kernel, by decide +kernel⟩
def b_read_while_seen (CA : CAT) : TDS := (dSeq (dAsg (dLst dNil) (dName 4))
    (dSeq (dWhile (dB (dOp rEqD (dOp rIxD (dOp rIxD (dVar 0) (dVar 1)) (dC (.int 0))) (dVar 2)))
    (dSeq (dAsg (dCallV CA 3 (dCons (dVar 0) (dCons (dVar 1) dNil))) (dGTup 2 (dGCons (dName 5) (dGCons (dName 1) dGNil))))
    (dDrop (dBM isLst rApp (dVar 4) (dCons (dVar 5) dNil)))))
    (dRet (dTup (dCons (dCB rTuple (dCons (dVar 4) dNil)) (dCons (dVar 1) dNil))))))
theorem ok_read_while_seen {P : Program} {w : World} {K : PySem.W.Frag} {mg : Str → Option Value} {k : Nat} {d : DSp} (F : FunAt K mg "read_while_seen" s_read_while_seen ["tokens", "at", "label", "read_part"]) (z_tuple : mg "tuple" = none)
    (len : ∀ ds m P EX, d ds m P EX → ds.length = 4) (rd : ∀ ds m Q EX, d ds m Q EX → Go Q (b_read_while_seen (CalleeAt P w K mg k)) (dstart ["tokens", "at", "label", "read_part", "parts", "part"] ds) m) : Callee P w K mg (k + 1) "read_while_seen" ["tokens", "at", "label", "read_part"] d :=
  F.callee sc_read_while_seen len (b_read_while_seen (CalleeAt P w K mg k)) rd fun base f cdv A outer s H E hr =>
    ((qss_cons (qs_set (i := 4) sc_read_while_seen.nd rfl (by first | exact Or.inl rfl | exact Or.inr rfl) (qe_lst qa_nil))
    (qss_cons (qs_while PassesOwn.never (qt_cmp (od_eq hr.units) (qe_ix (qe_ix (qv 0) (qv 1) (fun _ _ => rfl)) qe_int (fun _ _ => rfl)) (qv 2) (nomark _))
    (qss_cons (qs_asg (vs := [5, 1]) (qe_callV (i := 3) hr rfl (by first | exact Or.inl rfl | exact Or.inr (Or.inl rfl) | exact Or.inr (Or.inr rfl)) (qa_cons (qv 0) (qa_cons (qv 1) qa_nil))) (qg_tup rfl (qgs_cons (qg_name (i := 5) sc_read_while_seen.nd rfl (by first | exact Or.inl rfl | exact Or.inr rfl) (by decide)) (qgs_cons (qg_name (i := 1) sc_read_while_seen.nd rfl (by first | exact Or.inl rfl | exact Or.inr rfl) (by decide)) qgs_nil))))
    (qss_one (qs_expr (qe_bm md_append PySem.F.plainAttrs_list PySem.F.slot_list_append PySem.F.type_list_append (qv 4) (qa_cons (qv 5) qa_nil))))))
    (qss_one (qs_ret (qe_tup (qa_cons (qe_callTy cd_tuple (by rfl) z_tuple PyProof.Rows.boot_tuple (qa_cons (qv 4) qa_nil)) (qa_cons (qv 1) qa_nil))))))))
abbrev s_read_list : Stmt := topS 28
theorem sc_read_list : FnScope ["tokens", "at", "read_part", "parts", "part"] ["tokens", "at", "read_part"] (defScope s_read_list) := ⟨rfl, rfl, rfl, by decide +kernel, rfl, by decide +kernel, by decide +kernel⟩
def b_read_list (CA : CAT) : TDS := (dSeq (dAsg (dCallV CA 2 (dCons (dVar 0) (dCons (dVar 1) dNil))) (dGTup 2 (dGCons (dName 4) (dGCons (dName 1) dGNil))))
    (dSeq (dAsg (dLst (dCons (dVar 4) dNil)) (dName 3))
    (dSeq (dWhile (dB (dOp rEqD (dOp rIxD (dOp rIxD (dVar 0) (dVar 1)) (dC (.int 0))) (dC (.str ","))))
    (dSeq (dAsg (dCallV CA 2 (dCons (dVar 0) (dCons (dOp rAdd (dVar 1) (dC (.int 1))) dNil))) (dGTup 2 (dGCons (dName 4) (dGCons (dName 1) dGNil))))
    (dDrop (dBM isLst rApp (dVar 3) (dCons (dVar 4) dNil)))))
    (dRet (dTup (dCons (dCB rTuple (dCons (dVar 3) dNil)) (dCons (dVar 1) dNil)))))))
theorem ok_read_list {P : Program} {w : World} {K : PySem.W.Frag} {mg : Str → Option Value} {k : Nat} {d : DSp} (F : FunAt K mg "read_list" s_read_list ["tokens", "at", "read_part"]) (z_tuple : mg "tuple" = none)
    (len : ∀ ds m P EX, d ds m P EX → ds.length = 3) (rd : ∀ ds m Q EX, d ds m Q EX → Go Q (b_read_list (CalleeAt P w K mg k)) (dstart ["tokens", "at", "read_part", "parts", "part"] ds) m) : Callee P w K mg (k + 1) "read_list" ["tokens", "at", "read_part"] d :=
  F.callee sc_read_list len (b_read_list (CalleeAt P w K mg k)) rd fun base f cdv A outer s H E hr =>
    ((qss_cons (qs_asg (vs := [4, 1]) (qe_callV (i := 2) hr rfl (by first | exact Or.inl rfl | exact Or.inr (Or.inl rfl) | exact Or.inr (Or.inr rfl)) (qa_cons (qv 0) (qa_cons (qv 1) qa_nil))) (qg_tup rfl (qgs_cons (qg_name (i := 4) sc_read_list.nd rfl (by first | exact Or.inl rfl | exact Or.inr rfl) (by decide)) (qgs_cons (qg_name (i := 1) sc_read_list.nd rfl (by first | exact Or.inl rfl | exact Or.inr rfl) (by decide)) qgs_nil))))
    (qss_cons (qs_set (i := 3) sc_read_list.nd rfl (by first | exact Or.inl rfl | exact Or.inr rfl) (qe_lst (qa_cons (qv 4) qa_nil)))
    (qss_cons (qs_while PassesOwn.never (qt_cmp (od_eq hr.units) (qe_ix (qe_ix (qv 0) (qv 1) (fun _ _ => rfl)) qe_int (fun _ _ => rfl)) qe_str (nomark _))
    (qss_cons (qs_asg (vs := [4, 1]) (qe_callV (i := 2) hr rfl (by first | exact Or.inl rfl | exact Or.inr (Or.inl rfl) | exact Or.inr (Or.inr rfl)) (qa_cons (qv 0) (qa_cons (qe_op od_add (qv 1) qe_int) qa_nil))) (qg_tup rfl (qgs_cons (qg_name (i := 4) sc_read_list.nd rfl (by first | exact Or.inl rfl | exact Or.inr rfl) (by decide)) (qgs_cons (qg_name (i := 1) sc_read_list.nd rfl (by first | exact Or.inl rfl | exact Or.inr rfl) (by decide)) qgs_nil))))
    (qss_one (qs_expr (qe_bm md_append PySem.F.plainAttrs_list PySem.F.slot_list_append PySem.F.type_list_append (qv 3) (qa_cons (qv 4) qa_nil))))))
    (qss_one (qs_ret (qe_tup (qa_cons (qe_callTy cd_tuple (by rfl) z_tuple PyProof.Rows.boot_tuple (qa_cons (qv 3) qa_nil)) (qa_cons (qv 1) qa_nil)))))))))
abbrev s_read_enclosed_list : Stmt := topS 29
theorem sc_read_enclosed_list : FnScope ["tokens", "at", "read_part", "parts"] ["tokens", "at", "read_part"] (defScope s_read_enclosed_list) := ⟨rfl, rfl, rfl, by decide +kernel, rfl, by decide +kernel, by decide +kernel⟩
def b_read_enclosed_list (d_behind d_read_list : DSp) : TDS := (dSeq (dAsg (dCall d_behind (dCons (dVar 0) (dCons (dVar 1) (dCons (dC (.str "(")) dNil)))) (dName 1))
    (dSeq (dIf (dB (dOp rEqD (dOp rIxD (dOp rIxD (dVar 0) (dVar 1)) (dC (.int 0))) (dC (.str ")"))))
    (dRet (dTup (dCons (dTup dNil) (dCons (dOp rAdd (dVar 1) (dC (.int 1))) dNil))))
    dNext)
    (dSeq (dAsg (dCall d_read_list (dCons (dVar 0) (dCons (dVar 1) (dCons (dVar 2) dNil)))) (dGTup 2 (dGCons (dName 3) (dGCons (dName 1) dGNil))))
    (dRet (dTup (dCons (dVar 3) (dCons (dCall d_behind (dCons (dVar 0) (dCons (dVar 1) (dCons (dC (.str ")")) dNil)))) dNil)))))))
theorem ok_read_enclosed_list {P : Program} {w : World} {K : PySem.W.Frag} {mg : Str → Option Value} {k : Nat} {d d_behind d_read_list : DSp} (F : FunAt K mg "read_enclosed_list" s_read_enclosed_list ["tokens", "at", "read_part"]) (C_behind : Callee P w K mg k "behind" ["tokens", "at", "label"] d_behind) (C_read_list : Callee P w K mg k "read_list" ["tokens", "at", "read_part"] d_read_list)
    (len : ∀ ds m P EX, d ds m P EX → ds.length = 3) (rd : ∀ ds m Q EX, d ds m Q EX → Go Q (b_read_enclosed_list d_behind d_read_list) (dstart ["tokens", "at", "read_part", "parts"] ds) m) : Callee P w K mg (k + 1) "read_enclosed_list" ["tokens", "at", "read_part"] d :=
  F.callee sc_read_enclosed_list len (b_read_enclosed_list d_behind d_read_list) rd fun base f cdv A outer s H E hr =>
    ((qss_cons (qs_set (i := 1) sc_read_enclosed_list.nd rfl (by first | exact Or.inl rfl | exact Or.inr rfl) (qe_fn C_behind hr (by rfl) (qa_cons (qv 0) (qa_cons (qv 1) (qa_cons qe_str qa_nil)))))
    (qss_cons (qs_if (qt_cmp (od_eq hr.units) (qe_ix (qe_ix (qv 0) (qv 1) (fun _ _ => rfl)) qe_int (fun _ _ => rfl)) qe_str (nomark _))
    (qss_one (qs_ret (qe_tup (qa_cons (qe_tup qa_nil) (qa_cons (qe_op od_add (qv 1) qe_int) qa_nil)))))
    qss_nil)
    (qss_cons (qs_asg (vs := [3, 1]) (qe_fn C_read_list hr (by rfl) (qa_cons (qv 0) (qa_cons (qv 1) (qa_cons (qv 2) qa_nil)))) (qg_tup rfl (qgs_cons (qg_name (i := 3) sc_read_enclosed_list.nd rfl (by first | exact Or.inl rfl | exact Or.inr rfl) (by decide)) (qgs_cons (qg_name (i := 1) sc_read_enclosed_list.nd rfl (by first | exact Or.inl rfl | exact Or.inr rfl) (by decide)) qgs_nil))))
    (qss_one (qs_ret (qe_tup (qa_cons (qv 3) (qa_cons (qe_fn C_behind hr (by rfl) (qa_cons (qv 0) (qa_cons (qv 1) (qa_cons qe_str qa_nil)))) qa_nil)))))))))
abbrev s_read_declared_record : Stmt := topS 30
theorem sc_read_declared_record : FnScope ["tokens", "at", "name", "fields"] ["tokens", "at"] (defScope s_read_declared_record) := ⟨rfl, rfl, rfl, by decide +kernel, rfl, by decide +kernel, by decide +kernel⟩
def b_read_declared_record (CA : CAT) (d_read_token d_behind d_read_list v_read_field : DSp) : TDS := (dSeq (dAsg (dCall d_read_token (dCons (dVar 0) (dCons (dOp rAdd (dVar 1) (dC (.int 1))) (dCons (dC (.str "Name")) dNil)))) (dGTup 2 (dGCons (dName 2) (dGCons (dName 1) dGNil))))
    (dSeq (dAsg (dCall d_behind (dCons (dVar 0) (dCons (dVar 1) (dCons (dC (.str "{")) dNil)))) (dName 1))
    (dSeq (dAsg (dCall d_read_list (dCons (dVar 0) (dCons (dVar 1) (dCons (dFnV CA v_read_field) dNil)))) (dGTup 2 (dGCons (dName 3) (dGCons (dName 1) dGNil))))
    (dRet (dTup (dCons (dTup (dCons (dVar 2) (dCons (dVar 3) dNil))) (dCons (dCall d_behind (dCons (dVar 0) (dCons (dVar 1) (dCons (dC (.str "}")) dNil)))) dNil)))))))
theorem ok_read_declared_record {P : Program} {w : World} {K : PySem.W.Frag} {mg : Str → Option Value} {k kv : Nat} {d d_read_token d_behind d_read_list v_read_field : DSp} (F : FunAt K mg "read_declared_record" s_read_declared_record ["tokens", "at"]) (C_read_token : Callee P w K mg k "read_token" ["tokens", "at", "label"] d_read_token) (C_behind : Callee P w K mg k "behind" ["tokens", "at", "label"] d_behind) (C_read_list : Callee P w K mg k "read_list" ["tokens", "at", "read_part"] d_read_list) (V_read_field : Callee P w K mg kv "read_field" ["tokens", "at"] v_read_field)
    (len : ∀ ds m P EX, d ds m P EX → ds.length = 2) (rd : ∀ ds m Q EX, d ds m Q EX → Go Q (b_read_declared_record (CalleeAt P w K mg kv) d_read_token d_behind d_read_list v_read_field) (dstart ["tokens", "at", "name", "fields"] ds) m) : Callee P w K mg (k + 1) "read_declared_record" ["tokens", "at"] d :=
  F.callee sc_read_declared_record len (b_read_declared_record (CalleeAt P w K mg kv) d_read_token d_behind d_read_list v_read_field) rd fun base f cdv A outer s H E hr =>
    ((qss_cons (qs_asg (vs := [2, 1]) (qe_fn C_read_token hr (by rfl) (qa_cons (qv 0) (qa_cons (qe_op od_add (qv 1) qe_int) (qa_cons qe_str qa_nil)))) (qg_tup rfl (qgs_cons (qg_name (i := 2) sc_read_declared_record.nd rfl (by first | exact Or.inl rfl | exact Or.inr rfl) (by decide)) (qgs_cons (qg_name (i := 1) sc_read_declared_record.nd rfl (by first | exact Or.inl rfl | exact Or.inr rfl) (by decide)) qgs_nil))))
    (qss_cons (qs_set (i := 1) sc_read_declared_record.nd rfl (by first | exact Or.inl rfl | exact Or.inr rfl) (qe_fn C_behind hr (by rfl) (qa_cons (qv 0) (qa_cons (qv 1) (qa_cons qe_str qa_nil)))))
    (qss_cons (qs_asg (vs := [3, 1]) (qe_fn C_read_list hr (by rfl) (qa_cons (qv 0) (qa_cons (qv 1) (qa_cons (qe_fnV V_read_field (by rfl)) qa_nil)))) (qg_tup rfl (qgs_cons (qg_name (i := 3) sc_read_declared_record.nd rfl (by first | exact Or.inl rfl | exact Or.inr rfl) (by decide)) (qgs_cons (qg_name (i := 1) sc_read_declared_record.nd rfl (by first | exact Or.inl rfl | exact Or.inr rfl) (by decide)) qgs_nil))))
    (qss_one (qs_ret (qe_tup (qa_cons (qe_tup (qa_cons (qv 2) (qa_cons (qv 3) qa_nil))) (qa_cons (qe_fn C_behind hr (by rfl) (qa_cons (qv 0) (qa_cons (qv 1) (qa_cons qe_str qa_nil)))) qa_nil)))))))))
abbrev s_read_field : Stmt := topS 31
theorem sc_read_field : FnScope ["tokens", "at", "name", "kind"] ["tokens", "at"] (defScope s_read_field) := ⟨rfl, rfl, rfl, by decide +kernel, rfl, by decide +kernel, by decide +kernel⟩
def b_read_field (d_read_name d_behind d_read_kind : DSp) : TDS := (dSeq (dAsg (dCall d_read_name (dCons (dVar 0) (dCons (dVar 1) dNil))) (dGTup 2 (dGCons (dName 2) (dGCons (dName 1) dGNil))))
    (dSeq (dAsg (dCall d_behind (dCons (dVar 0) (dCons (dVar 1) (dCons (dC (.str ":")) dNil)))) (dName 1))
    (dSeq (dAsg (dCall d_read_kind (dCons (dVar 0) (dCons (dVar 1) dNil))) (dGTup 2 (dGCons (dName 3) (dGCons (dName 1) dGNil))))
    (dRet (dTup (dCons (dTup (dCons (dVar 2) (dCons (dVar 3) dNil))) (dCons (dVar 1) dNil)))))))
theorem ok_read_field {P : Program} {w : World} {K : PySem.W.Frag} {mg : Str → Option Value} {k : Nat} {d d_read_name d_behind d_read_kind : DSp} (F : FunAt K mg "read_field" s_read_field ["tokens", "at"]) (C_read_name : Callee P w K mg k "read_name" ["tokens", "at"] d_read_name) (C_behind : Callee P w K mg k "behind" ["tokens", "at", "label"] d_behind) (C_read_kind : Callee P w K mg k "read_kind" ["tokens", "at"] d_read_kind)
    (len : ∀ ds m P EX, d ds m P EX → ds.length = 2) (rd : ∀ ds m Q EX, d ds m Q EX → Go Q (b_read_field d_read_name d_behind d_read_kind) (dstart ["tokens", "at", "name", "kind"] ds) m) : Callee P w K mg (k + 1) "read_field" ["tokens", "at"] d :=
  F.callee sc_read_field len (b_read_field d_read_name d_behind d_read_kind) rd fun base f cdv A outer s H E hr =>
    ((qss_cons (qs_asg (vs := [2, 1]) (qe_fn C_read_name hr (by rfl) (qa_cons (qv 0) (qa_cons (qv 1) qa_nil))) (qg_tup rfl (qgs_cons (qg_name (i := 2) sc_read_field.nd rfl (by first | exact Or.inl rfl | exact Or.inr rfl) (by decide)) (qgs_cons (qg_name (i := 1) sc_read_field.nd rfl (by first | exact Or.inl rfl | exact Or.inr rfl) (by decide)) qgs_nil))))
    (qss_cons (qs_set (i := 1) sc_read_field.nd rfl (by first | exact Or.inl rfl | exact Or.inr rfl) (qe_fn C_behind hr (by rfl) (qa_cons (qv 0) (qa_cons (qv 1) (qa_cons qe_str qa_nil)))))
    (qss_cons (qs_asg (vs := [3, 1]) (qe_fn C_read_kind hr (by rfl) (qa_cons (qv 0) (qa_cons (qv 1) qa_nil))) (qg_tup rfl (qgs_cons (qg_name (i := 3) sc_read_field.nd rfl (by first | exact Or.inl rfl | exact Or.inr rfl) (by decide)) (qgs_cons (qg_name (i := 1) sc_read_field.nd rfl (by first | exact Or.inl rfl | exact Or.inr rfl) (by decide)) qgs_nil))))
    (qss_one (qs_ret (qe_tup (qa_cons (qe_tup (qa_cons (qv 2) (qa_cons (qv 3) qa_nil))) (qa_cons (qv 1) qa_nil)))))))))
abbrev s_read_function : Stmt := topS 32
theorem sc_read_function : FnScope ["tokens", "at", "sources", "name", "parameters", "result", "block"] ["tokens", "at"] (defScope s_read_function) := ⟨rfl, rfl, rfl, by decide +kernel, rfl, by decide +kernel, by decide +kernel⟩
def b_read_function (CA : CAT) (d_read_name d_read_enclosed_list d_behind d_read_kind d_read_list d_read_block v_read_field v_read_name : DSp) : TDS := (dSeq (dAsg (dCall d_read_name (dCons (dVar 0) (dCons (dOp rAdd (dVar 1) (dC (.int 1))) dNil))) (dGTup 2 (dGCons (dName 3) (dGCons (dName 1) dGNil))))
    (dSeq (dAsg (dCall d_read_enclosed_list (dCons (dVar 0) (dCons (dVar 1) (dCons (dFnV CA v_read_field) dNil)))) (dGTup 2 (dGCons (dName 4) (dGCons (dName 1) dGNil))))
    (dSeq (dAsg (dCall d_behind (dCons (dVar 0) (dCons (dVar 1) (dCons (dC (.str "->")) dNil)))) (dName 1))
    (dSeq (dAsg (dCall d_read_kind (dCons (dVar 0) (dCons (dVar 1) dNil))) (dGTup 2 (dGCons (dName 5) (dGCons (dName 1) dGNil))))
    (dSeq (dAsg (dTup dNil) (dName 2))
    (dSeq (dIf (dB (dOp rEqD (dOp rIxD (dOp rIxD (dVar 0) (dVar 1)) (dC (.int 0))) (dC (.str "from"))))
    (dAsg (dCall d_read_list (dCons (dVar 0) (dCons (dOp rAdd (dVar 1) (dC (.int 1))) (dCons (dFnV CA v_read_name) dNil)))) (dGTup 2 (dGCons (dName 2) (dGCons (dName 1) dGNil))))
    dNext)
    (dSeq (dAsg (dCall d_read_block (dCons (dVar 0) (dCons (dVar 1) dNil))) (dGTup 2 (dGCons (dName 6) (dGCons (dName 1) dGNil))))
    (dRet (dTup (dCons (dTup (dCons (dVar 3) (dCons (dVar 4) (dCons (dVar 5) (dCons (dVar 2) (dCons (dVar 6) dNil)))))) (dCons (dVar 1) dNil)))))))))))
theorem ok_read_function {P : Program} {w : World} {K : PySem.W.Frag} {mg : Str → Option Value} {k kv : Nat} {d d_read_name d_read_enclosed_list d_behind d_read_kind d_read_list d_read_block v_read_field v_read_name : DSp} (F : FunAt K mg "read_function" s_read_function ["tokens", "at"]) (C_read_name : Callee P w K mg k "read_name" ["tokens", "at"] d_read_name) (C_read_enclosed_list : Callee P w K mg k "read_enclosed_list" ["tokens", "at", "read_part"] d_read_enclosed_list) (C_behind : Callee P w K mg k "behind" ["tokens", "at", "label"] d_behind) (C_read_kind : Callee P w K mg k "read_kind" ["tokens", "at"] d_read_kind) (C_read_list : Callee P w K mg k "read_list" ["tokens", "at", "read_part"] d_read_list) (C_read_block : Callee P w K mg k "read_block" ["tokens", "at"] d_read_block) (V_read_field : Callee P w K mg kv "read_field" ["tokens", "at"] v_read_field) (V_read_name : Callee P w K mg kv "read_name" ["tokens", "at"] v_read_name)
    (len : ∀ ds m P EX, d ds m P EX → ds.length = 2) (rd : ∀ ds m Q EX, d ds m Q EX → Go Q (b_read_function (CalleeAt P w K mg kv) d_read_name d_read_enclosed_list d_behind d_read_kind d_read_list d_read_block v_read_field v_read_name) (dstart ["tokens", "at", "sources", "name", "parameters", "result", "block"] ds) m) : Callee P w K mg (k + 1) "read_function" ["tokens", "at"] d :=
  F.callee sc_read_function len (b_read_function (CalleeAt P w K mg kv) d_read_name d_read_enclosed_list d_behind d_read_kind d_read_list d_read_block v_read_field v_read_name) rd fun base f cdv A outer s H E hr =>
    ((qss_cons (qs_asg (vs := [3, 1]) (qe_fn C_read_name hr (by rfl) (qa_cons (qv 0) (qa_cons (qe_op od_add (qv 1) qe_int) qa_nil))) (qg_tup rfl (qgs_cons (qg_name (i := 3) sc_read_function.nd rfl (by first | exact Or.inl rfl | exact Or.inr rfl) (by decide)) (qgs_cons (qg_name (i := 1) sc_read_function.nd rfl (by first | exact Or.inl rfl | exact Or.inr rfl) (by decide)) qgs_nil))))
    (qss_cons (qs_asg (vs := [4, 1]) (qe_fn C_read_enclosed_list hr (by rfl) (qa_cons (qv 0) (qa_cons (qv 1) (qa_cons (qe_fnV V_read_field (by rfl)) qa_nil)))) (qg_tup rfl (qgs_cons (qg_name (i := 4) sc_read_function.nd rfl (by first | exact Or.inl rfl | exact Or.inr rfl) (by decide)) (qgs_cons (qg_name (i := 1) sc_read_function.nd rfl (by first | exact Or.inl rfl | exact Or.inr rfl) (by decide)) qgs_nil))))
    (qss_cons (qs_set (i := 1) sc_read_function.nd rfl (by first | exact Or.inl rfl | exact Or.inr rfl) (qe_fn C_behind hr (by rfl) (qa_cons (qv 0) (qa_cons (qv 1) (qa_cons qe_str qa_nil)))))
    (qss_cons (qs_asg (vs := [5, 1]) (qe_fn C_read_kind hr (by rfl) (qa_cons (qv 0) (qa_cons (qv 1) qa_nil))) (qg_tup rfl (qgs_cons (qg_name (i := 5) sc_read_function.nd rfl (by first | exact Or.inl rfl | exact Or.inr rfl) (by decide)) (qgs_cons (qg_name (i := 1) sc_read_function.nd rfl (by first | exact Or.inl rfl | exact Or.inr rfl) (by decide)) qgs_nil))))
    (qss_cons (qs_set (i := 2) sc_read_function.nd rfl (by first | exact Or.inl rfl | exact Or.inr rfl) (qe_tup qa_nil))
    (qss_cons (qs_if (qt_cmp (od_eq hr.units) (qe_ix (qe_ix (qv 0) (qv 1) (fun _ _ => rfl)) qe_int (fun _ _ => rfl)) qe_str (nomark _))
    (qss_one (qs_asg (vs := [2, 1]) (qe_fn C_read_list hr (by rfl) (qa_cons (qv 0) (qa_cons (qe_op od_add (qv 1) qe_int) (qa_cons (qe_fnV V_read_name (by rfl)) qa_nil)))) (qg_tup rfl (qgs_cons (qg_name (i := 2) sc_read_function.nd rfl (by first | exact Or.inl rfl | exact Or.inr rfl) (by decide)) (qgs_cons (qg_name (i := 1) sc_read_function.nd rfl (by first | exact Or.inl rfl | exact Or.inr rfl) (by decide)) qgs_nil)))))
    qss_nil)
    (qss_cons (qs_asg (vs := [6, 1]) (qe_fn C_read_block hr (by rfl) (qa_cons (qv 0) (qa_cons (qv 1) qa_nil))) (qg_tup rfl (qgs_cons (qg_name (i := 6) sc_read_function.nd rfl (by first | exact Or.inl rfl | exact Or.inr rfl) (by decide)) (qgs_cons (qg_name (i := 1) sc_read_function.nd rfl (by first | exact Or.inl rfl | exact Or.inr rfl) (by decide)) qgs_nil))))
    (qss_one (qs_ret (qe_tup (qa_cons (qe_tup (qa_cons (qv 3) (qa_cons (qv 4) (qa_cons (qv 5) (qa_cons (qv 2) (qa_cons (qv 6) qa_nil)))))) (qa_cons (qv 1) qa_nil)))))))))))))
abbrev s_read_kind : Stmt := topS 33
theorem sc_read_kind : FnScope ["tokens", "at", "label", "text", "part", "mode"] ["tokens", "at"] (defScope s_read_kind) := ⟨rfl, rfl, rfl, by decide +kernel, rfl, by decide +kernel, by decide +kernel⟩
def b_read_kind (d_read_kind d_read_mode d_read_tuple_kind : DSp) : TDS := (dSeq (dAsg (dSl (dOp rIxD (dVar 0) (dVar 1)) dNoPart (dPart (dC (.int 2)))) (dGTup 2 (dGCons (dName 2) (dGCons (dName 3) dGNil))))
    (dSeq (dIf (dB (dOp rInD (dVar 2) (dTup (dCons (dC (.str "int")) (dCons (dC (.str "bool")) (dCons (dC (.str "unit")) dNil))))))
    (dRet (dTup (dCons (dTup (dCons (dVar 2) dNil)) (dCons (dOp rAdd (dVar 1) (dC (.int 1))) dNil))))
    dNext)
    (dSeq (dIf (dB (dOp rEqD (dVar 2) (dC (.str "Name"))))
    (dRet (dTup (dCons (dTup (dCons (dC (.str "record")) (dCons (dVar 3) dNil))) (dCons (dOp rAdd (dVar 1) (dC (.int 1))) dNil))))
    dNext)
    (dSeq (dIf (dB (dOp rInD (dVar 2) (dTup (dCons (dC (.str "box")) (dCons (dC (.str "maybe")) dNil)))))
    (dSeq (dAsg (dCall d_read_kind (dCons (dVar 0) (dCons (dOp rAdd (dVar 1) (dC (.int 1))) dNil))) (dGTup 2 (dGCons (dName 4) (dGCons (dName 1) dGNil))))
    (dRet (dTup (dCons (dTup (dCons (dVar 2) (dCons (dVar 4) dNil))) (dCons (dVar 1) dNil)))))
    dNext)
    (dSeq (dIf (dB (dOp rEqD (dVar 2) (dC (.str "&"))))
    (dSeq (dAsg (dCall d_read_mode (dCons (dVar 0) (dCons (dVar 1) dNil))) (dGTup 2 (dGCons (dName 5) (dGCons (dName 1) dGNil))))
    (dSeq (dAsg (dCall d_read_kind (dCons (dVar 0) (dCons (dVar 1) dNil))) (dGTup 2 (dGCons (dName 4) (dGCons (dName 1) dGNil))))
    (dRet (dTup (dCons (dTup (dCons (dVar 5) (dCons (dVar 4) dNil))) (dCons (dVar 1) dNil))))))
    dNext)
    (dRet (dCall d_read_tuple_kind (dCons (dVar 0) (dCons (dVar 1) dNil)))))))))
theorem ok_read_kind {P : Program} {w : World} {K : PySem.W.Frag} {mg : Str → Option Value} {k : Nat} {d d_read_kind d_read_mode d_read_tuple_kind : DSp} (F : FunAt K mg "read_kind" s_read_kind ["tokens", "at"]) (C_read_kind : Callee P w K mg k "read_kind" ["tokens", "at"] d_read_kind) (C_read_mode : Callee P w K mg k "read_mode" ["tokens", "at"] d_read_mode) (C_read_tuple_kind : Callee P w K mg k "read_tuple_kind" ["tokens", "at"] d_read_tuple_kind)
    (len : ∀ ds m P EX, d ds m P EX → ds.length = 2) (rd : ∀ ds m Q EX, d ds m Q EX → Go Q (b_read_kind d_read_kind d_read_mode d_read_tuple_kind) (dstart ["tokens", "at", "label", "text", "part", "mode"] ds) m) : Callee P w K mg (k + 1) "read_kind" ["tokens", "at"] d :=
  F.callee sc_read_kind len (b_read_kind d_read_kind d_read_mode d_read_tuple_kind) rd fun base f cdv A outer s H E hr =>
    ((qss_cons (qs_asg (vs := [2, 3]) (qe_slice (qe_ix (qv 0) (qv 1) (fun _ _ => rfl)) qo_none (qo_some qe_int)) (qg_tup rfl (qgs_cons (qg_name (i := 2) sc_read_kind.nd rfl (by first | exact Or.inl rfl | exact Or.inr rfl) (by decide)) (qgs_cons (qg_name (i := 3) sc_read_kind.nd rfl (by first | exact Or.inl rfl | exact Or.inr rfl) (by decide)) qgs_nil))))
    (qss_cons (qs_if (qt_cmp od_inD (qv 2) (qe_tup (qa_cons qe_str (qa_cons qe_str (qa_cons qe_str qa_nil)))) (by rfl))
    (qss_one (qs_ret (qe_tup (qa_cons (qe_tup (qa_cons (qv 2) qa_nil)) (qa_cons (qe_op od_add (qv 1) qe_int) qa_nil)))))
    qss_nil)
    (qss_cons (qs_if (qt_cmp (od_eq hr.units) (qv 2) qe_str (nomark _))
    (qss_one (qs_ret (qe_tup (qa_cons (qe_tup (qa_cons qe_str (qa_cons (qv 3) qa_nil))) (qa_cons (qe_op od_add (qv 1) qe_int) qa_nil)))))
    qss_nil)
    (qss_cons (qs_if (qt_cmp od_inD (qv 2) (qe_tup (qa_cons qe_str (qa_cons qe_str qa_nil))) (by rfl))
    (qss_cons (qs_asg (vs := [4, 1]) (qe_fn C_read_kind hr (by rfl) (qa_cons (qv 0) (qa_cons (qe_op od_add (qv 1) qe_int) qa_nil))) (qg_tup rfl (qgs_cons (qg_name (i := 4) sc_read_kind.nd rfl (by first | exact Or.inl rfl | exact Or.inr rfl) (by decide)) (qgs_cons (qg_name (i := 1) sc_read_kind.nd rfl (by first | exact Or.inl rfl | exact Or.inr rfl) (by decide)) qgs_nil))))
    (qss_one (qs_ret (qe_tup (qa_cons (qe_tup (qa_cons (qv 2) (qa_cons (qv 4) qa_nil))) (qa_cons (qv 1) qa_nil))))))
    qss_nil)
    (qss_cons (qs_if (qt_cmp (od_eq hr.units) (qv 2) qe_str (nomark _))
    (qss_cons (qs_asg (vs := [5, 1]) (qe_fn C_read_mode hr (by rfl) (qa_cons (qv 0) (qa_cons (qv 1) qa_nil))) (qg_tup rfl (qgs_cons (qg_name (i := 5) sc_read_kind.nd rfl (by first | exact Or.inl rfl | exact Or.inr rfl) (by decide)) (qgs_cons (qg_name (i := 1) sc_read_kind.nd rfl (by first | exact Or.inl rfl | exact Or.inr rfl) (by decide)) qgs_nil))))
    (qss_cons (qs_asg (vs := [4, 1]) (qe_fn C_read_kind hr (by rfl) (qa_cons (qv 0) (qa_cons (qv 1) qa_nil))) (qg_tup rfl (qgs_cons (qg_name (i := 4) sc_read_kind.nd rfl (by first | exact Or.inl rfl | exact Or.inr rfl) (by decide)) (qgs_cons (qg_name (i := 1) sc_read_kind.nd rfl (by first | exact Or.inl rfl | exact Or.inr rfl) (by decide)) qgs_nil))))
    (qss_one (qs_ret (qe_tup (qa_cons (qe_tup (qa_cons (qv 5) (qa_cons (qv 4) qa_nil))) (qa_cons (qv 1) qa_nil)))))))
    qss_nil)
    (qss_one (qs_ret (qe_fn C_read_tuple_kind hr (by rfl) (qa_cons (qv 0) (qa_cons (qv 1) qa_nil)))))))))))
abbrev s_read_mode : Stmt := topS 34
theorem sc_read_mode : FnScope ["tokens", "at"] ["tokens", "at"] (defScope s_read_mode) := ⟨rfl, rfl, rfl, by decide +kernel, rfl, by decide +kernel, by decide +kernel⟩
def b_read_mode (d_behind : DSp) : TDS := (dSeq (dAsg (dCall d_behind (dCons (dVar 0) (dCons (dVar 1) (dCons (dC (.str "&")) dNil)))) (dName 1))
    (dSeq (dIf (dB (dOp rEqD (dOp rIxD (dOp rIxD (dVar 0) (dVar 1)) (dC (.int 0))) (dC (.str "mut"))))
    (dRet (dTup (dCons (dC (.str "exclusive")) (dCons (dOp rAdd (dVar 1) (dC (.int 1))) dNil))))
    dNext)
    (dRet (dTup (dCons (dC (.str "shared")) (dCons (dVar 1) dNil))))))
theorem ok_read_mode {P : Program} {w : World} {K : PySem.W.Frag} {mg : Str → Option Value} {k : Nat} {d d_behind : DSp} (F : FunAt K mg "read_mode" s_read_mode ["tokens", "at"]) (C_behind : Callee P w K mg k "behind" ["tokens", "at", "label"] d_behind)
    (len : ∀ ds m P EX, d ds m P EX → ds.length = 2) (rd : ∀ ds m Q EX, d ds m Q EX → Go Q (b_read_mode d_behind) (dstart ["tokens", "at"] ds) m) : Callee P w K mg (k + 1) "read_mode" ["tokens", "at"] d :=
  F.callee sc_read_mode len (b_read_mode d_behind) rd fun base f cdv A outer s H E hr =>
    ((qss_cons (qs_set (i := 1) sc_read_mode.nd rfl (by first | exact Or.inl rfl | exact Or.inr rfl) (qe_fn C_behind hr (by rfl) (qa_cons (qv 0) (qa_cons (qv 1) (qa_cons qe_str qa_nil)))))
    (qss_cons (qs_if (qt_cmp (od_eq hr.units) (qe_ix (qe_ix (qv 0) (qv 1) (fun _ _ => rfl)) qe_int (fun _ _ => rfl)) qe_str (nomark _))
    (qss_one (qs_ret (qe_tup (qa_cons qe_str (qa_cons (qe_op od_add (qv 1) qe_int) qa_nil)))))
    qss_nil)
    (qss_one (qs_ret (qe_tup (qa_cons qe_str (qa_cons (qv 1) qa_nil))))))))
abbrev s_read_tuple_kind : Stmt := topS 35
theorem sc_read_tuple_kind : FnScope ["tokens", "at", "first", "others"] ["tokens", "at"] (defScope s_read_tuple_kind) := ⟨rfl, rfl, rfl, by decide +kernel, rfl, by decide +kernel, by decide +kernel⟩
def b_read_tuple_kind (CA : CAT) (d_behind d_read_kind d_read_list v_read_kind : DSp) : TDS := (dSeq (dAsg (dCall d_behind (dCons (dVar 0) (dCons (dVar 1) (dCons (dC (.str "(")) dNil)))) (dName 1))
    (dSeq (dAsg (dCall d_read_kind (dCons (dVar 0) (dCons (dVar 1) dNil))) (dGTup 2 (dGCons (dName 2) (dGCons (dName 1) dGNil))))
    (dSeq (dAsg (dCall d_behind (dCons (dVar 0) (dCons (dVar 1) (dCons (dC (.str ",")) dNil)))) (dName 1))
    (dSeq (dAsg (dCall d_read_list (dCons (dVar 0) (dCons (dVar 1) (dCons (dFnV CA v_read_kind) dNil)))) (dGTup 2 (dGCons (dName 3) (dGCons (dName 1) dGNil))))
    (dRet (dTup (dCons (dTup (dCons (dC (.str "tuple")) (dCons (dOp rAdd (dTup (dCons (dVar 2) dNil)) (dVar 3)) dNil))) (dCons (dCall d_behind (dCons (dVar 0) (dCons (dVar 1) (dCons (dC (.str ")")) dNil)))) dNil))))))))
theorem ok_read_tuple_kind {P : Program} {w : World} {K : PySem.W.Frag} {mg : Str → Option Value} {k kv : Nat} {d d_behind d_read_kind d_read_list v_read_kind : DSp} (F : FunAt K mg "read_tuple_kind" s_read_tuple_kind ["tokens", "at"]) (C_behind : Callee P w K mg k "behind" ["tokens", "at", "label"] d_behind) (C_read_kind : Callee P w K mg k "read_kind" ["tokens", "at"] d_read_kind) (C_read_list : Callee P w K mg k "read_list" ["tokens", "at", "read_part"] d_read_list) (V_read_kind : Callee P w K mg kv "read_kind" ["tokens", "at"] v_read_kind)
    (len : ∀ ds m P EX, d ds m P EX → ds.length = 2) (rd : ∀ ds m Q EX, d ds m Q EX → Go Q (b_read_tuple_kind (CalleeAt P w K mg kv) d_behind d_read_kind d_read_list v_read_kind) (dstart ["tokens", "at", "first", "others"] ds) m) : Callee P w K mg (k + 1) "read_tuple_kind" ["tokens", "at"] d :=
  F.callee sc_read_tuple_kind len (b_read_tuple_kind (CalleeAt P w K mg kv) d_behind d_read_kind d_read_list v_read_kind) rd fun base f cdv A outer s H E hr =>
    ((qss_cons (qs_set (i := 1) sc_read_tuple_kind.nd rfl (by first | exact Or.inl rfl | exact Or.inr rfl) (qe_fn C_behind hr (by rfl) (qa_cons (qv 0) (qa_cons (qv 1) (qa_cons qe_str qa_nil)))))
    (qss_cons (qs_asg (vs := [2, 1]) (qe_fn C_read_kind hr (by rfl) (qa_cons (qv 0) (qa_cons (qv 1) qa_nil))) (qg_tup rfl (qgs_cons (qg_name (i := 2) sc_read_tuple_kind.nd rfl (by first | exact Or.inl rfl | exact Or.inr rfl) (by decide)) (qgs_cons (qg_name (i := 1) sc_read_tuple_kind.nd rfl (by first | exact Or.inl rfl | exact Or.inr rfl) (by decide)) qgs_nil))))
    (qss_cons (qs_set (i := 1) sc_read_tuple_kind.nd rfl (by first | exact Or.inl rfl | exact Or.inr rfl) (qe_fn C_behind hr (by rfl) (qa_cons (qv 0) (qa_cons (qv 1) (qa_cons qe_str qa_nil)))))
    (qss_cons (qs_asg (vs := [3, 1]) (qe_fn C_read_list hr (by rfl) (qa_cons (qv 0) (qa_cons (qv 1) (qa_cons (qe_fnV V_read_kind (by rfl)) qa_nil)))) (qg_tup rfl (qgs_cons (qg_name (i := 3) sc_read_tuple_kind.nd rfl (by first | exact Or.inl rfl | exact Or.inr rfl) (by decide)) (qgs_cons (qg_name (i := 1) sc_read_tuple_kind.nd rfl (by first | exact Or.inl rfl | exact Or.inr rfl) (by decide)) qgs_nil))))
    (qss_one (qs_ret (qe_tup (qa_cons (qe_tup (qa_cons qe_str (qa_cons (qe_op od_add (qe_tup (qa_cons (qv 2) qa_nil)) (qv 3)) qa_nil))) (qa_cons (qe_fn C_behind hr (by rfl) (qa_cons (qv 0) (qa_cons (qv 1) (qa_cons qe_str qa_nil)))) qa_nil))))))))))
abbrev s_read_block : Stmt := topS 36
theorem sc_read_block : FnScope ["tokens", "at", "statements", "statement"] ["tokens", "at"] (defScope s_read_block) := ⟨rfl, rfl, rfl, by decide +kernel, rfl, by decide +kernel, by decide +kernel⟩
def b_read_block (d_behind d_read_statement : DSp) : TDS := (dSeq (dAsg (dCall d_behind (dCons (dVar 0) (dCons (dVar 1) (dCons (dC (.str "{")) dNil)))) (dName 1))
    (dSeq (dAsg (dLst dNil) (dName 2))
    (dSeq (dWhile (dB (dOp rNeD (dOp rIxD (dOp rIxD (dVar 0) (dVar 1)) (dC (.int 0))) (dC (.str "}"))))
    (dSeq (dAsg (dCall d_read_statement (dCons (dVar 0) (dCons (dVar 1) dNil))) (dGTup 2 (dGCons (dName 3) (dGCons (dName 1) dGNil))))
    (dDrop (dBM isLst rApp (dVar 2) (dCons (dVar 3) dNil)))))
    (dRet (dTup (dCons (dCB rTuple (dCons (dVar 2) dNil)) (dCons (dOp rAdd (dVar 1) (dC (.int 1))) dNil)))))))
theorem ok_read_block {P : Program} {w : World} {K : PySem.W.Frag} {mg : Str → Option Value} {k : Nat} {d d_behind d_read_statement : DSp} (F : FunAt K mg "read_block" s_read_block ["tokens", "at"]) (C_behind : Callee P w K mg k "behind" ["tokens", "at", "label"] d_behind) (C_read_statement : Callee P w K mg k "read_statement" ["tokens", "at"] d_read_statement) (z_tuple : mg "tuple" = none)
    (len : ∀ ds m P EX, d ds m P EX → ds.length = 2) (rd : ∀ ds m Q EX, d ds m Q EX → Go Q (b_read_block d_behind d_read_statement) (dstart ["tokens", "at", "statements", "statement"] ds) m) : Callee P w K mg (k + 1) "read_block" ["tokens", "at"] d :=
  F.callee sc_read_block len (b_read_block d_behind d_read_statement) rd fun base f cdv A outer s H E hr =>
    ((qss_cons (qs_set (i := 1) sc_read_block.nd rfl (by first | exact Or.inl rfl | exact Or.inr rfl) (qe_fn C_behind hr (by rfl) (qa_cons (qv 0) (qa_cons (qv 1) (qa_cons qe_str qa_nil)))))
    (qss_cons (qs_set (i := 2) sc_read_block.nd rfl (by first | exact Or.inl rfl | exact Or.inr rfl) (qe_lst qa_nil))
    (qss_cons (qs_while PassesOwn.never (qt_cmp (od_ne hr.units) (qe_ix (qe_ix (qv 0) (qv 1) (fun _ _ => rfl)) qe_int (fun _ _ => rfl)) qe_str (nomark _))
    (qss_cons (qs_asg (vs := [3, 1]) (qe_fn C_read_statement hr (by rfl) (qa_cons (qv 0) (qa_cons (qv 1) qa_nil))) (qg_tup rfl (qgs_cons (qg_name (i := 3) sc_read_block.nd rfl (by first | exact Or.inl rfl | exact Or.inr rfl) (by decide)) (qgs_cons (qg_name (i := 1) sc_read_block.nd rfl (by first | exact Or.inl rfl | exact Or.inr rfl) (by decide)) qgs_nil))))
    (qss_one (qs_expr (qe_bm md_append PySem.F.plainAttrs_list PySem.F.slot_list_append PySem.F.type_list_append (qv 2) (qa_cons (qv 3) qa_nil))))))
    (qss_one (qs_ret (qe_tup (qa_cons (qe_callTy cd_tuple (by rfl) z_tuple PyProof.Rows.boot_tuple (qa_cons (qv 2) qa_nil)) (qa_cons (qe_op od_add (qv 1) qe_int) qa_nil)))))))))
abbrev s_read_statement : Stmt := topS 37
abbrev s_law_pick : Stmt := topS 54
theorem sc_law_pick : FnScope ["state", "script", "many", "place", "number", "cell"] ["state", "script", "many"] (defScope s_law_pick) := ⟨rfl, rfl, rfl, by decide +kernel, rfl, by decide +kernel, by decide +kernel⟩
def b_law_pick : TDS := (dSeq (dIf (dB (dOp rGtD (dOp rIxD (dVar 0) (dC (.int 1))) (dC (.int 0))))
    (dSeq (dAsg (dOp rMod (dCB rInt (dCons (dOp rIxD (dVar 0) (dC (.int 1))) dNil)) (dVar 2)) (dName 4))
    (dSeq (dAsg (dOp rFdiv (dOp rIxD (dVar 0) (dC (.int 1))) (dVar 2)) (dGSub (dVar 0) (dC (.int 1))))
    (dRet (dVar 4))))
    dNext)
    (dSeq (dAsg (dOp rIxD (dVar 0) (dC (.int 0))) (dName 3))
    (dSeq (dAsg (dOp rAdd (dVar 3) (dC (.int 1))) (dGSub (dVar 0) (dC (.int 0))))
    (dSeq (dIf (dB (dOp rLtD (dVar 3) (dCB rLen (dCons (dVar 1) dNil))))
    (dSeq (dAsg (dCB rAbs (dCons (dCB rInt (dCons (dOp rIxD (dVar 1) (dVar 3)) dNil)) dNil)) (dName 5))
    (dSeq (dIf (dB (dOp rGeD (dVar 5) (dOp rPow (dC (.int 10)) (dC (.int 18)))))
    (dSeq (dAsg (dOp rFdiv (dVar 5) (dVar 2)) (dGSub (dVar 0) (dC (.int 1))))
    (dRet (dOp rMod (dCB rInt (dCons (dVar 5) dNil)) (dVar 2))))
    dNext)
    (dAsg (dOp rMod (dCB rInt (dCons (dOp rAdd (dOp rAdd (dOp rMul (dOp rIxD (dVar 0) (dC (.int 2))) (dC (.int 40014))) (dOp rMul (dVar 5) (dC (.int 69621)))) (dC (.int 17))) dNil)) (dC (.int 2147483563))) (dGSub (dVar 0) (dC (.int 2))))))
    dNext)
    (dSeq (dAsg (dOp rMod (dCB rInt (dCons (dOp rAdd (dOp rAdd (dOp rMul (dOp rIxD (dVar 0) (dC (.int 2))) (dC (.int 48271))) (dOp rMul (dC (.int 11)) (dVar 3))) (dC (.int 5))) dNil)) (dC (.int 2147483647))) (dGSub (dVar 0) (dC (.int 2))))
    (dRet (dOp rMod (dCB rInt (dCons (dOp rFdiv (dOp rMul (dOp rIxD (dVar 0) (dC (.int 2))) (dOp rIxD (dVar 0) (dC (.int 2)))) (dC (.int 8191))) dNil)) (dVar 2))))))))
theorem ok_law_pick {P : Program} {w : World} {K : PySem.W.Frag} {mg : Str → Option Value} {k : Nat} {d : DSp} (F : FunAt K mg "_law_pick" s_law_pick ["state", "script", "many"]) (z_int : mg "int" = none) (z_len : mg "len" = none) (z_abs : mg "abs" = none)
    (len : ∀ ds m P EX, d ds m P EX → ds.length = 3) (rd : ∀ ds m Q EX, d ds m Q EX → Go Q (b_law_pick) (dstart ["state", "script", "many", "place", "number", "cell"] ds) m) : Callee P w K mg (k + 1) "_law_pick" ["state", "script", "many"] d :=
  F.callee sc_law_pick len (b_law_pick) rd fun base f cdv A outer s H E hr =>
    ((qss_cons (qs_if (qt_cmp od_gt (qe_ix (qv 0) qe_int (fun _ _ => rfl)) qe_int (nomark _))
    (qss_cons (qs_set (i := 4) sc_law_pick.nd rfl (by first | exact Or.inl rfl | exact Or.inr rfl) (qe_op od_mod (qe_callTy cd_int (by rfl) z_int PyProof.Rows.boot_int (qa_cons (qe_ix (qv 0) qe_int (fun _ _ => rfl)) qa_nil)) (qv 2)))
    (qss_cons (qs_asg (vs := []) (qe_op od_fdiv (qe_ix (qv 0) qe_int (fun _ _ => rfl)) (qv 2)) (qg_sub (qv 0) qe_int))
    (qss_one (qs_ret (qv 4)))))
    qss_nil)
    (qss_cons (qs_set (i := 3) sc_law_pick.nd rfl (by first | exact Or.inl rfl | exact Or.inr rfl) (qe_ix (qv 0) qe_int (fun _ _ => rfl)))
    (qss_cons (qs_asg (vs := []) (qe_op od_add (qv 3) qe_int) (qg_sub (qv 0) qe_int))
    (qss_cons (qs_if (qt_cmp od_lt (qv 3) (qe_callB (cd_len) (by rfl) z_len PySem.boot_len (qa_cons (qv 1) qa_nil)) (nomark _))
    (qss_cons (qs_set (i := 5) sc_law_pick.nd rfl (by first | exact Or.inl rfl | exact Or.inr rfl) (qe_callB (cd_abs) (by rfl) z_abs PyProof.Rows.boot_abs (qa_cons (qe_callTy cd_int (by rfl) z_int PyProof.Rows.boot_int (qa_cons (qe_ix (qv 1) (qv 3) (fun _ _ => rfl)) qa_nil)) qa_nil)))
    (qss_cons (qs_if (qt_cmp od_ge (qv 5) (qe_op od_pow qe_int qe_int) (nomark _))
    (qss_cons (qs_asg (vs := []) (qe_op od_fdiv (qv 5) (qv 2)) (qg_sub (qv 0) qe_int))
    (qss_one (qs_ret (qe_op od_mod (qe_callTy cd_int (by rfl) z_int PyProof.Rows.boot_int (qa_cons (qv 5) qa_nil)) (qv 2)))))
    qss_nil)
    (qss_one (qs_asg (vs := []) (qe_op od_mod (qe_callTy cd_int (by rfl) z_int PyProof.Rows.boot_int (qa_cons (qe_op od_add (qe_op od_add (qe_op od_mul (qe_ix (qv 0) qe_int (fun _ _ => rfl)) qe_int) (qe_op od_mul (qv 5) qe_int)) qe_int) qa_nil)) qe_int) (qg_sub (qv 0) qe_int)))))
    qss_nil)
    (qss_cons (qs_asg (vs := []) (qe_op od_mod (qe_callTy cd_int (by rfl) z_int PyProof.Rows.boot_int (qa_cons (qe_op od_add (qe_op od_add (qe_op od_mul (qe_ix (qv 0) qe_int (fun _ _ => rfl)) qe_int) (qe_op od_mul qe_int (qv 3))) qe_int) qa_nil)) qe_int) (qg_sub (qv 0) qe_int))
    (qss_one (qs_ret (qe_op od_mod (qe_callTy cd_int (by rfl) z_int PyProof.Rows.boot_int (qa_cons (qe_op od_fdiv (qe_op od_mul (qe_ix (qv 0) qe_int (fun _ _ => rfl)) (qe_ix (qv 0) qe_int (fun _ _ => rfl))) qe_int) qa_nil)) (qv 2))))))))))
abbrev s_law_words : Stmt := topS 55
theorem sc_law_words : FnScope ["words"] [] (defScope s_law_words) := ⟨rfl, rfl, rfl, by decide +kernel, rfl, by decide +kernel, by decide +kernel⟩
def b_law_words : TDS := (dSeq (dAsg (dLst (dCons (dC (.str "and")) (dCons (dC (.str "bool")) (dCons (dC (.str "box")) (dCons (dC (.str "do")) (dCons (dC (.str "else")) (dCons (dC (.str "false")) (dCons (dC (.str "fn")) (dCons (dC (.str "from")) (dCons (dC (.str "if")) (dCons (dC (.str "int")) (dCons (dC (.str "is")) (dCons (dC (.str "let")) (dCons (dC (.str "maybe")) (dCons (dC (.str "mut")) dNil))))))))))))))) (dName 0))
    (dSeq (dAsg (dOp rAdd (dVar 0) (dLst (dCons (dC (.str "none")) (dCons (dC (.str "not")) (dCons (dC (.str "or")) (dCons (dC (.str "print")) (dCons (dC (.str "record")) (dCons (dC (.str "return")) (dCons (dC (.str "some")) (dCons (dC (.str "swap")) (dCons (dC (.str "true")) (dCons (dC (.str "unbox")) dNil)))))))))))) (dName 0))
    (dRet (dOp rAdd (dVar 0) (dLst (dCons (dC (.str "unit")) (dCons (dC (.str "while")) (dCons (dC (.str "with")) dNil))))))))
theorem ok_law_words {P : Program} {w : World} {K : PySem.W.Frag} {mg : Str → Option Value} {k : Nat} {d : DSp} (F : FunAt K mg "_law_words" s_law_words [])
    (len : ∀ ds m P EX, d ds m P EX → ds.length = 0) (rd : ∀ ds m Q EX, d ds m Q EX → Go Q (b_law_words) (dstart ["words"] ds) m) : Callee P w K mg (k + 1) "_law_words" [] d :=
  F.callee sc_law_words len (b_law_words) rd fun base f cdv A outer s H E hr =>
    ((qss_cons (qs_set (i := 0) sc_law_words.nd rfl (by first | exact Or.inl rfl | exact Or.inr rfl) (qe_lst (qa_cons qe_str (qa_cons qe_str (qa_cons qe_str (qa_cons qe_str (qa_cons qe_str (qa_cons qe_str (qa_cons qe_str (qa_cons qe_str (qa_cons qe_str (qa_cons qe_str (qa_cons qe_str (qa_cons qe_str (qa_cons qe_str (qa_cons qe_str qa_nil))))))))))))))))
    (qss_cons (qs_set (i := 0) sc_law_words.nd rfl (by first | exact Or.inl rfl | exact Or.inr rfl) (qe_op od_add (qv 0) (qe_lst (qa_cons qe_str (qa_cons qe_str (qa_cons qe_str (qa_cons qe_str (qa_cons qe_str (qa_cons qe_str (qa_cons qe_str (qa_cons qe_str (qa_cons qe_str (qa_cons qe_str qa_nil)))))))))))))
    (qss_one (qs_ret (qe_op od_add (qv 0) (qe_lst (qa_cons qe_str (qa_cons qe_str (qa_cons qe_str qa_nil))))))))))
abbrev s_law_name : Stmt := topS 56
theorem sc_law_name : FnScope ["state", "script", "letters", "chars", "size", "word", "k"] ["state", "script"] (defScope s_law_name) := ⟨rfl, rfl, rfl, by decide +kernel, rfl, by decide +kernel, by decide +kernel⟩
def b_law_name (d_law_pick d_law_words : DSp) : TDS := (dSeq (dAsg (dC (.str "abcdefghijklmnopqrstuvwxyz")) (dName 2))
    (dSeq (dAsg (dOp rAdd (dVar 2) (dC (.str "0123456789_"))) (dName 3))
    (dSeq (dAsg (dOp rAdd (dC (.int 1)) (dCall d_law_pick (dCons (dVar 0) (dCons (dVar 1) (dCons (dC (.int 4)) dNil))))) (dName 4))
    (dSeq (dIf (dB (dOp rEqD (dVar 4) (dC (.int 4))))
    (dAsg (dOp rAdd (dC (.int 1)) (dCall d_law_pick (dCons (dVar 0) (dCons (dVar 1) (dCons (dC (.int 20)) dNil))))) (dName 4))
    dNext)
    (dSeq (dAsg (dOp rIxD (dVar 2) (dCall d_law_pick (dCons (dVar 0) (dCons (dVar 1) (dCons (dC (.int 26)) dNil))))) (dName 5))
    (dSeq (dForR1 (dCons (dOp rSub (dVar 4) (dC (.int 1))) dNil) (dName 6)
    (dAsg (dOp rAdd (dVar 5) (dOp rIxD (dVar 3) (dCall d_law_pick (dCons (dVar 0) (dCons (dVar 1) (dCons (dC (.int 37)) dNil)))))) (dName 5)))
    (dSeq (dIf (dB (dOp rInD (dVar 5) (dCall d_law_words dNil)))
    (dRet (dOp rAdd (dVar 5) (dC (.str "_"))))
    dNext)
    (dRet (dVar 5)))))))))
theorem ok_law_name {P : Program} {w : World} {K : PySem.W.Frag} {mg : Str → Option Value} {k : Nat} {d d_law_pick d_law_words : DSp} (F : FunAt K mg "_law_name" s_law_name ["state", "script"]) (C_law_pick : Callee P w K mg k "_law_pick" ["state", "script", "many"] d_law_pick) (C_law_words : Callee P w K mg k "_law_words" [] d_law_words) (z_range : mg "range" = none)
    (len : ∀ ds m P EX, d ds m P EX → ds.length = 2) (rd : ∀ ds m Q EX, d ds m Q EX → Go Q (b_law_name d_law_pick d_law_words) (dstart ["state", "script", "letters", "chars", "size", "word", "k"] ds) m) : Callee P w K mg (k + 1) "_law_name" ["state", "script"] d :=
  F.callee sc_law_name len (b_law_name d_law_pick d_law_words) rd fun base f cdv A outer s H E hr =>
    ((qss_cons (qs_set (i := 2) sc_law_name.nd rfl (by first | exact Or.inl rfl | exact Or.inr rfl) qe_str)
    (qss_cons (qs_set (i := 3) sc_law_name.nd rfl (by first | exact Or.inl rfl | exact Or.inr rfl) (qe_op od_add (qv 2) qe_str))
    (qss_cons (qs_set (i := 4) sc_law_name.nd rfl (by first | exact Or.inl rfl | exact Or.inr rfl) (qe_op od_add qe_int (qe_fn C_law_pick hr (by rfl) (qa_cons (qv 0) (qa_cons (qv 1) (qa_cons qe_int qa_nil))))))
    (qss_cons (qs_if (qt_cmp (od_eq hr.units) (qv 4) qe_int (nomark _))
    (qss_one (qs_set (i := 4) sc_law_name.nd rfl (by first | exact Or.inl rfl | exact Or.inr rfl) (qe_op od_add qe_int (qe_fn C_law_pick hr (by rfl) (qa_cons (qv 0) (qa_cons (qv 1) (qa_cons qe_int qa_nil)))))))
    qss_nil)
    (qss_cons (qs_set (i := 5) sc_law_name.nd rfl (by first | exact Or.inl rfl | exact Or.inr rfl) (qe_ix (qv 2) (qe_fn C_law_pick hr (by rfl) (qa_cons (qv 0) (qa_cons (qv 1) (qa_cons qe_int qa_nil)))) (fun _ _ => rfl)))
    (qss_cons (qs_forR1 (vs := [6]) PassesOwn.never rfl (by rfl) z_range (qa_cons (qe_op od_sub (qv 4) qe_int) qa_nil) (qg_name (i := 6) sc_law_name.nd rfl (by first | exact Or.inl rfl | exact Or.inr rfl) (by decide))
    (qss_one (qs_set (i := 5) sc_law_name.nd rfl (by first | exact Or.inl rfl | exact Or.inr rfl) (qe_op od_add (qv 5) (qe_ix (qv 3) (qe_fn C_law_pick hr (by rfl) (qa_cons (qv 0) (qa_cons (qv 1) (qa_cons qe_int qa_nil)))) (fun _ _ => rfl))))))
    (qss_cons (qs_if (qt_cmp od_inD (qv 5) (qe_fn0 C_law_words hr (by rfl)) (by rfl))
    (qss_one (qs_ret (qe_op od_add (qv 5) qe_str)))
    qss_nil)
    (qss_one (qs_ret (qv 5)))))))))))
abbrev s_law_big : Stmt := topS 57
theorem sc_law_big : FnScope ["state", "script", "letters", "chars", "size", "word", "k"] ["state", "script"] (defScope s_law_big) := ⟨rfl, rfl, rfl, by decide +kernel, rfl, by decide +kernel, by decide +kernel⟩
def b_law_big (d_law_pick : DSp) : TDS := (dSeq (dAsg (dC (.str "ABCDEFGHIJKLMNOPQRSTUVWXYZ")) (dName 2))
    (dSeq (dAsg (dOp rAdd (dVar 2) (dC (.str "abcdefghijklmnopqrstuvwxyz0123456789"))) (dName 3))
    (dSeq (dAsg (dOp rAdd (dC (.int 1)) (dCall d_law_pick (dCons (dVar 0) (dCons (dVar 1) (dCons (dC (.int 4)) dNil))))) (dName 4))
    (dSeq (dIf (dB (dOp rEqD (dVar 4) (dC (.int 4))))
    (dAsg (dOp rAdd (dC (.int 1)) (dCall d_law_pick (dCons (dVar 0) (dCons (dVar 1) (dCons (dC (.int 20)) dNil))))) (dName 4))
    dNext)
    (dSeq (dAsg (dOp rIxD (dVar 2) (dCall d_law_pick (dCons (dVar 0) (dCons (dVar 1) (dCons (dC (.int 26)) dNil))))) (dName 5))
    (dSeq (dForR1 (dCons (dOp rSub (dVar 4) (dC (.int 1))) dNil) (dName 6)
    (dAsg (dOp rAdd (dVar 5) (dOp rIxD (dVar 3) (dCall d_law_pick (dCons (dVar 0) (dCons (dVar 1) (dCons (dC (.int 62)) dNil)))))) (dName 5)))
    (dRet (dVar 5))))))))
theorem ok_law_big {P : Program} {w : World} {K : PySem.W.Frag} {mg : Str → Option Value} {k : Nat} {d d_law_pick : DSp} (F : FunAt K mg "_law_big" s_law_big ["state", "script"]) (C_law_pick : Callee P w K mg k "_law_pick" ["state", "script", "many"] d_law_pick) (z_range : mg "range" = none)
    (len : ∀ ds m P EX, d ds m P EX → ds.length = 2) (rd : ∀ ds m Q EX, d ds m Q EX → Go Q (b_law_big d_law_pick) (dstart ["state", "script", "letters", "chars", "size", "word", "k"] ds) m) : Callee P w K mg (k + 1) "_law_big" ["state", "script"] d :=
  F.callee sc_law_big len (b_law_big d_law_pick) rd fun base f cdv A outer s H E hr =>
    ((qss_cons (qs_set (i := 2) sc_law_big.nd rfl (by first | exact Or.inl rfl | exact Or.inr rfl) qe_str)
    (qss_cons (qs_set (i := 3) sc_law_big.nd rfl (by first | exact Or.inl rfl | exact Or.inr rfl) (qe_op od_add (qv 2) qe_str))
    (qss_cons (qs_set (i := 4) sc_law_big.nd rfl (by first | exact Or.inl rfl | exact Or.inr rfl) (qe_op od_add qe_int (qe_fn C_law_pick hr (by rfl) (qa_cons (qv 0) (qa_cons (qv 1) (qa_cons qe_int qa_nil))))))
    (qss_cons (qs_if (qt_cmp (od_eq hr.units) (qv 4) qe_int (nomark _))
    (qss_one (qs_set (i := 4) sc_law_big.nd rfl (by first | exact Or.inl rfl | exact Or.inr rfl) (qe_op od_add qe_int (qe_fn C_law_pick hr (by rfl) (qa_cons (qv 0) (qa_cons (qv 1) (qa_cons qe_int qa_nil)))))))
    qss_nil)
    (qss_cons (qs_set (i := 5) sc_law_big.nd rfl (by first | exact Or.inl rfl | exact Or.inr rfl) (qe_ix (qv 2) (qe_fn C_law_pick hr (by rfl) (qa_cons (qv 0) (qa_cons (qv 1) (qa_cons qe_int qa_nil)))) (fun _ _ => rfl)))
    (qss_cons (qs_forR1 (vs := [6]) PassesOwn.never rfl (by rfl) z_range (qa_cons (qe_op od_sub (qv 4) qe_int) qa_nil) (qg_name (i := 6) sc_law_big.nd rfl (by first | exact Or.inl rfl | exact Or.inr rfl) (by decide))
    (qss_one (qs_set (i := 5) sc_law_big.nd rfl (by first | exact Or.inl rfl | exact Or.inr rfl) (qe_op od_add (qv 5) (qe_ix (qv 3) (qe_fn C_law_pick hr (by rfl) (qa_cons (qv 0) (qa_cons (qv 1) (qa_cons qe_int qa_nil)))) (fun _ _ => rfl))))))
    (qss_one (qs_ret (qv 5))))))))))
abbrev s_law_same : Stmt := topS 58
theorem sc_law_same : FnScope ["actual", "due", "k"] ["actual", "due"] (defScope s_law_same) := ⟨rfl, rfl, rfl, by decide +kernel, rfl, by decide +kernel, by decide +kernel⟩
def b_law_same (d_law_same : DSp) : TDS := (dSeq (dIf (dTru (dCB rIsD (dCons (dVar 1) (dCons (dC (.ty "tuple")) dNil))))
    (dSeq (dIf (dOr (dNot (dTru (dCB rIsD (dCons (dVar 0) (dCons (dC (.ty "tuple")) dNil))))) (dB (dOp rNeD (dCB rLen (dCons (dVar 0) dNil)) (dCB rLen (dCons (dVar 1) dNil)))))
    (dRet (dC (.bl false)))
    dNext)
    (dSeq (dForR1 (dCons (dCB rLen (dCons (dVar 1) dNil)) dNil) (dName 2)
    (dIf (dNot (dTru (dCall d_law_same (dCons (dOp rIxD (dVar 0) (dVar 2)) (dCons (dOp rIxD (dVar 1) (dVar 2)) dNil)))))
    (dRet (dC (.bl false)))
    dNext))
    (dRet (dC (.bl true)))))
    dNext)
    (dSeq (dIf (dTru (dCB rIsD (dCons (dVar 1) (dCons (dC (.ty "bool")) dNil))))
    (dRet (dAndV (dCB rIsD (dCons (dVar 0) (dCons (dC (.ty "bool")) dNil))) (dOp rEqD (dVar 0) (dVar 1))))
    dNext)
    (dSeq (dIf (dTru (dCB rIsD (dCons (dVar 1) (dCons (dC (.ty "int")) dNil))))
    (dRet (dAndV (dCB rIsD (dCons (dVar 0) (dCons (dC (.ty "int")) dNil))) (dAndV (dNotV (dCB rIsD (dCons (dVar 0) (dCons (dC (.ty "bool")) dNil)))) (dOp rEqD (dVar 0) (dVar 1)))))
    dNext)
    (dRet (dAndV (dCB rIsD (dCons (dVar 0) (dCons (dC (.ty "str")) dNil))) (dOp rEqD (dVar 0) (dVar 1)))))))
theorem ok_law_same {P : Program} {w : World} {K : PySem.W.Frag} {mg : Str → Option Value} {k : Nat} {d d_law_same : DSp} (F : FunAt K mg "_law_same" s_law_same ["actual", "due"]) (C_law_same : Callee P w K mg k "_law_same" ["actual", "due"] d_law_same) (z_tuple : mg "tuple" = none) (z_isinstance : mg "isinstance" = none) (z_len : mg "len" = none) (z_range : mg "range" = none) (z_bool : mg "bool" = none) (z_int : mg "int" = none) (z_str : mg "str" = none)
    (len : ∀ ds m P EX, d ds m P EX → ds.length = 2) (rd : ∀ ds m Q EX, d ds m Q EX → Go Q (b_law_same d_law_same) (dstart ["actual", "due", "k"] ds) m) : Callee P w K mg (k + 1) "_law_same" ["actual", "due"] d :=
  F.callee sc_law_same len (b_law_same d_law_same) rd fun base f cdv A outer s H E hr =>
    ((qss_cons (qs_if (qt_tru (qe_callB (cd_isi) (by rfl) z_isinstance PyProof.Rows.boot_isinstance (qa_cons (qv 1) (qa_cons (qe_type (by rfl) z_tuple PyProof.Rows.boot_tuple) qa_nil))))
    (qss_cons (qs_if (PW.pt (qw_or (qt_not (qt_tru (qe_callB (cd_isi) (by rfl) z_isinstance PyProof.Rows.boot_isinstance (qa_cons (qv 0) (qa_cons (qe_type (by rfl) z_tuple PyProof.Rows.boot_tuple) qa_nil))))) (qw_or1 (qt_cmp (od_ne hr.units) (qe_callB (cd_len) (by rfl) z_len PySem.boot_len (qa_cons (qv 0) qa_nil)) (qe_callB (cd_len) (by rfl) z_len PySem.boot_len (qa_cons (qv 1) qa_nil)) (nomark _)))))
    (qss_one (qs_ret qe_bl))
    qss_nil)
    (qss_cons (qs_forR1 (vs := [2]) PassesOwn.never rfl (by rfl) z_range (qa_cons (qe_callB (cd_len) (by rfl) z_len PySem.boot_len (qa_cons (qv 1) qa_nil)) qa_nil) (qg_name (i := 2) sc_law_same.nd rfl (by first | exact Or.inl rfl | exact Or.inr rfl) (by decide))
    (qss_one (qs_if (qt_not (qt_tru (qe_fn C_law_same hr (by rfl) (qa_cons (qe_ix (qv 0) (qv 2) (fun _ _ => rfl)) (qa_cons (qe_ix (qv 1) (qv 2) (fun _ _ => rfl)) qa_nil)))))
    (qss_one (qs_ret qe_bl))
    qss_nil)))
    (qss_one (qs_ret qe_bl))))
    qss_nil)
    (qss_cons (qs_if (qt_tru (qe_callB (cd_isi) (by rfl) z_isinstance PyProof.Rows.boot_isinstance (qa_cons (qv 1) (qa_cons (qe_type (by rfl) z_bool PyProof.Rows.boot_bool) qa_nil))))
    (qss_one (qs_ret (qe_and (qe_callB (cd_isi) (by rfl) z_isinstance PyProof.Rows.boot_isinstance (qa_cons (qv 0) (qa_cons (qe_type (by rfl) z_bool PyProof.Rows.boot_bool) qa_nil))) (qe_one (qe_cmp (od_eq hr.units) (qv 0) (qv 1) (nomark _))))))
    qss_nil)
    (qss_cons (qs_if (qt_tru (qe_callB (cd_isi) (by rfl) z_isinstance PyProof.Rows.boot_isinstance (qa_cons (qv 1) (qa_cons (qe_type (by rfl) z_int PyProof.Rows.boot_int) qa_nil))))
    (qss_one (qs_ret (qe_and (qe_callB (cd_isi) (by rfl) z_isinstance PyProof.Rows.boot_isinstance (qa_cons (qv 0) (qa_cons (qe_type (by rfl) z_int PyProof.Rows.boot_int) qa_nil))) (qe_and (qe_not (qe_callB (cd_isi) (by rfl) z_isinstance PyProof.Rows.boot_isinstance (qa_cons (qv 0) (qa_cons (qe_type (by rfl) z_bool PyProof.Rows.boot_bool) qa_nil)))) (qe_one (qe_cmp (od_eq hr.units) (qv 0) (qv 1) (nomark _)))))))
    qss_nil)
    (qss_one (qs_ret (qe_and (qe_callB (cd_isi) (by rfl) z_isinstance PyProof.Rows.boot_isinstance (qa_cons (qv 0) (qa_cons (qe_type (by rfl) z_str PyProof.Rows.boot_str) qa_nil))) (qe_one (qe_cmp (od_eq hr.units) (qv 0) (qv 1) (nomark _))))))))))
abbrev s_law_tree_kind : Stmt := topS 59
theorem sc_law_tree_kind : FnScope ["state", "script", "room", "choice", "items", "k"] ["state", "script", "room"] (defScope s_law_tree_kind) := ⟨rfl, rfl, rfl, by decide +kernel, rfl, by decide +kernel, by decide +kernel⟩
def b_law_tree_kind (d_law_pick d_law_tree_kind d_law_big : DSp) : TDS := (dSeq (dAsg (dCall d_law_pick (dCons (dVar 0) (dCons (dVar 1) (dCons (dC (.int 10)) dNil)))) (dName 3))
    (dSeq (dIf (dAnd (dB (dOp rGtD (dVar 2) (dC (.int 1)))) (dB (dOp rGtD (dVar 3) (dC (.int 3)))))
    (dSeq (dIf (dB (dOp rEqD (dVar 3) (dC (.int 8))))
    (dSeq (dAsg (dLst dNil) (dName 4))
    (dSeq (dForR1 (dCons (dOp rAdd (dC (.int 2)) (dCall d_law_pick (dCons (dVar 0) (dCons (dVar 1) (dCons (dC (.int 6)) dNil))))) dNil) (dName 5)
    (dDrop (dBM isLst rApp (dVar 4) (dCons (dCall d_law_tree_kind (dCons (dVar 0) (dCons (dVar 1) (dCons (dCB rMin2 (dCons (dOp rSub (dVar 2) (dC (.int 1))) (dCons (dC (.int 2)) dNil))) dNil)))) dNil))))
    (dRet (dTup (dCons (dC (.str "tuple")) (dCons (dCB rTuple (dCons (dVar 4) dNil)) dNil))))))
    dNext)
    (dRet (dTup (dCons (dOp rIxD (dLst (dCons (dC (.str "box")) (dCons (dC (.str "maybe")) (dCons (dC (.str "shared")) (dCons (dC (.str "exclusive")) dNil))))) (dOp rMod (dCB rInt (dCons (dVar 3) dNil)) (dC (.int 4)))) (dCons (dCall d_law_tree_kind (dCons (dVar 0) (dCons (dVar 1) (dCons (dOp rSub (dVar 2) (dC (.int 1))) dNil)))) dNil)))))
    dNext)
    (dSeq (dIf (dB (dOp rEqD (dVar 3) (dC (.int 3))))
    (dRet (dTup (dCons (dC (.str "record")) (dCons (dCall d_law_big (dCons (dVar 0) (dCons (dVar 1) dNil))) dNil))))
    dNext)
    (dRet (dTup (dCons (dOp rIxD (dLst (dCons (dC (.str "int")) (dCons (dC (.str "bool")) (dCons (dC (.str "unit")) dNil)))) (dOp rMod (dCB rInt (dCons (dVar 3) dNil)) (dC (.int 3)))) dNil))))))
theorem ok_law_tree_kind {P : Program} {w : World} {K : PySem.W.Frag} {mg : Str → Option Value} {k : Nat} {d d_law_pick d_law_tree_kind d_law_big : DSp} (F : FunAt K mg "_law_tree_kind" s_law_tree_kind ["state", "script", "room"]) (C_law_pick : Callee P w K mg k "_law_pick" ["state", "script", "many"] d_law_pick) (C_law_tree_kind : Callee P w K mg k "_law_tree_kind" ["state", "script", "room"] d_law_tree_kind) (C_law_big : Callee P w K mg k "_law_big" ["state", "script"] d_law_big) (z_min : mg "min" = none) (z_range : mg "range" = none) (z_tuple : mg "tuple" = none) (z_int : mg "int" = none)
    (len : ∀ ds m P EX, d ds m P EX → ds.length = 3) (rd : ∀ ds m Q EX, d ds m Q EX → Go Q (b_law_tree_kind d_law_pick d_law_tree_kind d_law_big) (dstart ["state", "script", "room", "choice", "items", "k"] ds) m) : Callee P w K mg (k + 1) "_law_tree_kind" ["state", "script", "room"] d :=
  F.callee sc_law_tree_kind len (b_law_tree_kind d_law_pick d_law_tree_kind d_law_big) rd fun base f cdv A outer s H E hr =>
    ((qss_cons (qs_set (i := 3) sc_law_tree_kind.nd rfl (by first | exact Or.inl rfl | exact Or.inr rfl) (qe_fn C_law_pick hr (by rfl) (qa_cons (qv 0) (qa_cons (qv 1) (qa_cons qe_int qa_nil)))))
    (qss_cons (qs_if (PW.pt (qw_and (qt_cmp od_gt (qv 2) qe_int (nomark _)) (qw_and1 (qt_cmp od_gt (qv 3) qe_int (nomark _)))))
    (qss_cons (qs_if (qt_cmp (od_eq hr.units) (qv 3) qe_int (nomark _))
    (qss_cons (qs_set (i := 4) sc_law_tree_kind.nd rfl (by first | exact Or.inl rfl | exact Or.inr rfl) (qe_lst qa_nil))
    (qss_cons (qs_forR1 (vs := [5]) PassesOwn.never rfl (by rfl) z_range (qa_cons (qe_op od_add qe_int (qe_fn C_law_pick hr (by rfl) (qa_cons (qv 0) (qa_cons (qv 1) (qa_cons qe_int qa_nil))))) qa_nil) (qg_name (i := 5) sc_law_tree_kind.nd rfl (by first | exact Or.inl rfl | exact Or.inr rfl) (by decide))
    (qss_one (qs_expr (qe_bm md_append PySem.F.plainAttrs_list PySem.F.slot_list_append PySem.F.type_list_append (qv 4) (qa_cons (qe_fn C_law_tree_kind hr (by rfl) (qa_cons (qv 0) (qa_cons (qv 1) (qa_cons (qe_callB (cd_min2 rfl) (by rfl) z_min (by decide +kernel) (qa_cons (qe_op od_sub (qv 2) qe_int) (qa_cons qe_int qa_nil))) qa_nil)))) qa_nil)))))
    (qss_one (qs_ret (qe_tup (qa_cons qe_str (qa_cons (qe_callTy cd_tuple (by rfl) z_tuple PyProof.Rows.boot_tuple (qa_cons (qv 4) qa_nil)) qa_nil)))))))
    qss_nil)
    (qss_one (qs_ret (qe_tup (qa_cons (qe_ix (qe_lst (qa_cons qe_str (qa_cons qe_str (qa_cons qe_str (qa_cons qe_str qa_nil))))) (qe_op od_mod (qe_callTy cd_int (by rfl) z_int PyProof.Rows.boot_int (qa_cons (qv 3) qa_nil)) qe_int) (fun _ _ => rfl)) (qa_cons (qe_fn C_law_tree_kind hr (by rfl) (qa_cons (qv 0) (qa_cons (qv 1) (qa_cons (qe_op od_sub (qv 2) qe_int) qa_nil)))) qa_nil))))))
    qss_nil)
    (qss_cons (qs_if (qt_cmp (od_eq hr.units) (qv 3) qe_int (nomark _))
    (qss_one (qs_ret (qe_tup (qa_cons qe_str (qa_cons (qe_fn C_law_big hr (by rfl) (qa_cons (qv 0) (qa_cons (qv 1) qa_nil))) qa_nil)))))
    qss_nil)
    (qss_one (qs_ret (qe_tup (qa_cons (qe_ix (qe_lst (qa_cons qe_str (qa_cons qe_str (qa_cons qe_str qa_nil)))) (qe_op od_mod (qe_callTy cd_int (by rfl) z_int PyProof.Rows.boot_int (qa_cons (qv 3) qa_nil)) qe_int) (fun _ _ => rfl)) qa_nil))))))))
abbrev s_law_fields : Stmt := topS 60
theorem sc_law_fields : FnScope ["state", "script", "many", "fields", "k"] ["state", "script", "many"] (defScope s_law_fields) := ⟨rfl, rfl, rfl, by decide +kernel, rfl, by decide +kernel, by decide +kernel⟩
def b_law_fields (d_law_tree_kind d_law_name : DSp) : TDS := (dSeq (dAsg (dLst dNil) (dName 3))
    (dSeq (dForR1 (dCons (dVar 2) dNil) (dName 4)
    (dDrop (dBM isLst rApp (dVar 3) (dCons (dTup (dCons (dCall d_law_name (dCons (dVar 0) (dCons (dVar 1) dNil))) (dCons (dCall d_law_tree_kind (dCons (dVar 0) (dCons (dVar 1) (dCons (dC (.int 3)) dNil)))) dNil))) dNil))))
    (dRet (dCB rTuple (dCons (dVar 3) dNil)))))
theorem ok_law_fields {P : Program} {w : World} {K : PySem.W.Frag} {mg : Str → Option Value} {k : Nat} {d d_law_tree_kind d_law_name : DSp} (F : FunAt K mg "_law_fields" s_law_fields ["state", "script", "many"]) (C_law_tree_kind : Callee P w K mg k "_law_tree_kind" ["state", "script", "room"] d_law_tree_kind) (C_law_name : Callee P w K mg k "_law_name" ["state", "script"] d_law_name) (z_range : mg "range" = none) (z_tuple : mg "tuple" = none)
    (len : ∀ ds m P EX, d ds m P EX → ds.length = 3) (rd : ∀ ds m Q EX, d ds m Q EX → Go Q (b_law_fields d_law_tree_kind d_law_name) (dstart ["state", "script", "many", "fields", "k"] ds) m) : Callee P w K mg (k + 1) "_law_fields" ["state", "script", "many"] d :=
  F.callee sc_law_fields len (b_law_fields d_law_tree_kind d_law_name) rd fun base f cdv A outer s H E hr =>
    ((qss_cons (qs_set (i := 3) sc_law_fields.nd rfl (by first | exact Or.inl rfl | exact Or.inr rfl) (qe_lst qa_nil))
    (qss_cons (qs_forR1 (vs := [4]) PassesOwn.never rfl (by rfl) z_range (qa_cons (qv 2) qa_nil) (qg_name (i := 4) sc_law_fields.nd rfl (by first | exact Or.inl rfl | exact Or.inr rfl) (by decide))
    (qss_one (qs_expr (qe_bm md_append PySem.F.plainAttrs_list PySem.F.slot_list_append PySem.F.type_list_append (qv 3) (qa_cons (qe_tup (qa_cons (qe_fn C_law_name hr (by rfl) (qa_cons (qv 0) (qa_cons (qv 1) qa_nil))) (qa_cons (qe_fn C_law_tree_kind hr (by rfl) (qa_cons (qv 0) (qa_cons (qv 1) (qa_cons qe_int qa_nil)))) qa_nil))) qa_nil)))))
    (qss_one (qs_ret (qe_callTy cd_tuple (by rfl) z_tuple PyProof.Rows.boot_tuple (qa_cons (qv 3) qa_nil)))))))
abbrev s_law_function : Stmt := topS 61
theorem sc_law_function : FnScope ["state", "script", "block", "name", "fields", "result", "sources", "k"] ["state", "script", "block"] (defScope s_law_function) := ⟨rfl, rfl, rfl, by decide +kernel, rfl, by decide +kernel, by decide +kernel⟩
def b_law_function (d_law_name d_law_fields d_law_pick d_law_tree_kind : DSp) : TDS := (dSeq (dAsg (dCall d_law_name (dCons (dVar 0) (dCons (dVar 1) dNil))) (dName 3))
    (dSeq (dAsg (dCall d_law_fields (dCons (dVar 0) (dCons (dVar 1) (dCons (dCall d_law_pick (dCons (dVar 0) (dCons (dVar 1) (dCons (dC (.int 8)) dNil)))) dNil)))) (dName 4))
    (dSeq (dAsg (dCall d_law_tree_kind (dCons (dVar 0) (dCons (dVar 1) (dCons (dOp rIxD (dLst (dCons (dC (.int 3)) (dCons (dC (.int 3)) (dCons (dC (.int 3)) (dCons (dC (.int 9)) dNil))))) (dCall d_law_pick (dCons (dVar 0) (dCons (dVar 1) (dCons (dC (.int 4)) dNil))))) dNil)))) (dName 5))
    (dSeq (dAsg (dLst dNil) (dName 6))
    (dSeq (dForR1 (dCons (dCall d_law_pick (dCons (dVar 0) (dCons (dVar 1) (dCons (dC (.int 7)) dNil)))) dNil) (dName 7)
    (dDrop (dBM isLst rApp (dVar 6) (dCons (dCall d_law_name (dCons (dVar 0) (dCons (dVar 1) dNil))) dNil))))
    (dRet (dTup (dCons (dVar 3) (dCons (dVar 4) (dCons (dVar 5) (dCons (dCB rTuple (dCons (dVar 6) dNil)) (dCons (dVar 2) dNil))))))))))))
theorem ok_law_function {P : Program} {w : World} {K : PySem.W.Frag} {mg : Str → Option Value} {k : Nat} {d d_law_name d_law_fields d_law_pick d_law_tree_kind : DSp} (F : FunAt K mg "_law_function" s_law_function ["state", "script", "block"]) (C_law_name : Callee P w K mg k "_law_name" ["state", "script"] d_law_name) (C_law_fields : Callee P w K mg k "_law_fields" ["state", "script", "many"] d_law_fields) (C_law_pick : Callee P w K mg k "_law_pick" ["state", "script", "many"] d_law_pick) (C_law_tree_kind : Callee P w K mg k "_law_tree_kind" ["state", "script", "room"] d_law_tree_kind) (z_range : mg "range" = none) (z_tuple : mg "tuple" = none)
    (len : ∀ ds m P EX, d ds m P EX → ds.length = 3) (rd : ∀ ds m Q EX, d ds m Q EX → Go Q (b_law_function d_law_name d_law_fields d_law_pick d_law_tree_kind) (dstart ["state", "script", "block", "name", "fields", "result", "sources", "k"] ds) m) : Callee P w K mg (k + 1) "_law_function" ["state", "script", "block"] d :=
  F.callee sc_law_function len (b_law_function d_law_name d_law_fields d_law_pick d_law_tree_kind) rd fun base f cdv A outer s H E hr =>
    ((qss_cons (qs_set (i := 3) sc_law_function.nd rfl (by first | exact Or.inl rfl | exact Or.inr rfl) (qe_fn C_law_name hr (by rfl) (qa_cons (qv 0) (qa_cons (qv 1) qa_nil))))
    (qss_cons (qs_set (i := 4) sc_law_function.nd rfl (by first | exact Or.inl rfl | exact Or.inr rfl) (qe_fn C_law_fields hr (by rfl) (qa_cons (qv 0) (qa_cons (qv 1) (qa_cons (qe_fn C_law_pick hr (by rfl) (qa_cons (qv 0) (qa_cons (qv 1) (qa_cons qe_int qa_nil)))) qa_nil)))))
    (qss_cons (qs_set (i := 5) sc_law_function.nd rfl (by first | exact Or.inl rfl | exact Or.inr rfl) (qe_fn C_law_tree_kind hr (by rfl) (qa_cons (qv 0) (qa_cons (qv 1) (qa_cons (qe_ix (qe_lst (qa_cons qe_int (qa_cons qe_int (qa_cons qe_int (qa_cons qe_int qa_nil))))) (qe_fn C_law_pick hr (by rfl) (qa_cons (qv 0) (qa_cons (qv 1) (qa_cons qe_int qa_nil)))) (fun _ _ => rfl)) qa_nil)))))
    (qss_cons (qs_set (i := 6) sc_law_function.nd rfl (by first | exact Or.inl rfl | exact Or.inr rfl) (qe_lst qa_nil))
    (qss_cons (qs_forR1 (vs := [7]) PassesOwn.never rfl (by rfl) z_range (qa_cons (qe_fn C_law_pick hr (by rfl) (qa_cons (qv 0) (qa_cons (qv 1) (qa_cons qe_int qa_nil)))) qa_nil) (qg_name (i := 7) sc_law_function.nd rfl (by first | exact Or.inl rfl | exact Or.inr rfl) (by decide))
    (qss_one (qs_expr (qe_bm md_append PySem.F.plainAttrs_list PySem.F.slot_list_append PySem.F.type_list_append (qv 6) (qa_cons (qe_fn C_law_name hr (by rfl) (qa_cons (qv 0) (qa_cons (qv 1) qa_nil))) qa_nil)))))
    (qss_one (qs_ret (qe_tup (qa_cons (qv 3) (qa_cons (qv 4) (qa_cons (qv 5) (qa_cons (qe_callTy cd_tuple (by rfl) z_tuple PyProof.Rows.boot_tuple (qa_cons (qv 6) qa_nil)) (qa_cons (qv 2) qa_nil))))))))))))))
abbrev s_law_kind_row : Stmt := topS 62
theorem sc_law_kind_row : FnScope ["kind", "row", "k"] ["kind"] (defScope s_law_kind_row) := ⟨rfl, rfl, rfl, by decide +kernel, rfl, by decide +kernel, by decide +kernel⟩
def b_law_kind_row (d_law_kind_row : DSp) : TDS := (dSeq (dIf (dB (dOp rEqD (dOp rIxD (dVar 0) (dC (.int 0))) (dC (.str "record"))))
    (dRet (dLst (dCons (dOp rIxD (dVar 0) (dC (.int 1))) dNil)))
    dNext)
    (dSeq (dIf (dB (dOp rEqD (dOp rIxD (dVar 0) (dC (.int 0))) (dC (.str "shared"))))
    (dRet (dOp rAdd (dLst (dCons (dC (.str "&")) dNil)) (dCall d_law_kind_row (dCons (dOp rIxD (dVar 0) (dC (.int 1))) dNil))))
    dNext)
    (dSeq (dIf (dB (dOp rEqD (dOp rIxD (dVar 0) (dC (.int 0))) (dC (.str "exclusive"))))
    (dRet (dOp rAdd (dLst (dCons (dC (.str "&mut")) dNil)) (dCall d_law_kind_row (dCons (dOp rIxD (dVar 0) (dC (.int 1))) dNil))))
    dNext)
    (dSeq (dIf (dB (dOp rEqD (dOp rIxD (dVar 0) (dC (.int 0))) (dC (.str "tuple"))))
    (dSeq (dAsg (dLst (dCons (dC (.str "(")) dNil)) (dName 1))
    (dSeq (dForR1 (dCons (dCB rLen (dCons (dOp rIxD (dVar 0) (dC (.int 1))) dNil)) dNil) (dName 2)
    (dSeq (dIf (dB (dOp rGtD (dVar 2) (dC (.int 0))))
    (dDrop (dBM isLst rApp (dVar 1) (dCons (dC (.str ",")) dNil)))
    dNext)
    (dDrop (dBM isLst rExt (dVar 1) (dCons (dCall d_law_kind_row (dCons (dOp rIxD (dOp rIxD (dVar 0) (dC (.int 1))) (dVar 2)) dNil)) dNil)))))
    (dRet (dOp rAdd (dVar 1) (dLst (dCons (dC (.str ")")) dNil))))))
    dNext)
    (dSeq (dIf (dB (dOp rEqD (dCB rLen (dCons (dVar 0) dNil)) (dC (.int 2))))
    (dRet (dOp rAdd (dLst (dCons (dOp rIxD (dVar 0) (dC (.int 0))) dNil)) (dCall d_law_kind_row (dCons (dOp rIxD (dVar 0) (dC (.int 1))) dNil))))
    dNext)
    (dRet (dLst (dCons (dOp rIxD (dVar 0) (dC (.int 0))) dNil))))))))
theorem ok_law_kind_row {P : Program} {w : World} {K : PySem.W.Frag} {mg : Str → Option Value} {k : Nat} {d d_law_kind_row : DSp} (F : FunAt K mg "_law_kind_row" s_law_kind_row ["kind"]) (C_law_kind_row : Callee P w K mg k "_law_kind_row" ["kind"] d_law_kind_row) (z_len : mg "len" = none) (z_range : mg "range" = none)
    (len : ∀ ds m P EX, d ds m P EX → ds.length = 1) (rd : ∀ ds m Q EX, d ds m Q EX → Go Q (b_law_kind_row d_law_kind_row) (dstart ["kind", "row", "k"] ds) m) : Callee P w K mg (k + 1) "_law_kind_row" ["kind"] d :=
  F.callee sc_law_kind_row len (b_law_kind_row d_law_kind_row) rd fun base f cdv A outer s H E hr =>
    ((qss_cons (qs_if (qt_cmp (od_eq hr.units) (qe_ix (qv 0) qe_int (fun _ _ => rfl)) qe_str (nomark _))
    (qss_one (qs_ret (qe_lst (qa_cons (qe_ix (qv 0) qe_int (fun _ _ => rfl)) qa_nil))))
    qss_nil)
    (qss_cons (qs_if (qt_cmp (od_eq hr.units) (qe_ix (qv 0) qe_int (fun _ _ => rfl)) qe_str (nomark _))
    (qss_one (qs_ret (qe_op od_add (qe_lst (qa_cons qe_str qa_nil)) (qe_fn C_law_kind_row hr (by rfl) (qa_cons (qe_ix (qv 0) qe_int (fun _ _ => rfl)) qa_nil)))))
    qss_nil)
    (qss_cons (qs_if (qt_cmp (od_eq hr.units) (qe_ix (qv 0) qe_int (fun _ _ => rfl)) qe_str (nomark _))
    (qss_one (qs_ret (qe_op od_add (qe_lst (qa_cons qe_str qa_nil)) (qe_fn C_law_kind_row hr (by rfl) (qa_cons (qe_ix (qv 0) qe_int (fun _ _ => rfl)) qa_nil)))))
    qss_nil)
    (qss_cons (qs_if (qt_cmp (od_eq hr.units) (qe_ix (qv 0) qe_int (fun _ _ => rfl)) qe_str (nomark _))
    (qss_cons (qs_set (i := 1) sc_law_kind_row.nd rfl (by first | exact Or.inl rfl | exact Or.inr rfl) (qe_lst (qa_cons qe_str qa_nil)))
    (qss_cons (qs_forR1 (vs := [2]) PassesOwn.never rfl (by rfl) z_range (qa_cons (qe_callB (cd_len) (by rfl) z_len PySem.boot_len (qa_cons (qe_ix (qv 0) qe_int (fun _ _ => rfl)) qa_nil)) qa_nil) (qg_name (i := 2) sc_law_kind_row.nd rfl (by first | exact Or.inl rfl | exact Or.inr rfl) (by decide))
    (qss_cons (qs_if (qt_cmp od_gt (qv 2) qe_int (nomark _))
    (qss_one (qs_expr (qe_bm md_append PySem.F.plainAttrs_list PySem.F.slot_list_append PySem.F.type_list_append (qv 1) (qa_cons qe_str qa_nil))))
    qss_nil)
    (qss_one (qs_expr (qe_bm md_extend PySem.F.plainAttrs_list PySem.F.slot_list_extend PySem.F.type_list_extend (qv 1) (qa_cons (qe_fn C_law_kind_row hr (by rfl) (qa_cons (qe_ix (qe_ix (qv 0) qe_int (fun _ _ => rfl)) (qv 2) (fun _ _ => rfl)) qa_nil)) qa_nil))))))
    (qss_one (qs_ret (qe_op od_add (qv 1) (qe_lst (qa_cons qe_str qa_nil)))))))
    qss_nil)
    (qss_cons (qs_if (qt_cmp (od_eq hr.units) (qe_callB (cd_len) (by rfl) z_len PySem.boot_len (qa_cons (qv 0) qa_nil)) qe_int (nomark _))
    (qss_one (qs_ret (qe_op od_add (qe_lst (qa_cons (qe_ix (qv 0) qe_int (fun _ _ => rfl)) qa_nil)) (qe_fn C_law_kind_row hr (by rfl) (qa_cons (qe_ix (qv 0) qe_int (fun _ _ => rfl)) qa_nil)))))
    qss_nil)
    (qss_one (qs_ret (qe_lst (qa_cons (qe_ix (qv 0) qe_int (fun _ _ => rfl)) qa_nil))))))))))
abbrev s_law_place_row : Stmt := topS 63
abbrev s_law_row : Stmt := topS 65
abbrev s_law_block_rows : Stmt := topS 66
theorem sc_law_block_rows : FnScope ["block", "depth", "rows", "tree"] ["block", "depth"] (defScope s_law_block_rows) := ⟨rfl, rfl, rfl, by decide +kernel, rfl, by decide +kernel, by decide +kernel⟩
def b_law_block_rows (d_law_row d_law_block_rows d_law_place_row : DSp) : TDS := (dSeq (dAsg (dLst dNil) (dName 2))
    (dSeq (dForS (dVar 0) (dName 3)
    (dIf (dOr (dB (dOp rEqD (dOp rIxD (dVar 3) (dC (.int 0))) (dC (.str "if")))) (dB (dOp rEqD (dOp rIxD (dVar 3) (dC (.int 0))) (dC (.str "while")))))
    (dSeq (dDrop (dBM isLst rApp (dVar 2) (dCons (dTup (dCons (dVar 1) (dCons (dOp rAdd (dOp rAdd (dLst (dCons (dOp rIxD (dVar 3) (dC (.int 0))) dNil)) (dCall d_law_row (dCons (dOp rIxD (dVar 3) (dC (.int 1))) dNil))) (dLst (dCons (dC (.str "{")) dNil))) dNil))) dNil)))
    (dSeq (dDrop (dBM isLst rExt (dVar 2) (dCons (dCall d_law_block_rows (dCons (dOp rIxD (dVar 3) (dC (.int 2))) (dCons (dOp rAdd (dVar 1) (dC (.int 1))) dNil))) dNil)))
    (dSeq (dIf (dB (dOp rEqD (dOp rIxD (dVar 3) (dC (.int 0))) (dC (.str "if"))))
    (dSeq (dDrop (dBM isLst rApp (dVar 2) (dCons (dTup (dCons (dVar 1) (dCons (dLst (dCons (dC (.str "}")) (dCons (dC (.str "else")) (dCons (dC (.str "{")) dNil)))) dNil))) dNil)))
    (dDrop (dBM isLst rExt (dVar 2) (dCons (dCall d_law_block_rows (dCons (dOp rIxD (dVar 3) (dC (.int 3))) (dCons (dOp rAdd (dVar 1) (dC (.int 1))) dNil))) dNil))))
    dNext)
    (dDrop (dBM isLst rApp (dVar 2) (dCons (dTup (dCons (dVar 1) (dCons (dLst (dCons (dC (.str "}")) dNil)) dNil))) dNil))))))
    (dIf (dB (dOp rEqD (dOp rIxD (dVar 3) (dC (.int 0))) (dC (.str "let"))))
    (dDrop (dBM isLst rApp (dVar 2) (dCons (dTup (dCons (dVar 1) (dCons (dOp rAdd (dOp rAdd (dLst (dCons (dC (.str "let")) (dCons (dOp rIxD (dVar 3) (dC (.int 1))) (dCons (dC (.str "=")) dNil)))) (dCall d_law_row (dCons (dOp rIxD (dVar 3) (dC (.int 2))) dNil))) (dLst (dCons (dC (.str ";")) dNil))) dNil))) dNil)))
    (dIf (dB (dOp rEqD (dOp rIxD (dVar 3) (dC (.int 0))) (dC (.str "store"))))
    (dDrop (dBM isLst rApp (dVar 2) (dCons (dTup (dCons (dVar 1) (dCons (dOp rAdd (dOp rAdd (dOp rAdd (dCall d_law_place_row (dCons (dOp rIxD (dVar 3) (dC (.int 1))) dNil)) (dLst (dCons (dC (.str "=")) dNil))) (dCall d_law_row (dCons (dOp rIxD (dVar 3) (dC (.int 2))) dNil))) (dLst (dCons (dC (.str ";")) dNil))) dNil))) dNil)))
    (dDrop (dBM isLst rApp (dVar 2) (dCons (dTup (dCons (dVar 1) (dCons (dOp rAdd (dOp rAdd (dLst (dCons (dOp rIxD (dVar 3) (dC (.int 0))) dNil)) (dCall d_law_row (dCons (dOp rIxD (dVar 3) (dC (.int 1))) dNil))) (dLst (dCons (dC (.str ";")) dNil))) dNil))) dNil)))))))
    (dRet (dVar 2))))
theorem ok_law_block_rows {P : Program} {w : World} {K : PySem.W.Frag} {mg : Str → Option Value} {k : Nat} {d d_law_row d_law_block_rows d_law_place_row : DSp} (F : FunAt K mg "_law_block_rows" s_law_block_rows ["block", "depth"]) (C_law_row : Callee P w K mg k "_law_row" ["tree"] d_law_row) (C_law_block_rows : Callee P w K mg k "_law_block_rows" ["block", "depth"] d_law_block_rows) (C_law_place_row : Callee P w K mg k "_law_place_row" ["place"] d_law_place_row)
    (len : ∀ ds m P EX, d ds m P EX → ds.length = 2) (rd : ∀ ds m Q EX, d ds m Q EX → Go Q (b_law_block_rows d_law_row d_law_block_rows d_law_place_row) (dstart ["block", "depth", "rows", "tree"] ds) m) : Callee P w K mg (k + 1) "_law_block_rows" ["block", "depth"] d :=
  F.callee sc_law_block_rows len (b_law_block_rows d_law_row d_law_block_rows d_law_place_row) rd fun base f cdv A outer s H E hr =>
    ((qss_cons (qs_set (i := 2) sc_law_block_rows.nd rfl (by first | exact Or.inl rfl | exact Or.inr rfl) (qe_lst qa_nil))
    (qss_cons (qs_forS (vs := [3]) PassesOwn.never rfl (qv 0) (qg_name (i := 3) sc_law_block_rows.nd rfl (by first | exact Or.inl rfl | exact Or.inr rfl) (by decide))
    (qss_one (qs_if (PW.pt (qw_or (qt_cmp (od_eq hr.units) (qe_ix (qv 3) qe_int (fun _ _ => rfl)) qe_str (nomark _)) (qw_or1 (qt_cmp (od_eq hr.units) (qe_ix (qv 3) qe_int (fun _ _ => rfl)) qe_str (nomark _)))))
    (qss_cons (qs_expr (qe_bm md_append PySem.F.plainAttrs_list PySem.F.slot_list_append PySem.F.type_list_append (qv 2) (qa_cons (qe_tup (qa_cons (qv 1) (qa_cons (qe_op od_add (qe_op od_add (qe_lst (qa_cons (qe_ix (qv 3) qe_int (fun _ _ => rfl)) qa_nil)) (qe_fn C_law_row hr (by rfl) (qa_cons (qe_ix (qv 3) qe_int (fun _ _ => rfl)) qa_nil))) (qe_lst (qa_cons qe_str qa_nil))) qa_nil))) qa_nil)))
    (qss_cons (qs_expr (qe_bm md_extend PySem.F.plainAttrs_list PySem.F.slot_list_extend PySem.F.type_list_extend (qv 2) (qa_cons (qe_fn C_law_block_rows hr (by rfl) (qa_cons (qe_ix (qv 3) qe_int (fun _ _ => rfl)) (qa_cons (qe_op od_add (qv 1) qe_int) qa_nil))) qa_nil)))
    (qss_cons (qs_if (qt_cmp (od_eq hr.units) (qe_ix (qv 3) qe_int (fun _ _ => rfl)) qe_str (nomark _))
    (qss_cons (qs_expr (qe_bm md_append PySem.F.plainAttrs_list PySem.F.slot_list_append PySem.F.type_list_append (qv 2) (qa_cons (qe_tup (qa_cons (qv 1) (qa_cons (qe_lst (qa_cons qe_str (qa_cons qe_str (qa_cons qe_str qa_nil)))) qa_nil))) qa_nil)))
    (qss_one (qs_expr (qe_bm md_extend PySem.F.plainAttrs_list PySem.F.slot_list_extend PySem.F.type_list_extend (qv 2) (qa_cons (qe_fn C_law_block_rows hr (by rfl) (qa_cons (qe_ix (qv 3) qe_int (fun _ _ => rfl)) (qa_cons (qe_op od_add (qv 1) qe_int) qa_nil))) qa_nil)))))
    qss_nil)
    (qss_one (qs_expr (qe_bm md_append PySem.F.plainAttrs_list PySem.F.slot_list_append PySem.F.type_list_append (qv 2) (qa_cons (qe_tup (qa_cons (qv 1) (qa_cons (qe_lst (qa_cons qe_str qa_nil)) qa_nil))) qa_nil)))))))
    (qss_one (qs_if (qt_cmp (od_eq hr.units) (qe_ix (qv 3) qe_int (fun _ _ => rfl)) qe_str (nomark _))
    (qss_one (qs_expr (qe_bm md_append PySem.F.plainAttrs_list PySem.F.slot_list_append PySem.F.type_list_append (qv 2) (qa_cons (qe_tup (qa_cons (qv 1) (qa_cons (qe_op od_add (qe_op od_add (qe_lst (qa_cons qe_str (qa_cons (qe_ix (qv 3) qe_int (fun _ _ => rfl)) (qa_cons qe_str qa_nil)))) (qe_fn C_law_row hr (by rfl) (qa_cons (qe_ix (qv 3) qe_int (fun _ _ => rfl)) qa_nil))) (qe_lst (qa_cons qe_str qa_nil))) qa_nil))) qa_nil))))
    (qss_one (qs_if (qt_cmp (od_eq hr.units) (qe_ix (qv 3) qe_int (fun _ _ => rfl)) qe_str (nomark _))
    (qss_one (qs_expr (qe_bm md_append PySem.F.plainAttrs_list PySem.F.slot_list_append PySem.F.type_list_append (qv 2) (qa_cons (qe_tup (qa_cons (qv 1) (qa_cons (qe_op od_add (qe_op od_add (qe_op od_add (qe_fn C_law_place_row hr (by rfl) (qa_cons (qe_ix (qv 3) qe_int (fun _ _ => rfl)) qa_nil)) (qe_lst (qa_cons qe_str qa_nil))) (qe_fn C_law_row hr (by rfl) (qa_cons (qe_ix (qv 3) qe_int (fun _ _ => rfl)) qa_nil))) (qe_lst (qa_cons qe_str qa_nil))) qa_nil))) qa_nil))))
    (qss_one (qs_expr (qe_bm md_append PySem.F.plainAttrs_list PySem.F.slot_list_append PySem.F.type_list_append (qv 2) (qa_cons (qe_tup (qa_cons (qv 1) (qa_cons (qe_op od_add (qe_op od_add (qe_lst (qa_cons (qe_ix (qv 3) qe_int (fun _ _ => rfl)) qa_nil)) (qe_fn C_law_row hr (by rfl) (qa_cons (qe_ix (qv 3) qe_int (fun _ _ => rfl)) qa_nil))) (qe_lst (qa_cons qe_str qa_nil))) qa_nil))) qa_nil)))))))))))
    (qss_one (qs_ret (qv 2))))))
abbrev s_law_field_row : Stmt := topS 67
theorem sc_law_field_row : FnScope ["fields", "row", "k"] ["fields"] (defScope s_law_field_row) := ⟨rfl, rfl, rfl, by decide +kernel, rfl, by decide +kernel, by decide +kernel⟩
def b_law_field_row (d_law_kind_row : DSp) : TDS := (dSeq (dAsg (dLst dNil) (dName 1))
    (dSeq (dForR1 (dCons (dCB rLen (dCons (dVar 0) dNil)) dNil) (dName 2)
    (dSeq (dIf (dB (dOp rGtD (dVar 2) (dC (.int 0))))
    (dDrop (dBM isLst rApp (dVar 1) (dCons (dC (.str ",")) dNil)))
    dNext)
    (dDrop (dBM isLst rExt (dVar 1) (dCons (dOp rAdd (dLst (dCons (dOp rIxD (dOp rIxD (dVar 0) (dVar 2)) (dC (.int 0))) (dCons (dC (.str ":")) dNil))) (dCall d_law_kind_row (dCons (dOp rIxD (dOp rIxD (dVar 0) (dVar 2)) (dC (.int 1))) dNil))) dNil)))))
    (dRet (dVar 1))))
theorem ok_law_field_row {P : Program} {w : World} {K : PySem.W.Frag} {mg : Str → Option Value} {k : Nat} {d d_law_kind_row : DSp} (F : FunAt K mg "_law_field_row" s_law_field_row ["fields"]) (C_law_kind_row : Callee P w K mg k "_law_kind_row" ["kind"] d_law_kind_row) (z_len : mg "len" = none) (z_range : mg "range" = none)
    (len : ∀ ds m P EX, d ds m P EX → ds.length = 1) (rd : ∀ ds m Q EX, d ds m Q EX → Go Q (b_law_field_row d_law_kind_row) (dstart ["fields", "row", "k"] ds) m) : Callee P w K mg (k + 1) "_law_field_row" ["fields"] d :=
  F.callee sc_law_field_row len (b_law_field_row d_law_kind_row) rd fun base f cdv A outer s H E hr =>
    ((qss_cons (qs_set (i := 1) sc_law_field_row.nd rfl (by first | exact Or.inl rfl | exact Or.inr rfl) (qe_lst qa_nil))
    (qss_cons (qs_forR1 (vs := [2]) PassesOwn.never rfl (by rfl) z_range (qa_cons (qe_callB (cd_len) (by rfl) z_len PySem.boot_len (qa_cons (qv 0) qa_nil)) qa_nil) (qg_name (i := 2) sc_law_field_row.nd rfl (by first | exact Or.inl rfl | exact Or.inr rfl) (by decide))
    (qss_cons (qs_if (qt_cmp od_gt (qv 2) qe_int (nomark _))
    (qss_one (qs_expr (qe_bm md_append PySem.F.plainAttrs_list PySem.F.slot_list_append PySem.F.type_list_append (qv 1) (qa_cons qe_str qa_nil))))
    qss_nil)
    (qss_one (qs_expr (qe_bm md_extend PySem.F.plainAttrs_list PySem.F.slot_list_extend PySem.F.type_list_extend (qv 1) (qa_cons (qe_op od_add (qe_lst (qa_cons (qe_ix (qe_ix (qv 0) (qv 2) (fun _ _ => rfl)) qe_int (fun _ _ => rfl)) (qa_cons qe_str qa_nil))) (qe_fn C_law_kind_row hr (by rfl) (qa_cons (qe_ix (qe_ix (qv 0) (qv 2) (fun _ _ => rfl)) qe_int (fun _ _ => rfl)) qa_nil))) qa_nil))))))
    (qss_one (qs_ret (qv 1))))))
abbrev s_law_program_rows : Stmt := topS 68
theorem sc_law_program_rows : FnScope ["program", "rows", "record", "tree", "head", "k"] ["program"] (defScope s_law_program_rows) := ⟨rfl, rfl, rfl, by decide +kernel, rfl, by decide +kernel, by decide +kernel⟩
def b_law_program_rows (d_law_field_row d_law_kind_row d_law_block_rows : DSp) : TDS := (dSeq (dAsg (dLst dNil) (dName 1))
    (dSeq (dForS (dOp rIxD (dVar 0) (dC (.int 0))) (dName 2)
    (dDrop (dBM isLst rApp (dVar 1) (dCons (dTup (dCons (dC (.int 0)) (dCons (dOp rAdd (dOp rAdd (dLst (dCons (dC (.str "record")) (dCons (dOp rIxD (dVar 2) (dC (.int 0))) (dCons (dC (.str "{")) dNil)))) (dCall d_law_field_row (dCons (dOp rIxD (dVar 2) (dC (.int 1))) dNil))) (dLst (dCons (dC (.str "}")) dNil))) dNil))) dNil))))
    (dSeq (dForS (dOp rIxD (dVar 0) (dC (.int 1))) (dName 3)
    (dSeq (dAsg (dOp rAdd (dOp rAdd (dOp rAdd (dLst (dCons (dC (.str "fn")) (dCons (dOp rIxD (dVar 3) (dC (.int 0))) (dCons (dC (.str "(")) dNil)))) (dCall d_law_field_row (dCons (dOp rIxD (dVar 3) (dC (.int 1))) dNil))) (dLst (dCons (dC (.str ")")) (dCons (dC (.str "->")) dNil)))) (dCall d_law_kind_row (dCons (dOp rIxD (dVar 3) (dC (.int 2))) dNil))) (dName 4))
    (dSeq (dForR1 (dCons (dCB rLen (dCons (dOp rIxD (dVar 3) (dC (.int 3))) dNil)) dNil) (dName 5)
    (dDrop (dBM isLst rExt (dVar 4) (dCons (dLst (dCons (dOp rIxD (dLst (dCons (dC (.str "from")) (dCons (dC (.str ",")) dNil))) (dCB rInt (dCons (dOp rGtD (dVar 5) (dC (.int 0))) dNil))) (dCons (dOp rIxD (dOp rIxD (dVar 3) (dC (.int 3))) (dVar 5)) dNil))) dNil))))
    (dSeq (dDrop (dBM isLst rApp (dVar 1) (dCons (dTup (dCons (dC (.int 0)) (dCons (dOp rAdd (dVar 4) (dLst (dCons (dC (.str "{")) dNil))) dNil))) dNil)))
    (dSeq (dDrop (dBM isLst rExt (dVar 1) (dCons (dCall d_law_block_rows (dCons (dOp rIxD (dVar 3) (dC (.int 4))) (dCons (dC (.int 1)) dNil))) dNil)))
    (dDrop (dBM isLst rApp (dVar 1) (dCons (dTup (dCons (dC (.int 0)) (dCons (dLst (dCons (dC (.str "}")) dNil)) dNil))) dNil))))))))
    (dRet (dVar 1)))))
theorem ok_law_program_rows {P : Program} {w : World} {K : PySem.W.Frag} {mg : Str → Option Value} {k : Nat} {d d_law_field_row d_law_kind_row d_law_block_rows : DSp} (F : FunAt K mg "_law_program_rows" s_law_program_rows ["program"]) (C_law_field_row : Callee P w K mg k "_law_field_row" ["fields"] d_law_field_row) (C_law_kind_row : Callee P w K mg k "_law_kind_row" ["kind"] d_law_kind_row) (C_law_block_rows : Callee P w K mg k "_law_block_rows" ["block", "depth"] d_law_block_rows) (z_int : mg "int" = none) (z_len : mg "len" = none) (z_range : mg "range" = none)
    (len : ∀ ds m P EX, d ds m P EX → ds.length = 1) (rd : ∀ ds m Q EX, d ds m Q EX → Go Q (b_law_program_rows d_law_field_row d_law_kind_row d_law_block_rows) (dstart ["program", "rows", "record", "tree", "head", "k"] ds) m) : Callee P w K mg (k + 1) "_law_program_rows" ["program"] d :=
  F.callee sc_law_program_rows len (b_law_program_rows d_law_field_row d_law_kind_row d_law_block_rows) rd fun base f cdv A outer s H E hr =>
    ((qss_cons (qs_set (i := 1) sc_law_program_rows.nd rfl (by first | exact Or.inl rfl | exact Or.inr rfl) (qe_lst qa_nil))
    (qss_cons (qs_forS (vs := [2]) PassesOwn.never rfl (qe_ix (qv 0) qe_int (fun _ _ => rfl)) (qg_name (i := 2) sc_law_program_rows.nd rfl (by first | exact Or.inl rfl | exact Or.inr rfl) (by decide))
    (qss_one (qs_expr (qe_bm md_append PySem.F.plainAttrs_list PySem.F.slot_list_append PySem.F.type_list_append (qv 1) (qa_cons (qe_tup (qa_cons qe_int (qa_cons (qe_op od_add (qe_op od_add (qe_lst (qa_cons qe_str (qa_cons (qe_ix (qv 2) qe_int (fun _ _ => rfl)) (qa_cons qe_str qa_nil)))) (qe_fn C_law_field_row hr (by rfl) (qa_cons (qe_ix (qv 2) qe_int (fun _ _ => rfl)) qa_nil))) (qe_lst (qa_cons qe_str qa_nil))) qa_nil))) qa_nil)))))
    (qss_cons (qs_forS (vs := [3]) PassesOwn.never rfl (qe_ix (qv 0) qe_int (fun _ _ => rfl)) (qg_name (i := 3) sc_law_program_rows.nd rfl (by first | exact Or.inl rfl | exact Or.inr rfl) (by decide))
    (qss_cons (qs_set (i := 4) sc_law_program_rows.nd rfl (by first | exact Or.inl rfl | exact Or.inr rfl) (qe_op od_add (qe_op od_add (qe_op od_add (qe_lst (qa_cons qe_str (qa_cons (qe_ix (qv 3) qe_int (fun _ _ => rfl)) (qa_cons qe_str qa_nil)))) (qe_fn C_law_field_row hr (by rfl) (qa_cons (qe_ix (qv 3) qe_int (fun _ _ => rfl)) qa_nil))) (qe_lst (qa_cons qe_str (qa_cons qe_str qa_nil)))) (qe_fn C_law_kind_row hr (by rfl) (qa_cons (qe_ix (qv 3) qe_int (fun _ _ => rfl)) qa_nil))))
    (qss_cons (qs_forR1 (vs := [5]) PassesOwn.never rfl (by rfl) z_range (qa_cons (qe_callB (cd_len) (by rfl) z_len PySem.boot_len (qa_cons (qe_ix (qv 3) qe_int (fun _ _ => rfl)) qa_nil)) qa_nil) (qg_name (i := 5) sc_law_program_rows.nd rfl (by first | exact Or.inl rfl | exact Or.inr rfl) (by decide))
    (qss_one (qs_expr (qe_bm md_extend PySem.F.plainAttrs_list PySem.F.slot_list_extend PySem.F.type_list_extend (qv 4) (qa_cons (qe_lst (qa_cons (qe_ix (qe_lst (qa_cons qe_str (qa_cons qe_str qa_nil))) (qe_callTy cd_int (by rfl) z_int PyProof.Rows.boot_int (qa_cons (qe_cmp od_gt (qv 5) qe_int (nomark _)) qa_nil)) (fun _ _ => rfl)) (qa_cons (qe_ix (qe_ix (qv 3) qe_int (fun _ _ => rfl)) (qv 5) (fun _ _ => rfl)) qa_nil))) qa_nil)))))
    (qss_cons (qs_expr (qe_bm md_append PySem.F.plainAttrs_list PySem.F.slot_list_append PySem.F.type_list_append (qv 1) (qa_cons (qe_tup (qa_cons qe_int (qa_cons (qe_op od_add (qv 4) (qe_lst (qa_cons qe_str qa_nil))) qa_nil))) qa_nil)))
    (qss_cons (qs_expr (qe_bm md_extend PySem.F.plainAttrs_list PySem.F.slot_list_extend PySem.F.type_list_extend (qv 1) (qa_cons (qe_fn C_law_block_rows hr (by rfl) (qa_cons (qe_ix (qv 3) qe_int (fun _ _ => rfl)) (qa_cons qe_int qa_nil))) qa_nil)))
    (qss_one (qs_expr (qe_bm md_append PySem.F.plainAttrs_list PySem.F.slot_list_append PySem.F.type_list_append (qv 1) (qa_cons (qe_tup (qa_cons qe_int (qa_cons (qe_lst (qa_cons qe_str qa_nil)) qa_nil))) qa_nil)))))))))
    (qss_one (qs_ret (qv 1)))))))
abbrev s_law_raw : Stmt := topS 69
theorem sc_law_raw : FnScope ["program", "tokens", "row", "token"] ["program"] (defScope s_law_raw) := ⟨rfl, rfl, rfl, by decide +kernel, rfl, by decide +kernel, by decide +kernel⟩
def b_law_raw (d_law_program_rows : DSp) : TDS := (dSeq (dAsg (dLst dNil) (dName 1))
    (dSeq (dForS (dCall d_law_program_rows (dCons (dVar 0) dNil)) (dName 2)
    (dForS (dOp rIxD (dVar 2) (dC (.int 1))) (dName 3)
    (dIf (dB (dOp rEqD (dVar 3) (dC (.str "&mut"))))
    (dDrop (dBM isLst rExt (dVar 1) (dCons (dLst (dCons (dC (.str "&")) (dCons (dC (.str "mut")) dNil))) dNil)))
    (dIf (dAnd (dB (dOp rGtD (dCB rLen (dCons (dVar 3) dNil)) (dC (.int 1)))) (dAnd (dB (dOp rEqD (dOp rIxD (dVar 3) (dC (.int 0))) (dC (.str "-")))) (dB (dOp rNeD (dVar 3) (dC (.str "->"))))))
    (dDrop (dBM isLst rExt (dVar 1) (dCons (dLst (dCons (dC (.str "-")) (dCons (dSl (dVar 3) (dPart (dC (.int 1))) dNoPart) dNil))) dNil)))
    (dDrop (dBM isLst rApp (dVar 1) (dCons (dVar 3) dNil)))))))
    (dRet (dVar 1))))
theorem ok_law_raw {P : Program} {w : World} {K : PySem.W.Frag} {mg : Str → Option Value} {k : Nat} {d d_law_program_rows : DSp} (F : FunAt K mg "_law_raw" s_law_raw ["program"]) (C_law_program_rows : Callee P w K mg k "_law_program_rows" ["program"] d_law_program_rows) (z_len : mg "len" = none)
    (len : ∀ ds m P EX, d ds m P EX → ds.length = 1) (rd : ∀ ds m Q EX, d ds m Q EX → Go Q (b_law_raw d_law_program_rows) (dstart ["program", "tokens", "row", "token"] ds) m) : Callee P w K mg (k + 1) "_law_raw" ["program"] d :=
  F.callee sc_law_raw len (b_law_raw d_law_program_rows) rd fun base f cdv A outer s H E hr =>
    ((qss_cons (qs_set (i := 1) sc_law_raw.nd rfl (by first | exact Or.inl rfl | exact Or.inr rfl) (qe_lst qa_nil))
    (qss_cons (qs_forS (vs := [2]) PassesOwn.never rfl (qe_fn C_law_program_rows hr (by rfl) (qa_cons (qv 0) qa_nil)) (qg_name (i := 2) sc_law_raw.nd rfl (by first | exact Or.inl rfl | exact Or.inr rfl) (by decide))
    (qss_one (qs_forS (vs := [3]) PassesOwn.never rfl (qe_ix (qv 2) qe_int (fun _ _ => rfl)) (qg_name (i := 3) sc_law_raw.nd rfl (by first | exact Or.inl rfl | exact Or.inr rfl) (by decide))
    (qss_one (qs_if (qt_cmp (od_eq hr.units) (qv 3) qe_str (nomark _))
    (qss_one (qs_expr (qe_bm md_extend PySem.F.plainAttrs_list PySem.F.slot_list_extend PySem.F.type_list_extend (qv 1) (qa_cons (qe_lst (qa_cons qe_str (qa_cons qe_str qa_nil))) qa_nil))))
    (qss_one (qs_if (PW.pt (qw_and (qt_cmp od_gt (qe_callB (cd_len) (by rfl) z_len PySem.boot_len (qa_cons (qv 3) qa_nil)) qe_int (nomark _)) (qw_and (qt_cmp (od_eq hr.units) (qe_ix (qv 3) qe_int (fun _ _ => rfl)) qe_str (nomark _)) (qw_and1 (qt_cmp (od_ne hr.units) (qv 3) qe_str (nomark _))))))
    (qss_one (qs_expr (qe_bm md_extend PySem.F.plainAttrs_list PySem.F.slot_list_extend PySem.F.type_list_extend (qv 1) (qa_cons (qe_lst (qa_cons qe_str (qa_cons (qe_slice (qv 3) (qo_some qe_int) qo_none) qa_nil))) qa_nil))))
    (qss_one (qs_expr (qe_bm md_append PySem.F.plainAttrs_list PySem.F.slot_list_append PySem.F.type_list_append (qv 1) (qa_cons (qv 3) qa_nil)))))))))))
    (qss_one (qs_ret (qv 1))))))
abbrev s_law_gap : Stmt := topS 70
theorem sc_law_gap : FnScope ["state", "script", "before", "token", "chars", "gap"] ["state", "script", "before", "token"] (defScope s_law_gap) := ⟨rfl, rfl, rfl, by decide +kernel, rfl, by decide +kernel, by decide +kernel⟩
def b_law_gap (d_law_pick : DSp) : TDS := (dSeq (dAsg (dC (.str "abcdefghijklmnopqrstuvwxyzABCDEFGHIJKLMNOPQRSTUVWXYZ0123456789_")) (dName 4))
    (dSeq (dAsg (dOp rIxD (dLst (dCons (dC (.str "")) (dCons (dC (.str "")) (dCons (dC (.str " ")) (dCons (dC (.str "  ")) (dCons (dC (.str "\n")) (dCons (dC (.str " \n\n ")) dNil))))))) (dCall d_law_pick (dCons (dVar 0) (dCons (dVar 1) (dCons (dC (.int 6)) dNil))))) (dName 5))
    (dSeq (dIf (dOr (dB (dOp rNeD (dVar 5) (dC (.str "")))) (dOr (dB (dOp rNotInD (dSl (dVar 2) (dPart (dUn rNegD (dC (.int 1)))) dNoPart) (dVar 4))) (dB (dOp rNotInD (dSl (dVar 3) dNoPart (dPart (dC (.int 1)))) (dVar 4)))))
    (dRet (dVar 5))
    dNext)
    (dSeq (dIf (dAnd (dB (dOp rInD (dSl (dVar 2) dNoPart (dPart (dC (.int 1)))) (dSl (dVar 4) (dPart (dC (.int 52))) (dPart (dC (.int 62)))))) (dB (dOp rInD (dSl (dVar 3) dNoPart (dPart (dC (.int 1)))) (dSl (dVar 4) dNoPart (dPart (dC (.int 52)))))))
    (dRet (dVar 5))
    dNext)
    (dRet (dC (.str " ")))))))
theorem ok_law_gap {P : Program} {w : World} {K : PySem.W.Frag} {mg : Str → Option Value} {k : Nat} {d d_law_pick : DSp} (F : FunAt K mg "_law_gap" s_law_gap ["state", "script", "before", "token"]) (C_law_pick : Callee P w K mg k "_law_pick" ["state", "script", "many"] d_law_pick)
    (len : ∀ ds m P EX, d ds m P EX → ds.length = 4) (rd : ∀ ds m Q EX, d ds m Q EX → Go Q (b_law_gap d_law_pick) (dstart ["state", "script", "before", "token", "chars", "gap"] ds) m) : Callee P w K mg (k + 1) "_law_gap" ["state", "script", "before", "token"] d :=
  F.callee sc_law_gap len (b_law_gap d_law_pick) rd fun base f cdv A outer s H E hr =>
    ((qss_cons (qs_set (i := 4) sc_law_gap.nd rfl (by first | exact Or.inl rfl | exact Or.inr rfl) qe_str)
    (qss_cons (qs_set (i := 5) sc_law_gap.nd rfl (by first | exact Or.inl rfl | exact Or.inr rfl) (qe_ix (qe_lst (qa_cons qe_str (qa_cons qe_str (qa_cons qe_str (qa_cons qe_str (qa_cons qe_str (qa_cons qe_str qa_nil))))))) (qe_fn C_law_pick hr (by rfl) (qa_cons (qv 0) (qa_cons (qv 1) (qa_cons qe_int qa_nil)))) (fun _ _ => rfl)))
    (qss_cons (qs_if (PW.pt (qw_or (qt_cmp (od_ne hr.units) (qv 5) qe_str (nomark _)) (qw_or (qt_cmp od_notInD (qe_slice (qv 2) (qo_some (qe_neg qe_int)) qo_none) (qv 4) (by rfl)) (qw_or1 (qt_cmp od_notInD (qe_slice (qv 3) qo_none (qo_some qe_int)) (qv 4) (by rfl))))))
    (qss_one (qs_ret (qv 5)))
    qss_nil)
    (qss_cons (qs_if (PW.pt (qw_and (qt_cmp od_inD (qe_slice (qv 2) qo_none (qo_some qe_int)) (qe_slice (qv 4) (qo_some qe_int) (qo_some qe_int)) (by rfl)) (qw_and1 (qt_cmp od_inD (qe_slice (qv 3) qo_none (qo_some qe_int)) (qe_slice (qv 4) qo_none (qo_some qe_int)) (by rfl)))))
    (qss_one (qs_ret (qv 5)))
    qss_nil)
    (qss_one (qs_ret qe_str)))))))
abbrev s_law_spaced : Stmt := topS 71
theorem sc_law_spaced : FnScope ["state", "script", "tokens", "apart", "text", "line", "column", "places", "before", "k", "token", "gap", "char"] ["state", "script", "tokens", "apart"] (defScope s_law_spaced) := ⟨rfl, rfl, rfl, by decide +kernel, rfl, by decide +kernel, by decide +kernel⟩
def b_law_spaced (d_law_gap : DSp) : TDS := (dSeq (dAsg (dC (.str "")) (dName 4))
    (dSeq (dAsg (dC (.int 1)) (dName 5))
    (dSeq (dAsg (dC (.int 1)) (dName 6))
    (dSeq (dAsg (dLst dNil) (dName 7))
    (dSeq (dAsg (dC (.str " ")) (dName 8))
    (dSeq (dForR1 (dCons (dOp rAdd (dCB rLen (dCons (dVar 2) dNil)) (dC (.int 1))) dNil) (dName 9)
    (dSeq (dAsg (dC (.str " ")) (dName 10))
    (dSeq (dIf (dB (dOp rLtD (dVar 9) (dCB rLen (dCons (dVar 2) dNil))))
    (dAsg (dOp rIxD (dVar 2) (dVar 9)) (dName 10))
    dNext)
    (dSeq (dAsg (dCall d_law_gap (dCons (dVar 0) (dCons (dVar 1) (dCons (dVar 8) (dCons (dVar 10) dNil))))) (dName 11))
    (dSeq (dIf (dAnd (dB (dOp rEqD (dVar 11) (dC (.str "")))) (dOr (dB (dOp rEqD (dVar 9) (dVar 3))) (dB (dOp rEqD (dVar 9) (dOp rAdd (dVar 3) (dC (.int 1)))))))
    (dAsg (dC (.str " ")) (dName 11))
    dNext)
    (dSeq (dForC (dVar 11) (dName 12)
    (dSeq (dAsg (dOp rAdd (dVar 6) (dC (.int 1))) (dName 6))
    (dIf (dB (dOp rEqD (dVar 12) (dC (.str "\n"))))
    (dSeq (dAsg (dOp rAdd (dVar 5) (dC (.int 1))) (dName 5))
    (dAsg (dC (.int 1)) (dName 6)))
    dNext)))
    (dSeq (dDrop (dBM isLst rApp (dVar 7) (dCons (dTup (dCons (dVar 5) (dCons (dVar 6) dNil))) dNil)))
    (dSeq (dAsg (dOp rAdd (dVar 4) (dVar 11)) (dName 4))
    (dSeq (dIf (dB (dOp rLtD (dVar 9) (dCB rLen (dCons (dVar 2) dNil))))
    (dSeq (dAsg (dOp rAdd (dVar 4) (dVar 10)) (dName 4))
    (dAsg (dOp rAdd (dVar 6) (dCB rLen (dCons (dVar 10) dNil))) (dName 6)))
    dNext)
    (dAsg (dVar 10) (dName 8)))))))))))
    (dRet (dTup (dCons (dVar 4) (dCons (dVar 7) dNil))))))))))
theorem ok_law_spaced {P : Program} {w : World} {K : PySem.W.Frag} {mg : Str → Option Value} {k : Nat} {d d_law_gap : DSp} (F : FunAt K mg "_law_spaced" s_law_spaced ["state", "script", "tokens", "apart"]) (C_law_gap : Callee P w K mg k "_law_gap" ["state", "script", "before", "token"] d_law_gap) (z_len : mg "len" = none) (z_range : mg "range" = none)
    (len : ∀ ds m P EX, d ds m P EX → ds.length = 4) (rd : ∀ ds m Q EX, d ds m Q EX → Go Q (b_law_spaced d_law_gap) (dstart ["state", "script", "tokens", "apart", "text", "line", "column", "places", "before", "k", "token", "gap", "char"] ds) m) : Callee P w K mg (k + 1) "_law_spaced" ["state", "script", "tokens", "apart"] d :=
  F.callee sc_law_spaced len (b_law_spaced d_law_gap) rd fun base f cdv A outer s H E hr =>
    ((qss_cons (qs_set (i := 4) sc_law_spaced.nd rfl (by first | exact Or.inl rfl | exact Or.inr rfl) qe_str)
    (qss_cons (qs_set (i := 5) sc_law_spaced.nd rfl (by first | exact Or.inl rfl | exact Or.inr rfl) qe_int)
    (qss_cons (qs_set (i := 6) sc_law_spaced.nd rfl (by first | exact Or.inl rfl | exact Or.inr rfl) qe_int)
    (qss_cons (qs_set (i := 7) sc_law_spaced.nd rfl (by first | exact Or.inl rfl | exact Or.inr rfl) (qe_lst qa_nil))
    (qss_cons (qs_set (i := 8) sc_law_spaced.nd rfl (by first | exact Or.inl rfl | exact Or.inr rfl) qe_str)
    (qss_cons (qs_forR1 (vs := [9]) PassesOwn.never rfl (by rfl) z_range (qa_cons (qe_op od_add (qe_callB (cd_len) (by rfl) z_len PySem.boot_len (qa_cons (qv 2) qa_nil)) qe_int) qa_nil) (qg_name (i := 9) sc_law_spaced.nd rfl (by first | exact Or.inl rfl | exact Or.inr rfl) (by decide))
    (qss_cons (qs_set (i := 10) sc_law_spaced.nd rfl (by first | exact Or.inl rfl | exact Or.inr rfl) qe_str)
    (qss_cons (qs_if (qt_cmp od_lt (qv 9) (qe_callB (cd_len) (by rfl) z_len PySem.boot_len (qa_cons (qv 2) qa_nil)) (nomark _))
    (qss_one (qs_set (i := 10) sc_law_spaced.nd rfl (by first | exact Or.inl rfl | exact Or.inr rfl) (qe_ix (qv 2) (qv 9) (fun _ _ => rfl))))
    qss_nil)
    (qss_cons (qs_set (i := 11) sc_law_spaced.nd rfl (by first | exact Or.inl rfl | exact Or.inr rfl) (qe_fn C_law_gap hr (by rfl) (qa_cons (qv 0) (qa_cons (qv 1) (qa_cons (qv 8) (qa_cons (qv 10) qa_nil))))))
    (qss_cons (qs_if (PW.pt (qw_and (qt_cmp (od_eq hr.units) (qv 11) qe_str (nomark _)) (qw_and1 (PW.pt (qw_or (qt_cmp (od_eq hr.units) (qv 9) (qv 3) (nomark _)) (qw_or1 (qt_cmp (od_eq hr.units) (qv 9) (qe_op od_add (qv 3) qe_int) (nomark _))))))))
    (qss_one (qs_set (i := 11) sc_law_spaced.nd rfl (by first | exact Or.inl rfl | exact Or.inr rfl) qe_str))
    qss_nil)
    (qss_cons (qs_forC (vs := [12]) PassesOwn.never rfl (qv 11) (qg_name (i := 12) sc_law_spaced.nd rfl (by first | exact Or.inl rfl | exact Or.inr rfl) (by decide))
    (qss_cons (qs_set (i := 6) sc_law_spaced.nd rfl (by first | exact Or.inl rfl | exact Or.inr rfl) (qe_op od_add (qv 6) qe_int))
    (qss_one (qs_if (qt_cmp (od_eq hr.units) (qv 12) qe_str (nomark _))
    (qss_cons (qs_set (i := 5) sc_law_spaced.nd rfl (by first | exact Or.inl rfl | exact Or.inr rfl) (qe_op od_add (qv 5) qe_int))
    (qss_one (qs_set (i := 6) sc_law_spaced.nd rfl (by first | exact Or.inl rfl | exact Or.inr rfl) qe_int)))
    qss_nil))))
    (qss_cons (qs_expr (qe_bm md_append PySem.F.plainAttrs_list PySem.F.slot_list_append PySem.F.type_list_append (qv 7) (qa_cons (qe_tup (qa_cons (qv 5) (qa_cons (qv 6) qa_nil))) qa_nil)))
    (qss_cons (qs_set (i := 4) sc_law_spaced.nd rfl (by first | exact Or.inl rfl | exact Or.inr rfl) (qe_op od_add (qv 4) (qv 11)))
    (qss_cons (qs_if (qt_cmp od_lt (qv 9) (qe_callB (cd_len) (by rfl) z_len PySem.boot_len (qa_cons (qv 2) qa_nil)) (nomark _))
    (qss_cons (qs_set (i := 4) sc_law_spaced.nd rfl (by first | exact Or.inl rfl | exact Or.inr rfl) (qe_op od_add (qv 4) (qv 10)))
    (qss_one (qs_set (i := 6) sc_law_spaced.nd rfl (by first | exact Or.inl rfl | exact Or.inr rfl) (qe_op od_add (qv 6) (qe_callB (cd_len) (by rfl) z_len PySem.boot_len (qa_cons (qv 10) qa_nil))))))
    qss_nil)
    (qss_one (qs_set (i := 8) sc_law_spaced.nd rfl (by first | exact Or.inl rfl | exact Or.inr rfl) (qv 10))))))))))))
    (qss_one (qs_ret (qe_tup (qa_cons (qv 4) (qa_cons (qv 7) qa_nil))))))))))))
abbrev s_law : Stmt := topS 72
theorem sc_law : FnScope ["script", "state", "records", "k", "trees", "program", "text"] ["script"] (defScope s_law) := ⟨rfl, rfl, rfl, by decide +kernel, rfl, by decide +kernel, by decide +kernel⟩
def b_law (d_law_fields d_law_pick d_law_big d_law_function d_law_spaced d_law_raw d_law_same d_parse_program : DSp) : TDS := (dSeq (dAsg (dLst (dCons (dC (.int 0)) (dCons (dC (.int 0)) (dCons (dC (.int 1)) (dCons (dC (.int 9)) dNil))))) (dName 1))
    (dSeq (dAsg (dLst dNil) (dName 2))
    (dSeq (dForR1 (dCons (dCall d_law_pick (dCons (dVar 1) (dCons (dVar 0) (dCons (dC (.int 4)) dNil)))) dNil) (dName 3)
    (dDrop (dBM isLst rApp (dVar 2) (dCons (dTup (dCons (dCall d_law_big (dCons (dVar 1) (dCons (dVar 0) dNil))) (dCons (dCall d_law_fields (dCons (dVar 1) (dCons (dVar 0) (dCons (dOp rAdd (dC (.int 1)) (dCall d_law_pick (dCons (dVar 1) (dCons (dVar 0) (dCons (dC (.int 7)) dNil))))) dNil)))) dNil))) dNil))))
    (dSeq (dAsg (dLst dNil) (dName 4))
    (dSeq (dForR1 (dCons (dCall d_law_pick (dCons (dVar 1) (dCons (dVar 0) (dCons (dC (.int 4)) dNil)))) dNil) (dName 3)
    (dDrop (dBM isLst rApp (dVar 4) (dCons (dCall d_law_function (dCons (dVar 1) (dCons (dVar 0) (dCons (dTup dNil) dNil)))) dNil))))
    (dSeq (dAsg (dTup (dCons (dCB rTuple (dCons (dVar 2) dNil)) (dCons (dCB rTuple (dCons (dVar 4) dNil)) dNil))) (dName 5))
    (dSeq (dAsg (dOp rIxD (dCall d_law_spaced (dCons (dVar 1) (dCons (dVar 0) (dCons (dCall d_law_raw (dCons (dVar 5) dNil)) (dCons (dUn rNegD (dC (.int 9))) dNil))))) (dC (.int 0))) (dName 6))
    (dRet (dAndV (dCall d_law_same (dCons (dCall d_parse_program (dCons (dVar 6) dNil)) (dCons (dVar 5) dNil))) (dCall d_law_same (dCons (dCall d_parse_program (dCons (dVar 6) dNil)) (dCons (dVar 5) dNil))))))))))))
theorem ok_law {P : Program} {w : World} {K : PySem.W.Frag} {mg : Str → Option Value} {k : Nat} {d d_law_fields d_law_pick d_law_big d_law_function d_law_spaced d_law_raw d_law_same d_parse_program : DSp} (F : FunAt K mg "law" s_law ["script"]) (C_law_fields : Callee P w K mg k "_law_fields" ["state", "script", "many"] d_law_fields) (C_law_pick : Callee P w K mg k "_law_pick" ["state", "script", "many"] d_law_pick) (C_law_big : Callee P w K mg k "_law_big" ["state", "script"] d_law_big) (C_law_function : Callee P w K mg k "_law_function" ["state", "script", "block"] d_law_function) (C_law_spaced : Callee P w K mg k "_law_spaced" ["state", "script", "tokens", "apart"] d_law_spaced) (C_law_raw : Callee P w K mg k "_law_raw" ["program"] d_law_raw) (C_law_same : Callee P w K mg k "_law_same" ["actual", "due"] d_law_same) (C_parse_program : Callee P w K mg k "parse_program" ["text"] d_parse_program) (z_range : mg "range" = none) (z_tuple : mg "tuple" = none)
    (len : ∀ ds m P EX, d ds m P EX → ds.length = 1) (rd : ∀ ds m Q EX, d ds m Q EX → Go Q (b_law d_law_fields d_law_pick d_law_big d_law_function d_law_spaced d_law_raw d_law_same d_parse_program) (dstart ["script", "state", "records", "k", "trees", "program", "text"] ds) m) : Callee P w K mg (k + 1) "law" ["script"] d :=
  F.callee sc_law len (b_law d_law_fields d_law_pick d_law_big d_law_function d_law_spaced d_law_raw d_law_same d_parse_program) rd fun base f cdv A outer s H E hr =>
    ((qss_cons (qs_set (i := 1) sc_law.nd rfl (by first | exact Or.inl rfl | exact Or.inr rfl) (qe_lst (qa_cons qe_int (qa_cons qe_int (qa_cons qe_int (qa_cons qe_int qa_nil))))))
    (qss_cons (qs_set (i := 2) sc_law.nd rfl (by first | exact Or.inl rfl | exact Or.inr rfl) (qe_lst qa_nil))
    (qss_cons (qs_forR1 (vs := [3]) PassesOwn.never rfl (by rfl) z_range (qa_cons (qe_fn C_law_pick hr (by rfl) (qa_cons (qv 1) (qa_cons (qv 0) (qa_cons qe_int qa_nil)))) qa_nil) (qg_name (i := 3) sc_law.nd rfl (by first | exact Or.inl rfl | exact Or.inr rfl) (by decide))
    (qss_one (qs_expr (qe_bm md_append PySem.F.plainAttrs_list PySem.F.slot_list_append PySem.F.type_list_append (qv 2) (qa_cons (qe_tup (qa_cons (qe_fn C_law_big hr (by rfl) (qa_cons (qv 1) (qa_cons (qv 0) qa_nil))) (qa_cons (qe_fn C_law_fields hr (by rfl) (qa_cons (qv 1) (qa_cons (qv 0) (qa_cons (qe_op od_add qe_int (qe_fn C_law_pick hr (by rfl) (qa_cons (qv 1) (qa_cons (qv 0) (qa_cons qe_int qa_nil))))) qa_nil)))) qa_nil))) qa_nil)))))
    (qss_cons (qs_set (i := 4) sc_law.nd rfl (by first | exact Or.inl rfl | exact Or.inr rfl) (qe_lst qa_nil))
    (qss_cons (qs_forR1 (vs := [3]) PassesOwn.never rfl (by rfl) z_range (qa_cons (qe_fn C_law_pick hr (by rfl) (qa_cons (qv 1) (qa_cons (qv 0) (qa_cons qe_int qa_nil)))) qa_nil) (qg_name (i := 3) sc_law.nd rfl (by first | exact Or.inl rfl | exact Or.inr rfl) (by decide))
    (qss_one (qs_expr (qe_bm md_append PySem.F.plainAttrs_list PySem.F.slot_list_append PySem.F.type_list_append (qv 4) (qa_cons (qe_fn C_law_function hr (by rfl) (qa_cons (qv 1) (qa_cons (qv 0) (qa_cons (qe_tup qa_nil) qa_nil)))) qa_nil)))))
    (qss_cons (qs_set (i := 5) sc_law.nd rfl (by first | exact Or.inl rfl | exact Or.inr rfl) (qe_tup (qa_cons (qe_callTy cd_tuple (by rfl) z_tuple PyProof.Rows.boot_tuple (qa_cons (qv 2) qa_nil)) (qa_cons (qe_callTy cd_tuple (by rfl) z_tuple PyProof.Rows.boot_tuple (qa_cons (qv 4) qa_nil)) qa_nil))))
    (qss_cons (qs_set (i := 6) sc_law.nd rfl (by first | exact Or.inl rfl | exact Or.inr rfl) (qe_ix (qe_fn C_law_spaced hr (by rfl) (qa_cons (qv 1) (qa_cons (qv 0) (qa_cons (qe_fn C_law_raw hr (by rfl) (qa_cons (qv 5) qa_nil)) (qa_cons (qe_neg qe_int) qa_nil))))) qe_int (fun _ _ => rfl)))
    (qss_one (qs_ret (qe_and (qe_fn C_law_same hr (by rfl) (qa_cons (qe_fn C_parse_program hr (by rfl) (qa_cons (qv 6) qa_nil)) (qa_cons (qv 5) qa_nil))) (qe_one (qe_fn C_law_same hr (by rfl) (qa_cons (qe_fn C_parse_program hr (by rfl) (qa_cons (qv 6) qa_nil)) (qa_cons (qv 5) qa_nil)))))))))))))))
local macro_rules | `(tactic| one_place) => `(tactic| first
  | assumption | (apply Ne.symm; assumption) | exact neA (by assumption) (by assumption) | exact (neA (by assumption) (by assumption)).symm | fail)
local macro_rules | `(tactic| lcg_src) => `(tactic| first
  | assumption | exact put_same | (refine Eq.trans (put_ne ?_) ?_; one_place; lcg_src) | fail)
local macro_rules | `(tactic| one_sign) => `(tactic| first
  | omega | (simp only [List.length_cons, List.length_nil, List.length_append, List.length_map, List.length_take]; omega) | (simp only [PySem.sizeLine_eq, List.length_cons, List.length_nil, List.length_append, List.length_map, List.length_take]; omega)
  | exact szA (by first | assumption | exact Pl.one (by assumption) | exact plLit (n := 100) (by decide +kernel) (by decide +kernel)) (by first | assumption | exact Pl.one (by assumption) | exact plLit (n := 100) (by decide +kernel) (by decide +kernel)) (by omega)
  | exact Or.inr ⟨by omega, by omega⟩ | exact Or.inl ⟨by omega, by omega⟩
  | exact ⟨by decide, by decide, by decide⟩
  | exact wide_div (b := 64) (by omega) (by omega) (by decide) (by decide) | decide)
local macro_rules | `(tactic| got_up) => `(tactic| first
  | rfl | assumption | exact atI_nat (by assumption) | exact atI_int (by first | assumption | omega) (by first | assumption | (simp only [List.length_map] at *; omega)))
local macro_rules | `(tactic| lcg_sub) => `(tactic| first
  | with_reducible refine s_seqA ?_ | with_reducible refine s_seqD ?_ | with_reducible refine s_seqIR ?_ | with_reducible refine s_seqIS ?_ | with_reducible refine s_seqISS ?_ | with_reducible refine s_forR1 ?_ | with_reducible refine s_forR2 ?_ | with_reducible refine s_forS ?_ | with_reducible refine r_FST ?_ | with_reducible refine r_FSR ?_ | ((with_reducible refine' r_FSL ?h1 ?h2); (case h1 => lcg_src)) | with_reducible refine s_lcS ?_ | with_reducible refine r_CST ?_ | with_reducible refine r_CSR ?_ | ((with_reducible refine' r_CSL ?h1 ?h2); (case h1 => lcg_src)) | with_reducible refine s_lcR1 ?_ | with_reducible refine s_bm ?_ | with_reducible refine s_asg ?_ | with_reducible refine s_if ?_ | with_reducible refine s_ret ?_ | with_reducible refine s_drop ?_ | with_reducible refine s_next ?_
  | with_reducible refine s_name ?_ | (refine' s_var ?h1 ?h2; (case h1 => rfl)) | with_reducible refine s_c ?_ | with_reducible refine s_op ?_ | with_reducible refine s_cb ?_ | with_reducible refine s_call ?_
  | with_reducible refine s_nil ?_ | with_reducible refine s_cons ?_ | with_reducible refine s_ifE ?_ | with_reducible refine s_andV ?_ | with_reducible refine s_orV ?_ | with_reducible refine s_notV ?_
  | with_reducible refine s_B ?_ | with_reducible refine s_and ?_ | with_reducible refine s_or ?_ | with_reducible refine s_not ?_ | with_reducible refine s_tru ?_ | with_reducible refine s_yes ?_ | with_reducible refine s_truB ?_ | with_reducible refine s_truT ?_
  | with_reducible refine s_chain ?_ | with_reducible refine s_gsub ?_ | with_reducible refine s_sl ?_ | with_reducible refine s_opn ?_ | with_reducible refine s_ops ?_
  | with_reducible refine s_tup ?_ | with_reducible refine s_lst ?_
  | (refine ⟨(by first | exact Nat.zero_le _ | (show _ ≤ sizeLine; (try simp only [List.length_cons, List.length_nil]); decide)), ?_⟩)
  | with_reducible refine' r_addI ?_ | with_reducible refine' r_sub ?_ | with_reducible refine' r_lt ?_ | with_reducible refine' r_le ?_ | with_reducible refine' r_gt ?_ | with_reducible refine' r_ge ?_
  | with_reducible refine' r_eqI ?_ | with_reducible refine' r_eqS ?_ | with_reducible refine' r_neI ?_ | with_reducible refine' r_neS ?_ | with_reducible refine' r_eqIS ?_ | with_reducible refine' r_eqSI ?_
  | ((with_reducible refine' r_mul ?h1 ?h2); (case h1 => one_sign)) | ((with_reducible refine' r_mod ?h1 ?h2); (case h1 => one_sign)) | ((with_reducible refine' r_fdiv ?h1 ?h2); (case h1 => one_sign)) | ((with_reducible refine' r_pow ?h1 ?h2); (case h1 => one_sign))
  | ((with_reducible refine' r_addT ?h1 ?h2); (case h1 => one_sign)) | ((with_reducible refine' r_addS ?h1 ?h2); (case h1 => one_sign)) | ((with_reducible refine' r_addL ?h1 ?h2 ?h3 ?h4); (case h1 => lcg_src); (case h2 => lcg_src); (case h3 => one_sign))
  | ((with_reducible refine' r_ixT ?h1 ?h2); (case h1 => got_up)) | ((with_reducible refine' r_ixL ?h1 ?h2 ?h3); (case h1 => lcg_src); (case h2 => got_up)) | ((with_reducible refine' r_ixR ?h1 ?h2); (case h1 => got_up))
  | with_reducible refine' r_lenT ?_ | ((with_reducible refine' r_lenL ?h1 ?h2); (case h1 => lcg_src)) | with_reducible refine' r_lenR ?_ | ((with_reducible refine' r_lenS ?h1 ?h2); (case h1 => one_sign))
  | with_reducible refine' r_int ?_ | with_reducible refine' r_abs ?_ | ((with_reducible refine' r_tupL ?h1 ?h2); (case h1 => lcg_src)) | with_reducible refine' r_tupR ?_ | with_reducible refine' r_tupT ?_
  | ((with_reducible refine' r_app ?h1 ?h2 ?h3); (case h1 => lcg_src); (case h2 => one_sign); (try simp only [put_put]); try rw [put_swap (by one_place)])
  | ((refine' ⟨r_isl ?h1, ?h2⟩); (case h1 => lcg_src))
  | ((with_reducible refine' r_inL ?h1 ?h2); (case h1 => lcg_src)) | with_reducible refine' r_inT ?_ | ((with_reducible refine' r_ninL ?h1 ?h2); (case h1 => lcg_src))
  | ((with_reducible refine' r_set ?h1 ?h2 ?h3); (case h1 => lcg_src); (case h2 => first | rfl | decide); try simp only [put_put, List.set_cons_zero, List.set_cons_succ, Int.reduceToNat])
  | with_reducible refine ite_nt ?_ | with_reducible refine ite_nf ?_ | with_reducible refine ite_t ?_ | with_reducible refine ite_f ?_
  | with_reducible refine iteD (fun _ => ?_) (fun _ => ?_) | with_reducible refine iteN (fun _ => ?_) (fun _ => ?_))
local macro_rules | `(tactic| lcg_sub) => `(tactic| (with_reducible refine s_new (fun p hp => ?_); (try simp only [put_none] at hp); (repeat' (rename _ ∧ _ => hA; obtain ⟨_, _⟩ := hA))))
local macro_rules | `(tactic| lcg_sub) => `(tactic| ((with_reducible refine' use_pick2 ?h1 ?h2 ?h3 ?h4 ?h5); (case h1 => lcg_src); (case h2 => first | assumption | exact S4.Ok.d (by assumption) _); (case h3 => one_sign); (case h4 => one_sign); intro _ _ _ _ _ _; try simp only [put_put]))
local macro_rules | `(tactic| one_item) => `(tactic| (intro x o h; simp only [put] at h ⊢; grind))
local macro_rules | `(tactic| lcg_off) => `(tactic| repeat' (lcg_sub; try dsimp only [List.set_cons_zero, List.set_cons_succ]))
local macro_rules | `(tactic| lcg_sub) => `(tactic| ((with_reducible refine' r_is ?h1 ?h2 ?h3); (case h1 => rfl); (case h2 => first | exact kt_NoneType_bool | exact kt_NoneType_int | exact kt_NoneType_str | exact kt_NoneType_tuple | exact kt_NoneType_list | exact kt_bool_bool | exact kt_bool_int | exact kt_bool_str | exact kt_bool_tuple | exact kt_bool_list | exact kt_int_bool | exact kt_int_int | exact kt_int_str | exact kt_int_tuple | exact kt_int_list | exact kt_str_bool | exact kt_str_int | exact kt_str_str | exact kt_str_tuple | exact kt_str_list | exact kt_tuple_bool | exact kt_tuple_int | exact kt_tuple_str | exact kt_tuple_tuple | exact kt_tuple_list | exact kt_list_bool | exact kt_list_int | exact kt_list_str | exact kt_list_tuple | exact kt_list_list)))
local macro_rules | `(tactic| lcg_sub) => `(tactic| with_reducible refine r_eqB ?_)
local macro_rules | `(tactic| lcg_sub) => `(tactic| first | ((with_reducible refine r_slT ?_); try simp only [cut_to]) | ((with_reducible refine' r_slS ?h1 ?h2); (case h1 => one_sign)) | ((with_reducible refine' r_slL ?h1 ?h2); (case h1 => lcg_src); try simp only [cut_to]) | (with_reducible refine r_slR ?_; try simp only [cut_to]))
local macro_rules | `(tactic| lcg_sub) => `(tactic| first
  | ((with_reducible refine' r_inT' ?h1 ?h2); (case h1 => rfl)) | ((with_reducible refine' r_inL' ?h1 ?h2 ?h3); (case h1 => lcg_src); (case h2 => rfl)) | ((with_reducible refine' r_ninT' ?h1 ?h2); (case h1 => rfl)) | ((with_reducible refine' r_ninL' ?h1 ?h2 ?h3); (case h1 => lcg_src); (case h2 => rfl))
  | ((with_reducible refine' iteDT ?h1 ?h2); (case h1 => decide +kernel)) | ((with_reducible refine' iteDF ?h1 ?h2); (case h1 => decide +kernel)) | ((with_reducible refine' iteNT ?h1 ?h2); (case h1 => decide +kernel)) | ((with_reducible refine' iteNF ?h1 ?h2); (case h1 => decide +kernel)) | fail)
local macro_rules | `(tactic| top_strB) => `(tactic| repeat' ((first | lcg_sub | with_reducible refine s_seq ?_); try dsimp only [List.set_cons_zero, List.set_cons_succ]))

section
variable {t u v : TDE} {sd : DS} {m : M} {P : DK} {D' : DEnds} {tl tk : TDA} {d : DSp} {na nb : Nat}
def rDGetP (x y : D) (m2 : M) (P : DK) : Prop := ∃ a kvs k d, x = .ref a ∧ y = kD k ∧ m2 a = some (.dct kvs) ∧ valD kvs k = some d ∧ P d m2
theorem s_dget (h : t sd m fun x m1 => u sd m1 fun y m2 => rDGetP x y m2 P) : dDGet t u sd m P := h
theorem r_dget {a : Addr} {kvs : List (Key × D)} {z : Str} {e : D} (h : m a = some (.dct kvs)) (hv : valD kvs (.inr z) = some e) (q : P e m) : rDGetP (.ref a) (.str z) m P := ⟨a, kvs, .inr z, e, rfl, rfl, h, hv, q⟩
theorem s_un {r : R1D} (h : t sd m fun x m1 => r x m1 P) : dUn r t sd m P := h
theorem r_neg {i : Int} (q : P (.int (-i)) m) : rNegD (.int i) m P := q
theorem r_inK {a : Addr} {kvs : List (Key × D)} {z : Str} (h : m a = some (.dct kvs)) (q : P (.bl (valD kvs (.inr z)).isSome) m) : rInK (.str z) (.ref a) m P := ⟨a, kvs, .inr z, rfl, rfl, h, q⟩
theorem r_ninK {a : Addr} {kvs : List (Key × D)} {z : Str} (h : m a = some (.dct kvs)) (q : P (.bl (!(valD kvs (.inr z)).isSome)) m) : rNotInK (.str z) (.ref a) m P := ⟨a, kvs, .inr z, rfl, rfl, h, q⟩
theorem s_callK (h : tl sd m fun xs m1 => tk sd m1 fun ys m2 => xs.length = na ∧ ys.length = nb ∧ d (xs ++ ys) m2 P noX) : dCallK d na nb tl tk sd m P := h
theorem s_isN (h : t sd m fun x m1 => P (.bl (nonB x)) m1) : dIsN t sd m P := h
theorem s_notN (h : t sd m fun x m1 => P (.bl (!nonB x)) m1) : dNotN t sd m P := h
theorem r_and3 {A B C : Prop} (a : A) (b : B) (c : C) : A ∧ B ∧ C := ⟨a, b, c⟩
theorem s_gtup {ys : List D} {gs : TDGs} {n : Nat} {Q : DS → M → Prop} (hl : ys.length = n) (h : gs ys sd m Q) : dGTup n gs (.tup ys) sd m Q := ⟨ys, rfl, hl, h⟩
theorem s_gcons {t : TDG} {u : TDGs} {d : D} {r : List D} {Q : DS → M → Prop} (h : t d sd m fun sd' m' => u r sd' m' Q) : dGCons t u (d :: r) sd m Q := ⟨d, r, rfl, h⟩
theorem s_gnil {Q : DS → M → Prop} (h : Q sd m) : dGNil [] sd m Q := ⟨rfl, h⟩
end
local macro_rules | `(tactic| lcg_sub) => `(tactic| first
  | with_reducible refine s_dget ?_ | with_reducible refine s_un ?_ | with_reducible refine r_neg ?_ | ((with_reducible refine' r_dget ?h1 ?h2 ?h3); (case h1 => lcg_src); (case h2 => assumption)) | with_reducible refine s_callK ?_ | with_reducible refine s_isN ?_ | with_reducible refine s_notN ?_
  | ((with_reducible refine' r_inK ?h1 ?h2); (case h1 => lcg_src)) | ((with_reducible refine' r_ninK ?h1 ?h2); (case h1 => lcg_src))
  | ((with_reducible refine' s_gtup ?h1 ?h2); (case h1 => rfl)) | with_reducible refine s_gcons ?_ | with_reducible refine s_gnil ?_)
theorem r_listT {xs : List D} {m : M} {P : DK} (q : ∀ l, m l = none → P (.ref l) (put m l (.lst xs))) : rList [.tup xs] m P := q
theorem r_listR {xs : List D} {m : M} {P : DK} (q : ∀ l, m l = none → P (.ref l) (put m l (.lst xs))) : rList [.rol xs] m P := ⟨xs, rfl, q⟩
theorem r_listL {xs : List D} {a : Addr} {m : M} {P : DK} (h : m a = some (.lst xs)) (q : ∀ l, m l = none → P (.ref l) (put m l (.lst xs))) : rList [.ref a] m P := ⟨xs, h, q⟩
local macro_rules | `(tactic| lcg_sub) => `(tactic| first | with_reducible refine r_listT ?_ | with_reducible refine r_listR ?_ | ((with_reducible refine' r_listL ?h1 ?h2); (case h1 => lcg_src)))
def crD : Option Nat → D
  | none => .non
  | some k => .int k
theorem iteNonT {x : D} {A B : Prop} (h : nonB x = true) (q : A) : if nonB x = true then A else B := by rw [if_pos h]; exact q
theorem iteNonF {x : D} {A B : Prop} (h : nonB x = false) (q : B) : if nonB x = true then A else B := by rw [if_neg (by rw [h]; decide)]; exact q
theorem iteNNonT {x : D} {A B : Prop} (h : nonB x = true) (q : B) : if (!nonB x) = true then A else B := by rw [if_neg (by rw [h]; decide)]; exact q
theorem iteNNonF {x : D} {A B : Prop} (h : nonB x = false) (q : A) : if (!nonB x) = true then A else B := by rw [if_pos (by rw [h]; decide)]; exact q
local macro_rules | `(tactic| lcg_sub) => `(tactic| first | ((with_reducible refine' iteNonT ?h1 ?h2); (case h1 => rfl)) | ((with_reducible refine' iteNonF ?h1 ?h2); (case h1 => rfl)) | ((with_reducible refine' iteNNonT ?h1 ?h2); (case h1 => rfl)) | ((with_reducible refine' iteNNonF ?h1 ?h2); (case h1 => rfl)) | fail)
theorem r_neB {a b : Bool} {m : M} {P : DK} (q : P (.bl (!decide (a = b))) m) : rNeD (.bl a) (.bl b) m P := q
theorem r_neBs {a : Bool} {m : M} {P : DK} (q : P (.bl false) m) : rNeD (.bl a) (.bl a) m P := by
  show P (.bl (!decide (a = a))) m
  rw [decide_eq_true rfl]; exact q
local macro_rules | `(tactic| lcg_sub) => `(tactic| first | with_reducible refine r_neBs ?_ | with_reducible refine r_neB ?_)

section
variable {t u v : TDE} {sd : DS} {m : M} {P : DK} {D' : DEnds} {tl tk : TDA} {d : DSp} {xs ys : List D} {a b : Addr}
theorem s_augX {i : Nat} {r : R2D} {x : D} (h : sd[i]? = some (some x)) (q : t sd m fun y m1 => r x y m1 fun z m2 => D'.nx (sd.set i (some z)) m2) : dAug i t r D' sd m := ⟨x, h, q⟩
theorem s_seqAug {i : Nat} {r : R2D} {w : TDS} {x : D} (h : sd[i]? = some (some x)) (q : t sd m fun y m1 => r x y m1 fun z m2 => w D' (sd.set i (some z)) m2) : dSeq (dAug i t r) w D' sd m := s_seq ⟨x, h, q⟩
theorem r_joinT {z : Str} {zs : List Str} (h : (zs.map (·.length)).sum + zs.length * z.length ≤ 16777216) (q : P (.str (Str.join z zs)) m) : rJoin (.str z) [.tup (zs.map D.str)] m P := ⟨zs, .inl rfl, h, q⟩
theorem r_joinL {z : Str} {zs : List Str} (hm : m a = some (.lst (zs.map D.str))) (h : (zs.map (·.length)).sum + zs.length * z.length ≤ 16777216) (q : P (.str (Str.join z zs)) m) : rJoin (.str z) [.ref a] m P := ⟨zs, .inr hm, h, q⟩
theorem r_joinL' {z : Str} {zs : List Str} {ds : List D} (hm : m a = some (.lst ds)) (e : strsOf ds = some zs) (h : (zs.map (·.length)).sum + zs.length * z.length ≤ 16777216) (q : P (.str (Str.join z zs)) m) : rJoin (.str z) [.ref a] m P := by
  rw [strsOf_eq e] at hm; exact r_joinL hm h q
theorem r_isT {z : Str} : isTxt (.str z) m := trivial
theorem s_isT {z : Str} {Q : Prop} (q : Q) : isTxt (.str z) m ∧ Q := ⟨trivial, q⟩
theorem r_ext (h1 : m a = some (.lst xs)) (h2 : m b = some (.lst ys)) (h : xs.length + ys.length ≤ sizeLine) (q : P .non (put m a (.lst (xs ++ ys)))) : rExt (.ref a) [.ref b] m P := ⟨xs, ys, h1, h2, h, q⟩
theorem r_iaddL (h1 : m a = some (.lst xs)) (h2 : m b = some (.lst ys)) (h : xs.length + ys.length ≤ sizeLine) (q : P (.ref a) (put m a (.lst (xs ++ ys)))) : rIAdd (.ref a) (.ref b) m P := ⟨xs, ys, h1, h2, h, q⟩
theorem r_iaddS {z w : Str} (h : z.length + w.length ≤ sizeLine) (q : P (.str (z ++ w)) m) : rIAdd (.str z) (.str w) m P := ⟨h, q⟩
theorem r_mulS {z : Str} {n : Int} (h : MulOk z n) (q : P (.str (Txt.mul z n)) m) : rMulS (.str z) (.int n) m P := ⟨h, q⟩
theorem r_min2 {i j : Int} (q : P (.int (if j < i then j else i)) m) : rMin2 [.int i, .int j] m P := q
theorem r_inKM {z : Str} {o : Option Str} {ks : List (Str × Option Str)} (h : (z, o) ∈ ks) (q : P (.bl o.isSome) m) : rInKM a ks (.str z) (.ref a) m P := ⟨z, o, rfl, rfl, h, q⟩
theorem r_getKM {z w : Str} {ks : List (Str × Option Str)} (h : (z, some w) ∈ ks) (q : P (.str w) m) : rGetKM a ks (.ref a) (.str z) m P := ⟨z, w, rfl, rfl, h, q⟩
theorem r_intB {b : Bool} (q : P (.int (if b then 1 else 0)) m) : rInt [.bl b] m P := q
end
local macro_rules | `(tactic| lcg_sub) => `(tactic| first
  | ((with_reducible refine' s_augX ?h1 ?h2); (case h1 => rfl)) | ((with_reducible refine' s_seqAug ?h1 ?h2); (case h1 => rfl))
  | with_reducible refine s_isT ?_ | ((with_reducible refine' r_ext ?h1 ?h2 ?h3 ?h4); (case h1 => lcg_src); (case h2 => lcg_src); (case h3 => one_sign); (try simp only [put_put]))
  | ((with_reducible refine' r_iaddL ?h1 ?h2 ?h3 ?h4); (case h1 => lcg_src); (case h2 => lcg_src); (case h3 => one_sign); (try simp only [put_put]))
  | ((with_reducible refine' r_iaddS ?h1 ?h2); (case h1 => one_sign))
  | with_reducible refine r_min2 ?_ | with_reducible refine r_intB ?_
  | fail)

theorem len_pick : ∀ ds m P EX, sp_law_pick ds m P EX → ds.length = 3 := by
  rintro ds m P EX ⟨st, ns, many, s, rfl, _⟩; rfl
theorem rd_pick : ∀ ds m P EX, sp_law_pick ds m P EX → Go P b_law_pick (dstart ["state", "script", "many", "number", "place", "cell"] ds) m := by
  rintro ds m P EX ⟨st, ns, many, ⟨a, b, c, d⟩, rfl, hs, ⟨ha, hc, hc1⟩, h0, h1, q⟩
  show b_law_pick { nx := fun _ m' => Ret P .non m', rt := Ret P } [some (.ref st), some (.rol (ns.map D.int)), some (.int many), none, none, none] m
  dsimp only at ha hc hc1
  unfold b_law_pick
  have big : ∀ x : Int, 0 ≤ x % many ∧ x % many < many := fun x => ⟨Int.emod_nonneg _ (by omega), Int.emod_lt_of_pos _ h0⟩
  top_strB
  all_goals refine ⟨_, Less.refl _, q _ ⟨_, _, _, _⟩ (big _).1 (big _).2 ⟨?_, ?_, ?_⟩ rfl⟩
  all_goals dsimp only
  all_goals omega

/-! ### texts -/
theorem sapp_assoc (a b c : Str) : a ++ b ++ c = a ++ (b ++ c) := by
  show Str.mk (a.cps ++ b.cps ++ c.cps) = Str.mk (a.cps ++ (b.cps ++ c.cps))
  rw [Array.append_assoc]
theorem snil : (("" : Str)) = Str.empty := by decide +kernel
theorem snil_app (a : Str) : ("" : Str) ++ a = a := by
  rw [snil]
  show Str.mk (#[] ++ a.cps) = a
  rw [Array.empty_append]
theorem sapp_nil (a : Str) : a ++ ("" : Str) = a := by
  rw [snil]
  show Str.mk (a.cps ++ #[]) = a
  rw [Array.append_empty]
theorem slen_app (a b : Str) : (a ++ b).length = a.length + b.length := Array.size_append
def lawWords : List Str := ["and", "bool", "box", "do", "else", "false", "fn", "from", "if", "int", "is", "let", "maybe", "mut", "none", "not", "or", "print", "record", "return", "some", "swap", "true", "unbox", "unit", "while", "with"]
def puncA : List Str := [",", ";", ":", ".", "?", "^", ")", "]", "["]
def puncB : List Str := [".", "(", "[", "&"]
def letS : Str := "abcdefghijklmnopqrstuvwxyzABCDEFGHIJKLMNOPQRSTUVWXYZ"
def headN (z : Str) : Option Nat := z.cps.toList.head?
def named (z : Str) : Bool := (match headN z with | some c => decide (c ∈ letS.cps.toList) | none => false) && !decide (z ∈ lawWords)
def gapL (p n : Str) : Str := if n ∈ puncA ∨ p ∈ puncB then "" else if n = "(" ∧ named p = true then "" else " "
def lineGo : Str → List Str → Str
  | _, [] => ""
  | p, t :: r => gapL p t ++ (t ++ lineGo t r)
def lineL : List Str → Str
  | [] => ""
  | t :: r => t ++ lineGo t r
def wt (ts : List Str) : Nat := (ts.map fun t => t.length + 1).sum
theorem wt_app (a b : List Str) : wt (a ++ b) = wt a + wt b := by unfold wt; rw [List.map_append, List.sum_append]
theorem wt_cons (t : Str) (b : List Str) : wt (t :: b) = t.length + 1 + wt b := by unfold wt; rw [List.map_cons, List.sum_cons]
theorem wt_nil : wt [] = 0 := rfl
theorem wt_len (ts : List Str) : ts.length ≤ wt ts := by
  induction ts with
  | nil => exact Nat.le_refl _
  | cons t r ih => rw [wt_cons, List.length_cons]; omega
theorem gapA {p n : Str} (h : n ∈ puncA) : gapL p n = "" := by unfold gapL; rw [if_pos (.inl h)]
theorem gapB {p n : Str} (h : p ∈ puncB) : gapL p n = "" := by unfold gapL; rw [if_pos (.inr h)]
theorem gapN {p : Str} (h : named p = true) : gapL p "(" = "" := by
  unfold gapL
  split
  · rfl
  · rw [if_pos ⟨rfl, h⟩]
theorem gapS {p n : Str} (h1 : n ∉ puncA) (h2 : p ∉ puncB) (h3 : n ≠ "(" ∨ named p = false) : gapL p n = " " := by
  unfold gapL
  rw [if_neg (fun h => h.elim h1 h2), if_neg]
  rintro ⟨a, b⟩
  rcases h3 with h3 | h3
  · exact h3 a
  · rw [h3] at b; cases b
theorem gap_len (p n : Str) : (gapL p n).length ≤ 1 := by
  unfold gapL
  split
  · decide +kernel
  · split <;> decide +kernel
theorem lineGo_len : ∀ (p : Str) (ts : List Str), (lineGo p ts).length ≤ wt ts
  | _, [] => by rw [lineGo]; decide +kernel
  | p, t :: r => by
    rw [lineGo, slen_app, slen_app, wt_cons]
    have := gap_len p t
    have := lineGo_len t r
    omega
theorem lineL_len : ∀ (ts : List Str), (lineL ts).length ≤ wt ts
  | [] => by rw [lineL]; decide +kernel
  | t :: r => by
    rw [lineL, slen_app, wt_cons]
    have := lineGo_len t r
    omega
/-- a row of tokens with the first h and the last l, and its text x -/
structure Ph (ts : List Str) (h l x : Str) : Prop where
  go : ∀ p rest, lineGo p (ts ++ rest) = gapL p h ++ (x ++ lineGo l rest)
theorem Ph.one (t : Str) : Ph [t] t t t := ⟨fun p rest => by rw [List.singleton_append, lineGo]⟩
theorem Ph.app {ts us : List Str} {h l x h' l' y g : Str} (a : Ph ts h l x) (b : Ph us h' l' y) (e : gapL l h' = g) : Ph (ts ++ us) h l' (x ++ (g ++ y)) := ⟨fun p rest => by
  rw [List.append_assoc, a.go, b.go, e]
  simp only [sapp_assoc]⟩
theorem Ph.is {ts us : List Str} {h l x y : Str} (a : Ph ts h l x) (e : x = y) (e2 : ts = us) : Ph us h l y := by subst e; subst e2; exact a
theorem Ph.line {ts : List Str} {h l x : Str} (a : Ph ts h l x) : lineL ts = x := by
  have e := a.go "(" []
  rw [List.append_nil, gapB (by decide +kernel), snil_app, lineGo, sapp_nil] at e
  rw [← e]
  cases ts with
  | nil => rfl
  | cons t r => rw [lineGo, gapB (by decide +kernel), snil_app, lineL]
theorem Ph.len {ts : List Str} {h l x : Str} (a : Ph ts h l x) : x.length ≤ wt ts := by rw [← a.line]; exact lineL_len ts
/-- .. that stands behind a comma and ahead of one -/
def PhK (ts : List Str) (x : Str) : Prop := ∃ h l, Ph ts h l x ∧ h ∉ puncA ∧ l ∉ puncB
theorem PhK.len {ts : List Str} {x : Str} (a : PhK ts x) : x.length ≤ wt ts := by obtain ⟨_, _, a, _⟩ := a; exact a.len
/-- rows with commas between them -/
def rowsJ : List (List Str) → List Str
  | [] => []
  | [r] => r
  | r :: q :: rs => r ++ ("," : Str) :: rowsJ (q :: rs)
theorem rowsJ_cons (r : List Str) {rs : List (List Str)} (h : rs ≠ []) : rowsJ (r :: rs) = r ++ ("," : Str) :: rowsJ rs := by
  cases rs with
  | nil => exact absurd rfl h
  | cons q rs => rfl
theorem rowsJ_snoc : ∀ (rs : List (List Str)) (r : List Str), rs ≠ [] → rowsJ (rs ++ [r]) = rowsJ rs ++ ("," : Str) :: r
  | [], _, h => absurd rfl h
  | [q], r, _ => rfl
  | q :: p :: rs, r, _ => by
    show rowsJ (q :: ((p :: rs) ++ [r])) = _
    rw [rowsJ_cons q (by simp), rowsJ_snoc (p :: rs) r (by simp), rowsJ_cons q (by simp), List.append_assoc]
    rfl
theorem wt_rowsJ : ∀ (rs : List (List Str)), wt (rowsJ rs) ≤ (rs.map fun r => wt r + 2).sum
  | [] => Nat.le_refl _
  | [r] => by rw [rowsJ]; simp
  | r :: q :: rs => by
    have e : (("," : Str)).length = 1 := by decide +kernel
    rw [rowsJ_cons r (by simp), wt_app, wt_cons, List.map_cons, List.sum_cons, e]
    have := wt_rowsJ (q :: rs)
    omega
theorem sum_le {α : Type} {f : α → Nat} {n : Nat} : ∀ {xs : List α}, (∀ x ∈ xs, f x ≤ n) → (xs.map f).sum ≤ xs.length * n
  | [], _ => Nat.zero_le _
  | x :: xs, h => by
    rw [List.map_cons, List.sum_cons, List.length_cons, Nat.add_mul, Nat.one_mul]
    have := h x List.mem_cons_self
    have := sum_le (f := f) fun y hy => h y (List.mem_cons_of_mem _ hy)
    omega
theorem sjoin_cons (s x : Str) {ys : List Str} (h : ys ≠ []) : Str.join s (x :: ys) = x ++ (s ++ Str.join s ys) := by
  cases ys with
  | nil => exact absurd rfl h
  | cons y ys => rw [Str.join, sapp_assoc]; simp
theorem comma2 : ((", " : Str)) = ("," : Str) ++ (" " : Str) := by decide +kernel
theorem comma_no : named "," = false := by decide +kernel
theorem comma_nB : ("," : Str) ∉ puncB := by decide +kernel
theorem comma_A : ("," : Str) ∈ puncA := by decide +kernel
theorem PhK.join : ∀ {ps : List (List Str × Str)}, ps ≠ [] → (∀ q ∈ ps, PhK q.1 q.2) → PhK (rowsJ (ps.map (·.1))) (Str.join ", " (ps.map (·.2)))
  | [], h, _ => absurd rfl h
  | [q], _, h => h q List.mem_cons_self
  | q :: r :: ps, _, h => by
    obtain ⟨h1, l1, a1, n1, m1⟩ := h q List.mem_cons_self
    obtain ⟨h2, l2, a2, n2, m2⟩ := PhK.join (ps := r :: ps) (by simp) fun y hy => h y (List.mem_cons_of_mem _ hy)
    refine ⟨h1, l2, ((a1.app (Ph.one ",") (gapA comma_A)).app a2 (gapS n2 comma_nB (.inr comma_no))).is ?_ ?_, n1, m2⟩
    · rw [List.map_cons (l := r :: ps), sjoin_cons _ _ (by simp), comma2, snil_app]
      simp only [sapp_assoc]
    · rw [List.map_cons (l := r :: ps), rowsJ_cons _ (by simp), List.append_assoc, List.singleton_append]

/-! ### names -/
def isSm (c : Nat) : Bool := decide (97 ≤ c) && decide (c ≤ 122)
def isCap (c : Nat) : Bool := decide (65 ≤ c) && decide (c ≤ 90)
def isDg (c : Nat) : Bool := decide (48 ≤ c) && decide (c ≤ 57)
def nameC (c : Nat) : Bool := isSm c || isDg c || decide (c = 95)
def bigC (c : Nat) : Bool := isSm c || isCap c || isDg c
structure NameOk (z : Str) : Prop where
  len : z.length ≤ 20
  hd : ∃ c, headN z = some c ∧ c ∈ letS.cps.toList
  nw : z ∉ lawWords
theorem no_head {l : List Str} (hl : l.all (fun w => match headN w with | some c => !decide (c ∈ letS.cps.toList) | none => true) = true) {z : Str} (h : NameOk z) : z ∉ l := fun hm => by
  obtain ⟨c, e, hc⟩ := h.hd
  have := List.all_eq_true.mp hl z hm
  rw [e] at this
  simp only [Bool.not_eq_true', decide_eq_false_iff_not] at this
  exact this hc
theorem NameOk.nA {z : Str} (h : NameOk z) : z ∉ puncA := no_head (by decide +kernel) h
theorem NameOk.nB {z : Str} (h : NameOk z) : z ∉ puncB := no_head (by decide +kernel) h
theorem NameOk.nP {z : Str} (h : NameOk z) : z ≠ "(" := fun e => no_head (l := ["("]) (by decide +kernel) h (by rw [e]; exact List.mem_cons_self)
theorem NameOk.named {z : Str} (h : NameOk z) : named z = true := by
  obtain ⟨c, e, hc⟩ := h.hd
  unfold Q4.named
  rw [e, decide_eq_false h.nw]
  show (decide (c ∈ letS.cps.toList) && !false) = true
  rw [decide_eq_true hc]
  rfl
theorem NameOk.phk {z : Str} (h : NameOk z) : PhK [z] z := ⟨z, z, Ph.one z, h.nA, h.nB⟩
theorem NameOk.cs {z : Str} (h : NameOk z) : ∃ c, z.cps.toList.head? = some c ∧ 0 < z.length := by
  obtain ⟨c, e, _⟩ := h.hd
  refine ⟨c, e, ?_⟩
  unfold headN at e
  have : z.cps.toList ≠ [] := fun q => by rw [q] at e; cases e
  show 0 < z.cps.size
  rw [← Array.length_toList]
  exact List.length_pos_iff.mpr this
/-- a word for variables, functions, parameters, fields -/
structure SmOk (z : Str) : Prop extends NameOk z where
  sm : ∃ c, headN z = some c ∧ isSm c = true
  al : z.cps.toList.all nameC = true
/-- .. and for records -/
structure BgOk (z : Str) : Prop extends NameOk z where
  cp : ∃ c, headN z = some c ∧ isCap c = true
  al : z.cps.toList.all bigC = true

/-! ### tokens of a text -/
def letC (c : Nat) : Bool := isSm c || isCap c
def wordC (c : Nat) : Bool := letC c || isDg c || decide (c = 95)
def tokLen (cs : List Nat) : Nat := match cs with
  | [] => 0
  | c :: r => if letC c = true then ((c :: r).takeWhile wordC).length else if isDg c = true then ((c :: r).takeWhile isDg).length else if (c :: r).take 2 = [45, 62] ∨ (c :: r).take 2 = [61, 61] then 2 else 1
def signS : List Str := ["->", "==", "{", "}", "(", ")", "[", "]", ",", ";", ":", ".", "?", "^", "&", "+", "-", "*", "<", "="]
def headB (p : Nat → Bool) (z : Str) : Bool := match headN z with | some c => p c | none => false
def isNameB (w : Str) : Bool := headB isSm w && (w.cps.toList.all nameC && (decide (w.length ≤ 20) && !decide (w ∈ lawWords)))
def isBigB (w : Str) : Bool := headB isCap w && (w.cps.toList.all bigC && decide (w.length ≤ 20))
def isNumB (w : Str) : Bool := w.cps.toList.all isDg && ((decide (w = "0") || !headB (fun c => decide (c = 48)) w) && decide (w.length ≤ 10))
def labP (w : Str) : Str := if w ∈ lawWords ∨ w ∈ signS then w else if isNameB w = true then "name" else if isBigB w = true then "Name" else if isNumB w = true then "number" else "wrong"
structure Tk where
  l : Str
  t : Str
  r : Int
  c : Int
def Tk.D (k : Tk) : D := .tup [.str k.l, .str k.t, .int k.r, .int k.c]
inductive Lex : List Nat → Int → Int → List Tk → Prop where
  | fin {r c} : Lex [] r c [⟨"end", "", r, c⟩]
  | nl {cs r c T} : Lex cs (r + 1) 1 T → Lex (10 :: cs) r c T
  | sp {cs r c T} : Lex cs r (c + 1) T → Lex (32 :: cs) r c T
  | tok {x : Nat} {w cs : List Nat} {r c T} : x ≠ 10 → x ≠ 32 → tokLen (x :: (w ++ cs)) = w.length + 1 → w.length ≤ 1000 → Lex cs r (c + (w.length + 1 : Nat)) T → Lex (x :: (w ++ cs)) r c (⟨labP ⟨(x :: w).toArray⟩, ⟨(x :: w).toArray⟩, r, c⟩ :: T)
/-! signs in texts -/
theorem cps_app (z w : Str) : (z ++ w).cps.toList = z.cps.toList ++ w.cps.toList := Array.toList_append
theorem mem_rng {z : Str} {a n : Nat} (h : z.cps.toList = List.range' a n) (c : Nat) : decide (c ∈ z.cps.toList) = (decide (a ≤ c) && decide (c ≤ a + n - 1) && decide (0 < n)) := by
  rw [h]
  by_cases e : a ≤ c ∧ c < a + n
  · rw [decide_eq_true (List.mem_range'_1.mpr e), decide_eq_true e.1, decide_eq_true (show c ≤ a + n - 1 by omega), decide_eq_true (show 0 < n by omega)]; rfl
  · rw [decide_eq_false (fun q => e (List.mem_range'_1.mp q))]
    symm
    rw [Bool.and_eq_false_iff, Bool.and_eq_false_iff, decide_eq_false_iff_not, decide_eq_false_iff_not, decide_eq_false_iff_not]
    omega
abbrev smS : Str := "abcdefghijklmnopqrstuvwxyz"
abbrev cpS : Str := "ABCDEFGHIJKLMNOPQRSTUVWXYZ"
abbrev dgS : Str := "0123456789"
theorem mem_sm (c : Nat) : decide (c ∈ smS.cps.toList) = isSm c := by
  rw [mem_rng (a := 97) (n := 26) (by decide +kernel)]; unfold isSm; simp
theorem mem_cp (c : Nat) : decide (c ∈ cpS.cps.toList) = isCap c := by
  rw [mem_rng (a := 65) (n := 26) (by decide +kernel)]; unfold isCap; simp
theorem mem_dg (c : Nat) : decide (c ∈ dgS.cps.toList) = isDg c := by
  rw [mem_rng (a := 48) (n := 10) (by decide +kernel)]; unfold isDg; simp
theorem mem_us (c : Nat) : decide (c ∈ ("_" : Str).cps.toList) = decide (c = 95) := by
  have : ("_" : Str).cps.toList = [95] := by decide +kernel
  rw [this]; simp
theorem mem_app (c : Nat) (z w : Str) : decide (c ∈ (z ++ w).cps.toList) = (decide (c ∈ z.cps.toList) || decide (c ∈ w.cps.toList)) := by
  rw [cps_app]; simp
theorem mem_let (c : Nat) : decide (c ∈ (smS ++ cpS).cps.toList) = letC c := by rw [mem_app, mem_sm, mem_cp]; rfl
theorem mem_word (c : Nat) : decide (c ∈ (smS ++ cpS ++ dgS ++ "_").cps.toList) = wordC c := by rw [mem_app, mem_app, mem_app, mem_sm, mem_cp, mem_dg, mem_us]; rfl
theorem mem_name (c : Nat) : decide (c ∈ (smS ++ dgS ++ "_").cps.toList) = nameC c := by rw [mem_app, mem_app, mem_sm, mem_dg, mem_us]; rfl
theorem mem_big (c : Nat) : decide (c ∈ (smS ++ cpS ++ dgS).cps.toList) = bigC c := by rw [mem_app, mem_app, mem_sm, mem_cp, mem_dg]; rfl

/-! ### the tokenizer's small defs -/
section
variable {m : M} {P : DK}
theorem r_inP {c : Nat} {z : Str} {p : Nat → Bool} (h : ∀ c, decide (c ∈ z.cps.toList) = p c) (q : P (.bl (p c)) m) : rInD (.str ⟨#[c]⟩) (.str z) m P := .inr ⟨c, z, rfl, rfl, by rw [h]; exact q⟩
end
local macro_rules | `(tactic| lcg_sub) => `(tactic| first
  | ((with_reducible refine' r_inP ?y1 ?y2); (case y1 => first | exact mem_sm | exact mem_cp | exact mem_dg | exact mem_let | assumption)) | with_reducible refine s_lcC ?_ | with_reducible refine r_CC ?_
  | ((with_reducible refine' r_ixS ?y1 ?y2 ?y3); (case y1 => one_sign); (case y2 => assumption)) | with_reducible refine s_forC ?_ | with_reducible refine r_FC ?_ | with_reducible refine s_par3 ?_ | with_reducible refine r_par3 ?_ | with_reducible refine s_fnV ?_ | fail)
def sp_consists_of : DSp := fun ds m P _ => ∃ w cs p, ds = [.str w, .str cs] ∧ w.length ≤ 100000 ∧ (∀ c, decide (c ∈ cs.cps.toList) = p c) ∧ P (.bl (w.cps.toList.all p)) m
theorem use_consists {w cs : Str} {p : Nat → Bool} {m : M} {P : DK} (h : w.length ≤ 100000) (hp : ∀ c, decide (c ∈ cs.cps.toList) = p c) (q : P (.bl (w.cps.toList.all p)) m) : sp_consists_of [.str w, .str cs] m P noX := ⟨w, cs, p, rfl, h, hp, q⟩
theorem rd_consists : ∀ ds m P EX, sp_consists_of ds m P EX → Go P b_consists_of (dstart ["word", "characters", "character"] ds) m := by
  rintro ds m P EX ⟨w, cs, p, rfl, hw, hp, q⟩
  show b_consists_of { nx := fun _ m' => Ret P .non m', rt := Ret P } [some (.str w), some (.str cs), none] m
  unfold b_consists_of
  have hl : w.cps.toList.length ≤ 100000 := by rw [Array.length_toList]; exact hw
  lcg_off
  refine CT_map (f := fun c => .bl (p c)) hl (fun c _ m Q h => ?_) (fun a ha => ?_)
  · lcg_off
    exact h
  · lcg_off
    refine r_allM put_same ?_
    exact ⟨_, by one_item, q⟩
local macro_rules | `(tactic| lcg_sub) => `(tactic| first
  | ((with_reducible refine' use_consists (p := nameC) ?h1 ?h2 ?h3); (case h1 => omega); (case h2 => exact mem_name)) | ((with_reducible refine' use_consists (p := bigC) ?h1 ?h2 ?h3); (case h1 => omega); (case h2 => exact mem_big))
  | ((with_reducible refine' use_consists (p := isDg) ?h1 ?h2 ?h3); (case h1 => omega); (case h2 => exact mem_dg)) | fail)
theorem head_get {w : Str} (h : 0 < w.length) : ∃ c, atI w.cps.toList 0 = some c ∧ headN w = some c := by
  have hlt : 0 < w.cps.toList.length := by rw [Array.length_toList]; exact h
  have hz : w.cps.toList[0]? = some w.cps.toList[0] := List.getElem?_eq_getElem hlt
  exact ⟨w.cps.toList[0], atI_nat hz, by unfold headN; rw [List.head?_eq_getElem?]; exact hz⟩
theorem decN (n k : Nat) : decide ((n : Int) ≤ (k : Int)) = decide (n ≤ k) := decide_eq_decide.mpr (by omega)
def sp_is_name : DSp := fun ds m P _ => ∃ w, ds = [.str w] ∧ 0 < w.length ∧ w.length ≤ 100000 ∧ P (.bl (isNameB w)) m
theorem use_is_name {w : Str} {m : M} {P : DK} (h : 0 < w.length) (h2 : w.length ≤ 100000) (q : P (.bl (isNameB w)) m) : sp_is_name [.str w] m P noX := ⟨w, rfl, h, h2, q⟩
theorem r_bool {b c : Bool} {m : M} {P : DK} (e : c = b) (q : P (.bl b) m) : P (.bl c) m := by rw [e]; exact q
theorem rd_is_name : ∀ ds m P EX, sp_is_name ds m P EX → Go P (b_is_name sp_consists_of) (dstart ["word"] ds) m := by
  rintro ds m P EX ⟨w, rfl, h0, h1, q⟩
  show b_is_name sp_consists_of { nx := fun _ m' => Ret P .non m', rt := Ret P } [some (.str w)] m
  unfold b_is_name
  obtain ⟨c, hc, hh⟩ := head_get h0
  have hsz := PySem.sizeLine_eq
  have e : isNameB w = (isSm c && (w.cps.toList.all nameC && (decide (w.length ≤ 20) && !decide (w ∈ lawWords)))) := by unfold isNameB headB; rw [hh]
  rw [e] at q
  cases b1 : isSm c
  all_goals cases b2 : w.cps.toList.all nameC
  all_goals rw [b1, b2] at q
  all_goals lcg_off
  all_goals try rw [b1]
  all_goals lcg_off
  all_goals try rw [b2]
  all_goals lcg_off
  all_goals first
    | exact ⟨_, Less.refl _, q⟩
    | (rw [decide_eq_true (show w.length ≤ 20 by omega)] at q; exact ⟨_, Less.refl _, q⟩)
    | (rw [decide_eq_false (show ¬ w.length ≤ 20 by omega)] at q; exact ⟨_, Less.refl _, q⟩)
    | trace_state
def sp_is_rec : DSp := fun ds m P _ => ∃ w, ds = [.str w] ∧ 0 < w.length ∧ w.length ≤ 100000 ∧ P (.bl (isBigB w)) m
theorem use_is_rec {w : Str} {m : M} {P : DK} (h : 0 < w.length) (h2 : w.length ≤ 100000) (q : P (.bl (isBigB w)) m) : sp_is_rec [.str w] m P noX := ⟨w, rfl, h, h2, q⟩
theorem rd_is_rec : ∀ ds m P EX, sp_is_rec ds m P EX → Go P (b_is_record_name sp_consists_of) (dstart ["word"] ds) m := by
  rintro ds m P EX ⟨w, rfl, h0, h1, q⟩
  show b_is_record_name sp_consists_of { nx := fun _ m' => Ret P .non m', rt := Ret P } [some (.str w)] m
  unfold b_is_record_name
  obtain ⟨c, hc, hh⟩ := head_get h0
  have hsz := PySem.sizeLine_eq
  have e : isBigB w = (isCap c && (w.cps.toList.all bigC && decide (w.length ≤ 20))) := by unfold isBigB headB; rw [hh]
  rw [e] at q
  cases b1 : isCap c
  all_goals cases b2 : w.cps.toList.all bigC
  all_goals rw [b1, b2] at q
  all_goals lcg_off
  all_goals try rw [b1]
  all_goals lcg_off
  all_goals try rw [b2]
  all_goals lcg_off
  all_goals first
    | exact ⟨_, Less.refl _, q⟩
    | exact ⟨_, Less.refl _, r_bool (by rw [Bool.true_and, Bool.true_and]; exact decN _ 20) q⟩
def sp_is_num : DSp := fun ds m P _ => ∃ w, ds = [.str w] ∧ 0 < w.length ∧ w.length ≤ 100000 ∧ P (.bl (isNumB w)) m
theorem use_is_num {w : Str} {m : M} {P : DK} (h : 0 < w.length) (h2 : w.length ≤ 100000) (q : P (.bl (isNumB w)) m) : sp_is_num [.str w] m P noX := ⟨w, rfl, h, h2, q⟩
theorem one_zero (c : Nat) : decide ((⟨#[c]⟩ : Str) = ("0" : Str)) = decide (c = 48) := by
  have e : ("0" : Str) = ⟨#[48]⟩ := by decide +kernel
  rw [e]
  exact decide_eq_decide.mpr ⟨fun h => by cases h; rfl, fun h => by rw [h]⟩
theorem rd_is_num : ∀ ds m P EX, sp_is_num ds m P EX → Go P (b_is_number sp_consists_of) (dstart ["word"] ds) m := by
  rintro ds m P EX ⟨w, rfl, h0, h1, q⟩
  show b_is_number sp_consists_of { nx := fun _ m' => Ret P .non m', rt := Ret P } [some (.str w)] m
  unfold b_is_number
  obtain ⟨c, hc, hh⟩ := head_get h0
  have hsz := PySem.sizeLine_eq
  have e : isNumB w = (w.cps.toList.all isDg && ((decide (w = "0") || !decide (c = 48)) && decide (w.length ≤ 10))) := by unfold isNumB headB; rw [hh]
  rw [e] at q
  have hz : (⟨#[c]⟩ : Str) = ("0" : Str) ↔ c = 48 := decide_eq_decide.mp (one_zero c)
  cases b1 : w.cps.toList.all isDg
  all_goals cases b2 : decide (w = "0")
  all_goals cases b3 : decide (c = 48)
  all_goals rw [b1, b2, b3] at q
  all_goals lcg_off
  all_goals try rw [b1]
  all_goals lcg_off
  all_goals try rw [b2]
  all_goals lcg_off
  all_goals try rw [one_zero, b3]
  all_goals lcg_off
  all_goals try simp only [decide_eq_true_eq, decide_eq_false_iff_not] at b2 b3
  all_goals first
    | exact ⟨_, Less.refl _, q⟩
    | exact absurd (by assumption) b2
    | exact absurd b2 (by assumption)
    | exact absurd (hz.mp (by assumption)) b3
    | exact absurd (hz.mpr b3) (by assumption)
    | exact ⟨_, Less.refl _, r_bool (decN _ 10) q⟩
local macro_rules | `(tactic| lcg_sub) => `(tactic| first
  | ((with_reducible refine' use_is_name ?h1 ?h2 ?h3); (case h1 => omega); (case h2 => omega)) | ((with_reducible refine' use_is_rec ?h1 ?h2 ?h3); (case h1 => omega); (case h2 => omega))
  | ((with_reducible refine' use_is_num ?h1 ?h2 ?h3); (case h1 => omega); (case h2 => omega)) | fail)
def sp_label_of : DSp := fun ds m P _ => ∃ w, ds = [.str w] ∧ 0 < w.length ∧ w.length ≤ 100000 ∧ P (.str (labP w)) m
theorem use_label {w : Str} {m : M} {P : DK} (h : 0 < w.length) (h2 : w.length ≤ 100000) (q : P (.str (labP w)) m) : sp_label_of [.str w] m P noX := ⟨w, rfl, h, h2, q⟩
theorem rd_label : ∀ ds m P EX, sp_label_of ds m P EX → Go P (b_label_of sp_is_name sp_is_rec sp_is_num) (dstart ["word"] ds) m := by
  rintro ds m P EX ⟨w, rfl, h0, h1, q⟩
  show b_label_of _ _ _ { nx := fun _ m' => Ret P .non m', rt := Ret P } [some (.str w)] m
  unfold b_label_of
  unfold labP at q
  by_cases hA : w ∈ lawWords ∨ w ∈ signS
  · rw [if_pos hA] at q
    top_strB
    · exact ⟨_, Less.refl _, q⟩
    · exact ⟨_, Less.refl _, q⟩
    all_goals (exfalso; rename_i u v; exact hA.elim u v)
  · rw [if_neg hA] at q
    have hA1 : w ∉ lawWords := fun h => hA (.inl h)
    have hA2 : w ∉ signS := fun h => hA (.inr h)
    cases b1 : isNameB w
    all_goals cases b2 : isBigB w
    all_goals cases b3 : isNumB w
    all_goals rw [b1, b2, b3] at q
    all_goals top_strB
    all_goals first
      | exact absurd ‹_› hA1
      | exact absurd ‹_› hA2
      | skip
    all_goals (try rw [b1]); top_strB
    all_goals (try rw [b2]); top_strB
    all_goals (try rw [b3]); top_strB
    all_goals exact ⟨_, Less.refl _, q⟩

/-! ### the tokenizer -/
theorem str_ext {z : Str} {l : List Nat} (h : z.cps.toList = l) : z = ⟨l.toArray⟩ := by cases z; subst h; simp
theorem cutS_eq (z : Str) (i j : Nat) (hi : i ≤ z.length) : (cutS z (some (i : Int)) (some (j : Int))).cps.toList = (z.cps.toList.drop i).take (j - i) := by
  have hl : z.cps.toList.length = z.length := Array.length_toList
  have e : (cutS z (some (i : Int)) (some (j : Int))).cps.toList = (z.cps.toList.drop (HT.sIx z.length 0 (some (i : Int)))).take (HT.sIx z.length z.length (some (j : Int)) - HT.sIx z.length 0 (some (i : Int))) := rfl
  rw [e, HT.sIx_nat, HT.sIx_nat, Nat.min_eq_left hi]
  by_cases h : j ≤ z.length
  · rw [Nat.min_eq_left h]
  · rw [Nat.min_eq_right (by omega), List.take_of_length_le (by rw [List.length_drop]; omega), List.take_of_length_le (by rw [List.length_drop]; omega)]
theorem get_at {z : Str} {j : Nat} (h : j < z.length) : ∃ c, atI z.cps.toList (j : Int) = some c ∧ z.cps.toList.drop j = c :: z.cps.toList.drop (j + 1) := by
  have hl : j < z.cps.toList.length := by rw [Array.length_toList]; exact h
  exact ⟨z.cps.toList[j], atI_nat (List.getElem?_eq_getElem hl), List.drop_eq_getElem_cons hl⟩
theorem r_addN {a : Nat} {m : M} {P : DK} (q : P (.int ((a + 1 : Nat) : Int)) m) : rAdd (.int (a : Int)) (.int 1) m P := q
theorem r_addN2 {a : Nat} {m : M} {P : DK} (q : P (.int ((a + 2 : Nat) : Int)) m) : rAdd (.int (a : Int)) (.int 2) m P := q
theorem r_iaddN {a : Nat} {m : M} {P : DK} (q : P (.int ((a + 1 : Nat) : Int)) m) : rIAdd (.int (a : Int)) (.int 1) m P := q
theorem r_iaddNN {a b : Nat} {m : M} {P : DK} (q : P (.int ((a + b : Nat) : Int)) m) : rIAdd (.int (a : Int)) (.int (b : Int)) m P := by
  show P (.int ((a : Int) + b)) m
  rw [show ((a : Int) + b) = ((a + b : Nat) : Int) by omega]; exact q
local macro_rules | `(tactic| lcg_sub) => `(tactic| first | with_reducible refine r_addN ?_ | with_reducible refine r_addN2 ?_ | with_reducible refine r_iaddN ?_ | with_reducible refine r_iaddNN ?_ | fail)
def sp_run_end : DSp := fun ds m P _ => ∃ z cs p, ∃ i : Nat, ds = [.str z, .int i, .str cs] ∧ i ≤ z.length ∧ z.length ≤ sizeLine ∧ (∀ c, decide (c ∈ cs.cps.toList) = p c) ∧ P (.int ((i + ((z.cps.toList.drop i).takeWhile p).length : Nat) : Int)) m
theorem use_run {z cs : Str} {p : Nat → Bool} {i : Nat} {m : M} {P : DK} (h : i ≤ z.length) (h2 : z.length ≤ sizeLine) (hp : ∀ c, decide (c ∈ cs.cps.toList) = p c) (q : P (.int ((i + ((z.cps.toList.drop i).takeWhile p).length : Nat) : Int)) m) : sp_run_end [.str z, .int i, .str cs] m P noX := ⟨z, cs, p, i, rfl, h, h2, hp, q⟩
theorem rd_run : ∀ ds m P EX, sp_run_end ds m P EX → Go P b_run_end (dstart ["text", "at", "characters"] ds) m := by
  rintro ds m P EX ⟨z, cs, p, i, rfl, hi, hz, hp, q⟩
  show b_run_end { nx := fun _ m' => Ret P .non m', rt := Ret P } [some (.str z), some (.int i), some (.str cs)] m
  unfold b_run_end
  refine s_seq ⟨fun n sd m' => ∃ j : Nat, sd = [some (.str z), some (.int j), some (.str cs)] ∧ m' = m ∧ n = z.length - j ∧ j ≤ z.length ∧ j + ((z.cps.toList.drop j).takeWhile p).length = i + ((z.cps.toList.drop i).takeWhile p).length, ⟨_, i, rfl, rfl, rfl, hi, rfl⟩, ?_⟩
  rintro n _ _ ⟨j, rfl, rfl, rfl, hj, e⟩
  by_cases hlt : j < z.length
  · obtain ⟨c, hc, hd⟩ := get_at hlt
    rw [hd] at e
    cases hpc : p c
    · rw [List.takeWhile_cons, if_neg (by rw [hpc]; decide)] at e
      lcg_off
      · rw [hpc]
        lcg_off
        exact ⟨_, Less.refl _, by rw [show i + _ = j from e.symm] at q; exact q⟩
      · omega
    · rw [List.takeWhile_cons, if_pos hpc] at e
      lcg_off
      · rw [hpc]
        lcg_off
        exact ⟨_, Less.refl _, _, (by omega : z.length - (j + 1) < _), _, rfl, rfl, rfl, by omega, by rw [List.length_cons] at e; omega⟩
      · omega
  · have hj2 : j = z.length := by omega
    have e2 : z.cps.toList.drop j = [] := List.drop_eq_nil_of_le (by rw [Array.length_toList]; exact Nat.le_of_eq hj2.symm)
    rw [e2] at e
    lcg_off
    · omega
    · exact ⟨_, Less.refl _, by rw [show i + _ = j from e.symm] at q; exact q⟩
local macro_rules | `(tactic| lcg_sub) => `(tactic| first
  | ((with_reducible refine' use_run (p := wordC) ?y1 ?y2 ?y3 ?y4); (case y1 => omega); (case y2 => omega); (case y3 => exact mem_word))
  | ((with_reducible refine' use_run (p := isDg) ?y1 ?y2 ?y3 ?y4); (case y1 => omega); (case y2 => omega); (case y3 => exact mem_dg)) | fail)
def sp_token_end : DSp := fun ds m P _ => ∃ z, ∃ i : Nat, ds = [.str z, .int i] ∧ i < z.length ∧ z.length ≤ sizeLine ∧ P (.int ((i + tokLen (z.cps.toList.drop i) : Nat) : Int)) m
theorem use_tend {z : Str} {i : Nat} {m : M} {P : DK} (h : i < z.length) (h2 : z.length ≤ sizeLine) (q : P (.int ((i + tokLen (z.cps.toList.drop i) : Nat) : Int)) m) : sp_token_end [.str z, .int i] m P noX := ⟨z, i, rfl, h, h2, q⟩
theorem rd_tend : ∀ ds m P EX, sp_token_end ds m P EX → Go P (b_token_end sp_run_end) (dstart ["text", "at"] ds) m := by
  rintro ds m P EX ⟨z, i, rfl, hi, hz, q⟩
  show b_token_end sp_run_end { nx := fun _ m' => Ret P .non m', rt := Ret P } [some (.str z), some (.int i)] m
  unfold b_token_end
  obtain ⟨c, hc, hd⟩ := get_at hi
  have hc2 : (cutS z (some (i : Int)) (some ((i + 2 : Nat) : Int))).cps.toList = (z.cps.toList.drop i).take 2 := by rw [cutS_eq z i (i + 2) (by omega)]; congr 1; omega
  have a1 : ("->" : Str).cps.toList = [45, 62] := by decide +kernel
  have a2 : ("==" : Str).cps.toList = [61, 61] := by decide +kernel
  have key : cutS z (some (i : Int)) (some ((i + 2 : Nat) : Int)) ∈ (["->", "=="] : List Str) ↔ (z.cps.toList.drop i).take 2 = [45, 62] ∨ (z.cps.toList.drop i).take 2 = [61, 61] := by
    rw [List.mem_cons, List.mem_singleton, ← hc2]
    refine or_congr ⟨fun h => by rw [h, a1], fun h => ?_⟩ ⟨fun h => by rw [h, a2], fun h => ?_⟩
    · rw [str_ext h, ← str_ext a1]
    · rw [str_ext h, ← str_ext a2]
  rw [hd] at q key
  unfold tokLen at q
  dsimp only at q
  have hsz := PySem.sizeLine_eq
  have b1 : (smS : Str).length = 26 := by decide +kernel
  have b2 : (cpS : Str).length = 26 := by decide +kernel
  have b3 : (dgS : Str).length = 10 := by decide +kernel
  cases k1 : letC c
  · rw [if_neg (by rw [k1]; decide)] at q
    cases k2 : isDg c
    · rw [if_neg (by rw [k2]; decide)] at q
      top_strB
      rw [k1]
      top_strB
      rw [k2]
      top_strB
      · rename_i h
        rw [if_pos (key.mp h)] at q
        exact ⟨_, Less.refl _, q⟩
      · rename_i h
        rw [if_neg (fun x => h (key.mpr x))] at q
        exact ⟨_, Less.refl _, q⟩
    · rw [if_pos k2, ← hd] at q
      top_strB
      rw [k1]
      top_strB
      rw [k2]
      top_strB
      exact ⟨_, Less.refl _, q⟩
  · rw [if_pos k1, ← hd] at q
    top_strB
    rw [k1]
    top_strB
    exact ⟨_, Less.refl _, q⟩
local macro_rules | `(tactic| lcg_sub) => `(tactic| first
  | ((with_reducible refine' use_tend ?y1 ?y2 ?y3); (case y1 => omega); (case y2 => omega)) | ((with_reducible refine' use_label ?y1 ?y2 ?y3); (case y1 => omega); (case y2 => omega)) | fail)

theorem tokLen_pos (c : Nat) (r : List Nat) : 0 < tokLen (c :: r) := by
  unfold tokLen
  dsimp only
  split
  · rename_i h
    rw [List.takeWhile_cons, if_pos (by unfold wordC; rw [h]; rfl), List.length_cons]; omega
  · split
    · rename_i h
      rw [List.takeWhile_cons, if_pos h, List.length_cons]; omega
    · split <;> decide
def sp_split_text : DSp := fun ds m P _ => ∃ z T, ds = [.str z] ∧ z.length ≤ 16000000 ∧ Lex z.cps.toList 1 1 T ∧ ∀ p, m p = none → P (.ref p) (put m p (.lst (T.map Tk.D)))
theorem use_split {z : Str} {T : List Tk} {m : M} {P : DK} (h : z.length ≤ 16000000) (hL : Lex z.cps.toList 1 1 T) (q : ∀ p, m p = none → P (.ref p) (put m p (.lst (T.map Tk.D)))) : sp_split_text [.str z] m P noX := ⟨z, T, rfl, h, hL, q⟩
theorem r_eqSg {c k : Nat} {z : Str} {m : M} {P : DK} (h : z = ⟨#[k]⟩) (q : P (.bl (decide (c = k))) m) : rEqD (.str ⟨#[c]⟩) (.str z) m P := by
  subst h
  show P (.bl (decide ((⟨#[c]⟩ : Str) = ⟨#[k]⟩))) m
  rw [decide_eq_decide.mpr (show (⟨#[c]⟩ : Str) = ⟨#[k]⟩ ↔ c = k from ⟨fun h => by cases h; rfl, fun h => by rw [h]⟩)]
  exact q
theorem nl_is : ("\n" : Str) = ⟨#[10]⟩ := by decide +kernel
theorem sp_is : (" " : Str) = ⟨#[32]⟩ := by decide +kernel
local macro_rules | `(tactic| lcg_sub) => `(tactic| first | with_reducible refine r_eqSg nl_is ?_ | with_reducible refine r_eqSg sp_is ?_ | fail)
theorem rd_split : ∀ ds m P EX, sp_split_text ds m P EX → Go P (b_split_text sp_token_end sp_label_of) (dstart ["text", "tokens", "line", "line_start", "at", "word"] ds) m := by
  rintro ds m P EX ⟨z, T, rfl, hz, hL, q⟩
  show b_split_text sp_token_end sp_label_of { nx := fun _ m' => Ret P .non m', rt := Ret P } [some (.str z), none, none, none, none, none] m
  unfold b_split_text
  have hsz := PySem.sizeLine_eq
  have hl : z.cps.toList.length = z.length := Array.length_toList
  lcg_off
  rename_i p hp
  refine s_seq ?_
  lcg_off
  refine ⟨fun n sd m' => ∃ (j ls : Nat) (r c : Int) (T0 T1 : List Tk) (ww : Option D), sd = [some (.str z), some (.ref p), some (.int r), some (.int ls), some (.int j), ww] ∧ m' = put m p (.lst (T0.map Tk.D)) ∧ n = z.length - j ∧ j ≤ z.length ∧ c = (j : Int) - ls + 1 ∧ T = T0 ++ T1 ∧ T0.length ≤ j ∧ Lex (z.cps.toList.drop j) r c T1,
    ⟨_, 0, 0, 1, 1, [], T, none, rfl, rfl, rfl, Nat.zero_le _, rfl, rfl, Nat.le_refl _, hL⟩, ?_⟩
  rintro n _ _ ⟨j, ls, r, c, T0, T1, ww, rfl, rfl, rfl, hj, hc, hT, hl0, hL⟩
  by_cases hlt : j < z.length
  · obtain ⟨x, hx, hd⟩ := get_at hlt
    rw [hd] at hL
    generalize hcs : z.cps.toList.drop (j + 1) = cs at hL hd
    cases hL with
    | nl hL =>
      lcg_off
      · exact ⟨_, _, _, rfl, _, Less.refl _, _, (by omega : z.length - (j + 1) < _), j + 1, j + 1, r + 1, 1, T0, T1, ww, rfl, rfl, rfl, by omega, by omega, hT, by omega, by rw [hcs]; exact hL⟩
      · omega
    | sp hL =>
      lcg_off
      · exact ⟨_, Less.refl _, _, (by omega : z.length - (j + 1) < _), j + 1, ls, r, c + 1, T0, T1, ww, rfl, rfl, rfl, by omega, by omega, hT, by omega, by rw [hcs]; exact hL⟩
      · omega
    | @tok x w cs r c T1 n1 n2 hk hk2 hL =>
      rw [← hd] at hk
      have e : (cutS z (some (j : Int)) (some ((j + tokLen (z.cps.toList.drop j) : Nat) : Int))) = ⟨(x :: w).toArray⟩ := by
        refine str_ext ?_
        rw [cutS_eq z j _ (by omega), hk, hd]
        have : j + (w.length + 1) - j = (x :: w).length := by rw [List.length_cons]; omega
        rw [this]
        show ((x :: w) ++ cs).take _ = _
        rw [List.take_left']
        rfl
      have hwl : (⟨(x :: w).toArray⟩ : Str).length = w.length + 1 := by show (x :: w).toArray.size = _; rw [List.size_toArray, List.length_cons]
      have hjl : j + (w.length + 1) ≤ z.length := by
        have := congrArg List.length hd
        rw [List.length_drop, hl] at this
        simp only [List.length_cons, List.length_append] at this
        omega
      lcg_off
      · omega
      · omega
      · rw [e]
        generalize (⟨(x :: w).toArray⟩ : Str) = W at hwl hT
        top_strB
        refine ⟨put m p (.lst ((T0 ++ [(⟨labP W, W, r, c⟩ : Tk)]).map Tk.D)), ?_, z.length - (j + W.length), by omega, j + W.length, ls, r, c + (w.length + 1 : Nat), T0 ++ [(⟨labP W, W, r, c⟩ : Tk)], T1, _, rfl, rfl, rfl, by omega, by omega, by rw [hT]; simp, by simp; omega, ?_⟩
        · rw [List.map_append]
          rw [show (c : Int) = (j : Int) - ls + 1 from hc]
          exact Less.refl _
        · have : z.cps.toList.drop (j + W.length) = cs := by
            rw [← List.drop_drop, hd, hwl]
            show List.drop (w.length + 1) ((x :: w) ++ _) = _
            rw [List.drop_left']
            rfl
          rw [this]
          exact hL
      · omega
  · have hj2 : j = z.length := by omega
    have e2 : z.cps.toList.drop j = [] := List.drop_eq_nil_of_le (by omega)
    rw [e2] at hL
    cases hL
    lcg_off
    · omega
    · refine ⟨_, ?_, q p hp⟩
      rw [hT, List.map_append]
      rw [show (c : Int) = (j : Int) - ls + 1 from hc]
      exact Less.refl _

theorem strAtP {p : Nat → Bool} {z : Str} {n : Nat} {r : Int} (hn : z.cps.toList.length = n) (h : z.cps.toList.all p = true) (h0 : 0 ≤ r) (h1 : r < n) : ∃ c, atI z.cps.toList r = some c ∧ p c = true := by
  obtain ⟨j, rfl⟩ : ∃ j : Nat, r = j := ⟨r.toNat, by omega⟩
  have hl : j < z.cps.toList.length := by omega
  exact ⟨z.cps.toList[j], atI_nat (List.getElem?_eq_getElem hl), List.all_eq_true.mp h _ (List.getElem_mem hl)⟩
/-- a word under way: its first sign is a letter -/
structure Wd (z : Str) (n : Nat) (lo : Bool) : Prop where
  len : z.length ≤ n
  hd : ∃ c, headN z = some c ∧ c ∈ letS.cps.toList ∧ (lo = false → c < 97 ∧ isCap c = true) ∧ (lo = true → isSm c = true)
  al : z.cps.toList.all (if lo = true then nameC else bigC) = true
theorem head_app {z w : Str} {c : Nat} (h : headN z = some c) : headN (z ++ w) = some c := by
  unfold headN at h ⊢
  have e : (z ++ w).cps.toList = z.cps.toList ++ w.cps.toList := Array.toList_append
  rw [e, List.head?_append, h]
  rfl
theorem Wd.app {z w : Str} {n k : Nat} {lo : Bool} (h : Wd z n lo) (hw : w.length ≤ k) (ha : w.cps.toList.all (if lo = true then nameC else bigC) = true) : Wd (z ++ w) (n + k) lo := by
  obtain ⟨c, h1, h2⟩ := h.hd
  refine ⟨by rw [slen_app]; have := h.len; omega, ⟨c, head_app h1, h2⟩, ?_⟩
  have e : (z ++ w).cps.toList = z.cps.toList ++ w.cps.toList := Array.toList_append
  rw [e, List.all_append, h.al, ha]
  rfl
theorem Wd.mono {z : Str} {n k : Nat} {lo : Bool} (h : Wd z n lo) (e : n ≤ k) : Wd z k lo := ⟨Nat.le_trans h.len e, h.hd, h.al⟩
theorem Wd.one {c : Nat} {lo : Bool} (h : c ∈ letS.cps.toList ∧ (lo = false → c < 97 ∧ isCap c = true) ∧ (lo = true → isSm c = true)) : Wd ⟨#[c]⟩ 1 lo := ⟨Nat.le_refl _, ⟨c, rfl, h⟩, by
  show (List.all [c] _) = true
  rw [List.all_cons, List.all_nil, Bool.and_true]
  cases lo with
  | true => have := h.2.2 rfl; show nameC c = true; unfold nameC; rw [this]; rfl
  | false => have := (h.2.1 rfl).2; show bigC c = true; unfold bigC; rw [this]; simp⟩
theorem one_lenE (c : Nat) : Str.length ⟨#[c]⟩ = 1 := rfl
theorem us_len : (("_" : Str)).length = 1 := by decide +kernel
theorem one_len (c : Nat) : Str.length ⟨#[c]⟩ ≤ 1 := Nat.le_refl _
theorem words_lo : lawWords.all (fun w => match headN w with | some c => decide (97 ≤ c) | none => false) = true := by decide +kernel
theorem words_end : lawWords.all (fun w => !decide (w.cps.toList.getLast? = some 95)) = true := by decide +kernel
theorem Wd.big {z : Str} {n : Nat} (h : Wd z n false) (e : n ≤ 20) : BgOk z := by
  obtain ⟨c, h1, h2, h3, _⟩ := h.hd
  refine ⟨⟨Nat.le_trans h.len e, ⟨c, h1, h2⟩, fun hm => ?_⟩, ⟨c, h1, (h3 rfl).2⟩, h.al⟩
  have := List.all_eq_true.mp words_lo z hm
  rw [h1] at this
  have := of_decide_eq_true this
  have := (h3 rfl).1
  omega
theorem Wd.us {z : Str} {n : Nat} (h : Wd z n true) (e : z ∈ lawWords) : SmOk (z ++ ("_" : Str)) := by
  obtain ⟨c, h1, h2, _, h4⟩ := h.hd
  have hz : z.length ≤ 6 := by
    have : lawWords.all (fun w => decide (w.length ≤ 6)) = true := by decide +kernel
    exact of_decide_eq_true (List.all_eq_true.mp this z e)
  have e2 : (z ++ ("_" : Str)).cps.toList = z.cps.toList ++ [95] := by
    show (z.cps ++ (("_" : Str)).cps).toList = _
    rw [Array.toList_append]
    have : (("_" : Str)).cps.toList = [95] := by decide +kernel
    rw [this]
  refine ⟨⟨by rw [slen_app, us_len]; omega, ⟨c, head_app h1, h2⟩, fun hm => ?_⟩, ⟨c, head_app h1, h4 rfl⟩, ?_⟩
  · have := List.all_eq_true.mp words_end _ hm
    rw [e2, List.getLast?_append] at this
    simp at this
  · have := h.al
    rw [if_pos rfl] at this
    rw [e2, List.all_append, this]
    rfl
theorem Wd.ok {z : Str} {n : Nat} (h : Wd z n true) (e : n ≤ 20) (hw : z ∉ lawWords) : SmOk z := by
  obtain ⟨c, h1, h2, _, h4⟩ := h.hd
  exact ⟨⟨Nat.le_trans h.len e, ⟨c, h1, h2⟩, hw⟩, ⟨c, h1, h4 rfl⟩, h.al⟩
def sp_law_words : DSp := fun ds m P _ => ds = [] ∧ ∀ p, m p = none → P (.ref p) (put m p (.lst (lawWords.map D.str)))
theorem rd_words : ∀ ds m P EX, sp_law_words ds m P EX → Go P b_law_words (dstart ["words"] ds) m := by
  rintro ds m P EX ⟨rfl, q⟩
  show b_law_words { nx := fun _ m' => Ret P .non m', rt := Ret P } [none] m
  unfold b_law_words
  lcg_off
  simp only [lawWords, List.map_cons, List.map_nil] at q
  simp only [List.cons_append, List.nil_append]
  refine ⟨_, ?_, q _ (by assumption)⟩
  one_item
theorem use_words {m : M} {P : DK} (q : ∀ p, m p = none → P (.ref p) (put m p (.lst (lawWords.map D.str)))) : sp_law_words [] m P noX := ⟨rfl, q⟩
local macro_rules | `(tactic| lcg_sub) => `(tactic| with_reducible refine use_words ?_)
def sp_law_name : DSp := fun ds m P _ => ∃ st ns s, ds = [.ref st, .rol (List.map D.int ns)] ∧ m st = some (S4.D s) ∧ s.Ok ∧
  ∀ z s', SmOk z → S4.Ok s' → s'.d = s.d → P (.str z) (put m st s'.D)
def sp_law_big : DSp := fun ds m P _ => ∃ st ns s, ds = [.ref st, .rol (List.map D.int ns)] ∧ m st = some (S4.D s) ∧ s.Ok ∧
  ∀ z s', BgOk z → S4.Ok s' → s'.d = s.d → P (.str z) (put m st s'.D)
local macro_rules | `(tactic| one_sign) => `(tactic| first
  | (rename Wd _ _ _ => hW; have hA := hW.len; have hC := PySem.sizeLine_eq; (with_reducible show Str.length _ + Str.length ⟨#[_]⟩ ≤ _); have hB := one_len 0; simp only [one_lenE]; omega)
  | (rename Wd _ _ _ => hW; have hA := hW.len; have hC := PySem.sizeLine_eq; have hB := us_len; omega) | fail)
theorem rd_name : ∀ ds m P EX, sp_law_name ds m P EX → Go P (b_law_name sp_law_pick sp_law_words) (dstart ["state", "script", "letters", "chars", "size", "word", "k"] ds) m := by
  rintro ds m P EX ⟨st, ns, s, rfl, hs, ho, q⟩
  show b_law_name sp_law_pick sp_law_words { nx := fun _ m' => Ret P .non m', rt := Ret P } [some (.ref st), some (.rol (List.map D.int ns)), none, none, none, none, none] m
  unfold b_law_name
  lcg_off
  refine s_cut (fun sd m' => ∃ (k : Int) (s' : S4), sd = [some (.ref st), some (.rol (List.map D.int ns)), some (.str "abcdefghijklmnopqrstuvwxyz"), some (.str (Str.ofString "abcdefghijklmnopqrstuvwxyz" ++ Str.ofString "0123456789_")), some (.int k), none, none] ∧ m' = put m st s'.D ∧ s'.Ok ∧ s'.d = s.d ∧ 1 ≤ k ∧ k ≤ 20) ?_ ?_
  · lcg_off
    · exact ⟨_, Less.refl _, _, _, rfl, rfl, ‹_›, by omega, by omega, by omega⟩
    · exact ⟨_, Less.refl _, _, _, rfl, rfl, ‹_›, by omega, by omega, by omega⟩
  · rintro _ _ ⟨k, s1, rfl, rfl, o1, g1, hk1, hk2⟩
    lcg_off
    rename_i r s2 h1 h2 o2 d2
    obtain ⟨c, hc, hc2⟩ := strAtP (p := fun c => decide (c ∈ letS.cps.toList) && isSm c) (z := "abcdefghijklmnopqrstuvwxyz") (n := 26) (by decide +kernel) (by decide +kernel) h1 h2
    rw [Bool.and_eq_true] at hc2
    refine ⟨c, hc, ?_⟩
    lcg_off
    refine s_seq ?_
    lcg_off
    refine ⟨⟨by omega, by omega⟩, fun i sd m' => ∃ (z : Str) (kk : Option D) (s' : S4), sd = [some (.ref st), some (.rol (List.map D.int ns)), some (.str "abcdefghijklmnopqrstuvwxyz"), some (.str (Str.ofString "abcdefghijklmnopqrstuvwxyz" ++ Str.ofString "0123456789_")), some (.int k), some (.str z), kk] ∧ m' = put m st s'.D ∧ s'.Ok ∧ s'.d = s.d ∧ Wd z (i + 1) true, ⟨_, _, s2, rfl, rfl, o2, by omega, Wd.one ⟨of_decide_eq_true hc2.1, (fun h => by cases h), fun _ => hc2.2⟩⟩, ?_, ?_⟩
    · rintro i _ _ hi ⟨z, kk, s3, rfl, rfl, o3, g3, pz⟩
      lcg_off
      rename_i r s4 h3 h4 o4 d4
      obtain ⟨c2, hd, hd2⟩ := strAtP (p := nameC) (z := Str.ofString "abcdefghijklmnopqrstuvwxyz" ++ Str.ofString "0123456789_") (n := 37) (by decide +kernel) (by decide +kernel) h3 h4
      refine ⟨c2, hd, ?_⟩
      lcg_off
      exact ⟨_, Less.refl _, _, _, s4, rfl, rfl, o4, by omega, pz.app (one_len c2) (by rw [if_pos rfl]; show (List.all [c2] _) = true; rw [List.all_cons, hd2]; rfl)⟩
    · rintro _ _ ⟨z, kk, s3, rfl, rfl, o3, g3, pz⟩
      lcg_off
      · refine ⟨_, ?_, q _ s3 (pz.us ‹_›) o3 g3⟩
        one_item
      · refine ⟨_, ?_, q _ s3 (pz.ok (by omega) ‹_›) o3 g3⟩
        one_item
theorem rd_big : ∀ ds m P EX, sp_law_big ds m P EX → Go P (b_law_big sp_law_pick) (dstart ["state", "script", "letters", "chars", "size", "word", "k"] ds) m := by
  rintro ds m P EX ⟨st, ns, s, rfl, hs, ho, q⟩
  show b_law_big sp_law_pick { nx := fun _ m' => Ret P .non m', rt := Ret P } [some (.ref st), some (.rol (List.map D.int ns)), none, none, none, none, none] m
  unfold b_law_big
  lcg_off
  refine s_cut (fun sd m' => ∃ (k : Int) (s' : S4), sd = [some (.ref st), some (.rol (List.map D.int ns)), some (.str "ABCDEFGHIJKLMNOPQRSTUVWXYZ"), some (.str (Str.ofString "ABCDEFGHIJKLMNOPQRSTUVWXYZ" ++ Str.ofString "abcdefghijklmnopqrstuvwxyz0123456789")), some (.int k), none, none] ∧ m' = put m st s'.D ∧ s'.Ok ∧ s'.d = s.d ∧ 1 ≤ k ∧ k ≤ 20) ?_ ?_
  · lcg_off
    · exact ⟨_, Less.refl _, _, _, rfl, rfl, ‹_›, by omega, by omega, by omega⟩
    · exact ⟨_, Less.refl _, _, _, rfl, rfl, ‹_›, by omega, by omega, by omega⟩
  · rintro _ _ ⟨k, s1, rfl, rfl, o1, g1, hk1, hk2⟩
    lcg_off
    rename_i r s2 h1 h2 o2 d2
    obtain ⟨c, hc, hc2⟩ := strAtP (p := fun c => (decide (c ∈ letS.cps.toList) && decide (c < 97)) && isCap c) (z := "ABCDEFGHIJKLMNOPQRSTUVWXYZ") (n := 26) (by decide +kernel) (by decide +kernel) h1 h2
    rw [Bool.and_eq_true, Bool.and_eq_true] at hc2
    refine ⟨c, hc, ?_⟩
    lcg_off
    refine s_seq ?_
    lcg_off
    refine ⟨⟨by omega, by omega⟩, fun i sd m' => ∃ (z : Str) (kk : Option D) (s' : S4), sd = [some (.ref st), some (.rol (List.map D.int ns)), some (.str "ABCDEFGHIJKLMNOPQRSTUVWXYZ"), some (.str (Str.ofString "ABCDEFGHIJKLMNOPQRSTUVWXYZ" ++ Str.ofString "abcdefghijklmnopqrstuvwxyz0123456789")), some (.int k), some (.str z), kk] ∧ m' = put m st s'.D ∧ s'.Ok ∧ s'.d = s.d ∧ Wd z (i + 1) false, ⟨_, _, s2, rfl, rfl, o2, by omega, Wd.one ⟨of_decide_eq_true hc2.1.1, (fun _ => ⟨of_decide_eq_true hc2.1.2, hc2.2⟩), fun h => by cases h⟩⟩, ?_, ?_⟩
    · rintro i _ _ hi ⟨z, kk, s3, rfl, rfl, o3, g3, pz⟩
      lcg_off
      rename_i r s4 h3 h4 o4 d4
      obtain ⟨c2, hd, hd2⟩ := strAtP (p := bigC) (z := Str.ofString "ABCDEFGHIJKLMNOPQRSTUVWXYZ" ++ Str.ofString "abcdefghijklmnopqrstuvwxyz0123456789") (n := 62) (by decide +kernel) (by decide +kernel) h3 h4
      refine ⟨c2, hd, ?_⟩
      lcg_off
      exact ⟨_, Less.refl _, _, _, s4, rfl, rfl, o4, by omega, pz.app (one_len c2) (by rw [if_neg (by decide)]; show (List.all [c2] _) = true; rw [List.all_cons, hd2]; rfl)⟩
    · rintro _ _ ⟨z, kk, s3, rfl, rfl, o3, g3, pz⟩
      lcg_off
      exact ⟨_, Less.refl _, q _ s3 (pz.big (by omega)) o3 g3⟩
theorem use_name {st : Addr} {ns : List Int} {a b c d : Int} {m : M} {P : DK} (h : m st = some (.lst [.int a, .int b, .int c, .int d])) (o : S4.Ok ⟨a, b, c, d⟩) (q : ∀ z s', SmOk z → S4.Ok s' → s'.d = d → P (.str z) (put m st s'.D)) :
    sp_law_name [.ref st, .rol (List.map D.int ns)] m P noX := ⟨st, ns, ⟨a, b, c, d⟩, rfl, h, o, q⟩
theorem use_big {st : Addr} {ns : List Int} {a b c d : Int} {m : M} {P : DK} (h : m st = some (.lst [.int a, .int b, .int c, .int d])) (o : S4.Ok ⟨a, b, c, d⟩) (q : ∀ z s', BgOk z → S4.Ok s' → s'.d = d → P (.str z) (put m st s'.D)) :
    sp_law_big [.ref st, .rol (List.map D.int ns)] m P noX := ⟨st, ns, ⟨a, b, c, d⟩, rfl, h, o, q⟩
local macro_rules | `(tactic| lcg_sub) => `(tactic| first
  | ((with_reducible refine' use_name ?h1 ?h2 ?h3); (case h1 => lcg_src); (case h2 => first | assumption | exact S4.Ok.d (by assumption) _); intro _ _ _ _ _; try simp only [put_put])
  | ((with_reducible refine' use_big ?h1 ?h2 ?h3); (case h1 => lcg_src); (case h2 => first | assumption | exact S4.Ok.d (by assumption) _); intro _ _ _ _ _; try simp only [put_put]) | fail)

/-! ### kinds -/
inductive Kd where
  | int | bool | unit | box (k : Kd) | maybe (k : Kd) | tup (ks : List Kd) | rcd (n : Str) | shared (k : Kd) | excl (k : Kd)
mutual
def Kd.D : Kd → D
  | .int => .tup [.str "int"]
  | .bool => .tup [.str "bool"]
  | .unit => .tup [.str "unit"]
  | .box k => .tup [.str "box", k.D]
  | .maybe k => .tup [.str "maybe", k.D]
  | .tup ks => .tup [.str "tuple", .tup (Kd.Ds ks)]
  | .rcd n => .tup [.str "record", .str n]
  | .shared k => .tup [.str "shared", k.D]
  | .excl k => .tup [.str "exclusive", k.D]
def Kd.Ds : List Kd → List D
  | [] => []
  | k :: ks => k.D :: Kd.Ds ks
end
theorem Kd.Ds_map : ∀ ks : List Kd, Kd.Ds ks = ks.map Kd.D
  | [] => rfl
  | k :: ks => by rw [Kd.Ds, Kd.Ds_map ks]; rfl
theorem Kd.D_tup (ks : List Kd) : (Kd.tup ks).D = .tup [.str "tuple", .tup (ks.map Kd.D)] := by rw [Kd.D, Kd.Ds_map]
/-! its text -/
mutual
def kT : Kd → Str
  | .int => "int"
  | .bool => "bool"
  | .unit => "unit"
  | .box k => ("box" : Str) ++ (" " : Str) ++ kT k
  | .maybe k => ("maybe" : Str) ++ (" " : Str) ++ kT k
  | .tup ks => ("(" : Str) ++ Str.join ", " (kTs ks) ++ (")" : Str)
  | .rcd n => n
  | .shared k => ("&" : Str) ++ kT k
  | .excl k => ("&mut " : Str) ++ kT k
def kTs : List Kd → List Str
  | [] => []
  | k :: ks => kT k :: kTs ks
end
theorem kTs_map : ∀ ks : List Kd, kTs ks = ks.map kT
  | [] => rfl
  | k :: ks => by rw [kTs, kTs_map ks]; rfl
/-! its tokens -/
mutual
def kR : Kd → List Str
  | .int => ["int"]
  | .bool => ["bool"]
  | .unit => ["unit"]
  | .box k => ("box" : Str) :: kR k
  | .maybe k => ("maybe" : Str) :: kR k
  | .tup ks => ("(" : Str) :: (rowsJ (kRs ks) ++ [(")" : Str)])
  | .rcd n => [n]
  | .shared k => ("&" : Str) :: kR k
  | .excl k => ("&mut" : Str) :: kR k
def kRs : List Kd → List (List Str)
  | [] => []
  | k :: ks => kR k :: kRs ks
end
theorem kRs_map : ∀ ks : List Kd, kRs ks = ks.map kR
  | [] => rfl
  | k :: ks => by rw [kRs, kRs_map ks]; rfl
/-- as the law draws them -/
inductive WT : Nat → Kd → Prop where
  | int (n) : WT (n + 1) .int
  | bool (n) : WT (n + 1) .bool
  | unit (n) : WT (n + 1) .unit
  | box {n k} : WT n k → WT (n + 1) (.box k)
  | maybe {n k} : WT n k → WT (n + 1) (.maybe k)
  | tup {n ks} : 2 ≤ ks.length → ks.length ≤ 7 → (∀ k ∈ ks, WT (min n 2) k) → WT (n + 1) (.tup ks)
  | rcd (n) {z} : BgOk z → WT (n + 1) (.rcd z)
  | shared {n k} : WT n k → WT (n + 1) (.shared k)
  | excl {n k} : WT n k → WT (n + 1) (.excl k)
theorem WT.mono : ∀ {n m : Nat} {k : Kd}, WT n k → n ≤ m → WT m k
  | _, m + 1, _, .int n, _ => .int m
  | _, m + 1, _, .bool n, _ => .bool m
  | _, m + 1, _, .unit n, _ => .unit m
  | _, m + 1, _, .box h, e => .box (h.mono (Nat.le_of_succ_le_succ e))
  | _, m + 1, _, .maybe h, e => .maybe (h.mono (Nat.le_of_succ_le_succ e))
  | n + 1, m + 1, _, .tup h1 h2 h, e => .tup h1 h2 fun k hk => (h k hk).mono (by omega)
  | _, m + 1, _, .rcd n h, _ => .rcd m h
  | _, m + 1, _, .shared h, e => .shared (h.mono (Nat.le_of_succ_le_succ e))
  | _, m + 1, _, .excl h, e => .excl (h.mono (Nat.le_of_succ_le_succ e))
  | _ + 1, 0, _, _, e => absurd e (by omega)
theorem WT.tupI {n : Nat} {ks : List Kd} (h : WT (n + 1) (.tup ks)) : 2 ≤ ks.length ∧ ks.length ≤ 7 ∧ ∀ k ∈ ks, WT n k := by
  cases h with
  | tup h1 h2 h => exact ⟨h1, h2, fun k hk => (h k hk).mono (by omega)⟩
theorem phk_pre {t ts x y : _} {g : Str} (h : PhK ts x) (hA : t ∉ puncA) (e : ∀ h, h ∉ puncA → gapL t h = g) (ey : t ++ (g ++ x) = y) : PhK (t :: ts) y := by
  obtain ⟨h1, l1, a, n, m⟩ := h
  exact ⟨t, l1, ((Ph.one t).app a (e h1 n)).is ey rfl, hA, m⟩
theorem phk_word {t : Str} {ts : List Str} {x : Str} (h : PhK ts x) (hA : t ∉ puncA) (hB : t ∉ puncB) (hn : named t = false) : PhK (t :: ts) (t ++ ((" " : Str) ++ x)) :=
  phk_pre h hA (fun h n => gapS n hB (.inr hn)) rfl
theorem phk_one {t : Str} (hA : t ∉ puncA) (hB : t ∉ puncB) : PhK [t] t := ⟨t, t, Ph.one t, hA, hB⟩
theorem phk_par {ts : List Str} {x : Str} (h : PhK ts x) : PhK (("(" : Str) :: (ts ++ [(")" : Str)])) (("(" : Str) ++ x ++ (")" : Str)) := by
  obtain ⟨h1, l1, a, n, m⟩ := h
  refine ⟨"(", ")", ((Ph.one "(").app (a.app (Ph.one ")") (gapA (by decide +kernel))) (gapB (by decide +kernel))).is ?_ rfl, by decide +kernel, by decide +kernel⟩
  simp only [snil_app, sapp_assoc]
theorem mut2 : (("&mut " : Str)) = ("&mut" : Str) ++ (" " : Str) := by decide +kernel
theorem WT.phk : ∀ {n : Nat} {k : Kd}, WT n k → PhK (kR k) (kT k)
  | _, _, .int n => by rw [kR, kT]; exact phk_one (by decide +kernel) (by decide +kernel)
  | _, _, .bool n => by rw [kR, kT]; exact phk_one (by decide +kernel) (by decide +kernel)
  | _, _, .unit n => by rw [kR, kT]; exact phk_one (by decide +kernel) (by decide +kernel)
  | _, _, .rcd n h => by rw [kR, kT]; exact h.phk
  | _, _, .box h => by rw [kR, kT, sapp_assoc]; exact phk_word h.phk (by decide +kernel) (by decide +kernel) (by decide +kernel)
  | _, _, .maybe h => by rw [kR, kT, sapp_assoc]; exact phk_word h.phk (by decide +kernel) (by decide +kernel) (by decide +kernel)
  | _, _, .excl h => by rw [kR, kT, mut2, sapp_assoc]; exact phk_word h.phk (by decide +kernel) (by decide +kernel) (by decide +kernel)
  | _, _, .shared h => by rw [kR, kT]; exact phk_pre h.phk (by decide +kernel) (fun _ _ => gapB (by decide +kernel)) (by rw [snil_app])
  | _, _, .tup (ks := ks) h1 h2 h => by
    rw [kR, kT, kRs_map, kTs_map]
    refine phk_par ?_
    have q : ∀ j ∈ ks, PhK (kR j) (kT j) := fun j hj => (h j hj).phk
    have := PhK.join (ps := ks.map fun j => (kR j, kT j)) (by intro e; have e := List.map_eq_nil_iff.mp e; subst e; exact absurd h1 (by decide)) fun p hp => by
      obtain ⟨j, hj, e⟩ := List.mem_map.mp hp
      subst e
      exact q j hj
    rw [List.map_map, List.map_map] at this
    exact this
theorem one_wt {t : Str} {n : Nat} (h : t.length + 1 ≤ n) : wt [t] ≤ n := by rw [wt_cons, wt_nil]; exact h
theorem wtl (z : Str) {n : Nat} (h : z.length ≤ n) (ts : List Str) : wt (z :: ts) ≤ n + 1 + wt ts := by rw [wt_cons]; omega
theorem WT.wt1 : ∀ {k : Kd}, WT 1 k → wt (kR k) ≤ 23
  | _, .int _ => by rw [kR]; exact one_wt (by decide +kernel)
  | _, .bool _ => by rw [kR]; exact one_wt (by decide +kernel)
  | _, .unit _ => by rw [kR]; exact one_wt (by decide +kernel)
  | _, .rcd _ h => by rw [kR]; exact one_wt (by have := h.len; omega)
  | _, .tup h1 h2 h => by
    rename_i ks
    cases ks with
    | nil => exact absurd h1 (by decide)
    | cons k ks => exact nomatch h k List.mem_cons_self
theorem wt_tup {ks : List Kd} {c : Nat} (h2 : ks.length ≤ 7) (h : ∀ k ∈ ks, wt (kR k) ≤ c) : wt (kR (.tup ks)) ≤ 4 + 7 * (c + 2) := by
  rw [kR, kRs_map, wt_cons, wt_app]
  have a := wt_rowsJ (ks.map kR)
  rw [List.map_map] at a
  have b := sum_le (f := (fun r => wt r + 2) ∘ kR) (n := c + 2) (xs := ks) fun k hk => Nat.add_le_add_right (h k hk) 2
  have d : ks.length * (c + 2) ≤ 7 * (c + 2) := Nat.mul_le_mul_right _ h2
  have e1 : (("(" : Str)).length = 1 := by decide +kernel
  have e2 : wt [(")" : Str)] = 2 := by decide +kernel
  rw [e1, e2]
  omega
theorem WT.wt2 : ∀ {n : Nat} {k : Kd}, n ≤ 2 → WT n k → wt (kR k) ≤ 179
  | 1, _, _, h => Nat.le_trans h.wt1 (by decide)
  | 2, _, _, .int _ => by rw [kR]; exact one_wt (by decide +kernel)
  | 2, _, _, .bool _ => by rw [kR]; exact one_wt (by decide +kernel)
  | 2, _, _, .unit _ => by rw [kR]; exact one_wt (by decide +kernel)
  | 2, _, _, .rcd _ h => by rw [kR]; exact one_wt (by have := h.len; omega)
  | 2, _, _, .box h => by rw [kR]; have := h.wt1; exact Nat.le_trans (wtl "box" (n := 5) (by decide +kernel) _) (by omega)
  | 2, _, _, .maybe h => by rw [kR]; have := h.wt1; exact Nat.le_trans (wtl "maybe" (n := 5) (by decide +kernel) _) (by omega)
  | 2, _, _, .shared h => by rw [kR]; have := h.wt1; exact Nat.le_trans (wtl "&" (n := 5) (by decide +kernel) _) (by omega)
  | 2, _, _, .excl h => by rw [kR]; have := h.wt1; exact Nat.le_trans (wtl "&mut" (n := 5) (by decide +kernel) _) (by omega)
  | 2, _, _, .tup h1 h2 h => wt_tup h2 fun k hk => (h k hk).wt1
theorem WT.wt : ∀ {n : Nat} {k : Kd}, WT n k → wt (kR k) ≤ 1271 + 6 * n
  | _, _, .int _ => by rw [kR]; exact Nat.le_trans (one_wt (n := 5) (by decide +kernel)) (by omega)
  | _, _, .bool _ => by rw [kR]; exact Nat.le_trans (one_wt (n := 5) (by decide +kernel)) (by omega)
  | _, _, .unit _ => by rw [kR]; exact Nat.le_trans (one_wt (n := 5) (by decide +kernel)) (by omega)
  | _, _, .rcd _ h => by rw [kR]; exact one_wt (by have := h.len; omega)
  | _, _, .box h => by rw [kR]; have := h.wt; exact Nat.le_trans (wtl "box" (n := 5) (by decide +kernel) _) (by omega)
  | _, _, .maybe h => by rw [kR]; have := h.wt; exact Nat.le_trans (wtl "maybe" (n := 5) (by decide +kernel) _) (by omega)
  | _, _, .shared h => by rw [kR]; have := h.wt; exact Nat.le_trans (wtl "&" (n := 5) (by decide +kernel) _) (by omega)
  | _, _, .excl h => by rw [kR]; have := h.wt; exact Nat.le_trans (wtl "&mut" (n := 5) (by decide +kernel) _) (by omega)
  | _, _, .tup h1 h2 h => Nat.le_trans (wt_tup (c := 179) h2 fun k hk => (h k hk).wt2 (by omega)) (by omega)
def sp_law_tree_kind (n : Nat) : DSp := fun ds m P _ => ∃ st ns s, ∃ r : Int, ds = [.ref st, .rol (List.map D.int ns), .int r] ∧ m st = some (S4.D s) ∧ s.Ok ∧ 1 ≤ r ∧ r ≤ n ∧ n ≤ 900 ∧
  ∀ k s', WT r.toNat k → S4.Ok s' → s'.d = s.d → P (Kd.D k) (put m st s'.D)
theorem use_tkind {n : Nat} {st : Addr} {ns : List Int} {a bb c d : Int} {m : M} {P : DK} {r : Int} (h : m st = some (.lst [.int a, .int bb, .int c, .int d])) (o : S4.Ok ⟨a, bb, c, d⟩) (h1 : 1 ≤ r) (h2 : r ≤ n) (h3 : n ≤ 900)
    (q : ∀ k s', WT r.toNat k → S4.Ok s' → s'.d = d → P (Kd.D k) (put m st s'.D)) : sp_law_tree_kind n [.ref st, .rol (List.map D.int ns), .int r] m P noX := ⟨st, ns, ⟨a, bb, c, d⟩, r, rfl, h, o, h1, h2, h3, q⟩
local macro_rules | `(tactic| lcg_sub) => `(tactic| ((with_reducible refine' use_tkind ?h1 ?h2 ?h3 ?h4 ?h5 ?h6); (case h1 => lcg_src); (case h2 => first | assumption | exact S4.Ok.d (by assumption) _); (case h3 => first | omega | decide | (split <;> omega)); (case h4 => first | omega | decide | (split <;> omega)); (case h5 => first | omega | decide); intro _ _ _ _ _; try simp only [put_put]))
theorem rd_tkind (n : Nat) : ∀ ds m P EX, sp_law_tree_kind (n + 1) ds m P EX → Go P (b_law_tree_kind sp_law_pick (sp_law_tree_kind n) sp_law_big) (dstart ["state", "script", "room", "choice", "items", "k"] ds) m := by
  rintro ds m P EX ⟨st, ns, s, r, rfl, hs, ho, h1, h2, h3, q⟩
  show b_law_tree_kind sp_law_pick (sp_law_tree_kind n) sp_law_big { nx := fun _ m' => Ret P .non m', rt := Ret P } [some (.ref st), some (.rol (List.map D.int ns)), some (.int r), none, none, none] m
  unfold b_law_tree_kind
  obtain ⟨j, rfl⟩ : ∃ j : Nat, r = j := ⟨r.toNat, by omega⟩
  have ej : (j : Int).toNat = ((j : Int) - 1).toNat + 1 := by omega
  rw [ej] at q
  lcg_off
  · rename_i c s1 g0 g1 o1 d1 _ _ _ p _ _
    refine s_seq ?_
    lcg_off
    rename_i t s2 t0 t1 o2 d2
    refine ⟨⟨by omega, by omega⟩, fun i sd m' => ∃ (ks : List Kd) (kk : Option D) (s' : S4), sd = [some (.ref st), some (.rol (List.map D.int ns)), some (.int j), some (.int c), some (.ref p), kk] ∧ m' = put (put m p (.lst (ks.map Kd.D))) st s'.D ∧ s'.Ok ∧ s'.d = s.d ∧ ks.length = i ∧ ∀ k ∈ ks, WT (min ((j : Int) - 1).toNat 2) k,
      ⟨[], _, s2, rfl, by rw [put_comm ‹p ≠ st›, put_put, put_comm (Ne.symm ‹p ≠ st›)]; rfl, o2, by omega, rfl, fun _ h => by simp at h⟩, ?_, ?_⟩
    · rintro i _ _ hi ⟨ks, kk, s3, rfl, rfl, o3, g3, hl, hk⟩
      lcg_off
      rename_i k s4 hk4 o4 d4
      refine ⟨_, Less.refl _, ks ++ [k], _, s4, rfl, ?_, o4, by omega, by simp [hl], ?_⟩
      · simp only [List.map_append, List.map_cons, List.map_nil]
      · intro x hx
        rcases List.mem_append.mp hx with h | h
        · exact hk x h
        · rw [List.mem_singleton] at h; subst h
          refine hk4.mono ?_
          split <;> omega
    · rintro _ _ ⟨ks, kk, s3, rfl, rfl, o3, g3, hl, hk⟩
      lcg_off
      refine ⟨put m st s3.D, ?_, ?_⟩
      · one_item
      · have := q (.tup ks) s3 (.tup (by omega) (by omega) hk) o3 g3
        rw [Kd.D_tup] at this
        exact this
  · rename_i c s1 g0 g1 o1 d1 _ _ _ p _ _
    have hc : c % 4 = 0 ∨ c % 4 = 1 ∨ c % 4 = 2 ∨ c % 4 = 3 := by omega
    rcases hc with hc | hc | hc | hc
    all_goals rw [hc]
    all_goals lcg_off
    all_goals rename_i k s2 hk o2 d2
    · exact ⟨put m st s2.D, by one_item, q (.box k) s2 (.box hk) o2 (by omega)⟩
    · exact ⟨put m st s2.D, by one_item, q (.maybe k) s2 (.maybe hk) o2 (by omega)⟩
    · exact ⟨put m st s2.D, by one_item, q (.shared k) s2 (.shared hk) o2 (by omega)⟩
    · exact ⟨put m st s2.D, by one_item, q (.excl k) s2 (.excl hk) o2 (by omega)⟩
  all_goals first
    | (rename_i z s2 hz o2 d2; exact ⟨_, Less.refl _, q (.rcd z) s2 (.rcd _ hz) o2 (by omega)⟩)
    | (rename_i c s1 g0 g1 o1 d1 _ _ _ p _ _
       have hc : c % 3 = 0 ∨ c % 3 = 1 ∨ c % 3 = 2 := by omega
       rcases hc with hc | hc | hc
       all_goals rw [hc]
       all_goals lcg_off
       all_goals (first | exact ⟨put m st s1.D, by one_item, q .int s1 (.int _) o1 (by omega)⟩ | exact ⟨put m st s1.D, by one_item, q .bool s1 (.bool _) o1 (by omega)⟩ | exact ⟨put m st s1.D, by one_item, q .unit s1 (.unit _) o1 (by omega)⟩ | fail))
    | (rename_i c s1 g0 g1 o1 d1 _ _ p _ _
       have hc : c % 3 = 0 ∨ c % 3 = 1 ∨ c % 3 = 2 := by omega
       rcases hc with hc | hc | hc
       all_goals rw [hc]
       all_goals lcg_off
       all_goals (first | exact ⟨put m st s1.D, by one_item, q .int s1 (.int _) o1 (by omega)⟩ | exact ⟨put m st s1.D, by one_item, q .bool s1 (.bool _) o1 (by omega)⟩ | exact ⟨put m st s1.D, by one_item, q .unit s1 (.unit _) o1 (by omega)⟩ | fail))
theorem rec_tkind {P : Program} {w : World} {K : PySem.W.Frag} {mg : Str → Option Value} (F : FunAt K mg "_law_tree_kind" s_law_tree_kind ["state", "script", "room"]) (C : Callee P w K mg 1 "_law_pick" ["state", "script", "many"] sp_law_pick) (B : Callee P w K mg 2 "_law_big" ["state", "script"] sp_law_big) (zm : mg "min" = none) (zr : mg "range" = none) (zi : mg "int" = none) (zt : mg "tuple" = none) :
    ∀ n : Nat, Callee P w K mg (n + 2) "_law_tree_kind" ["state", "script", "room"] (sp_law_tree_kind n)
  | 0 => F.none fun ds m P EX h => by obtain ⟨_, _, _, _, _, _, _, h1, h2, _⟩ := h; omega
  | n + 1 => ok_law_tree_kind F (C.mono (by omega)) (rec_tkind F C B zm zr zi zt n) (B.mono (by omega)) zm zr zt zi (by rintro ds m P EX ⟨_, _, _, _, rfl, _⟩; rfl) (rd_tkind n)

/-! ### rows of tokens -/
def OkT (ts : List Str) : Prop := ∀ t ∈ ts, 0 < t.length
theorem OkT.cons {t : Str} {ts : List Str} (h : 0 < t.length) (r : OkT ts) : OkT (t :: ts) := fun x hx => by
  rcases List.mem_cons.mp hx with q | q
  · rw [q]; exact h
  · exact r x q
theorem OkT.nil : OkT [] := fun _ h => by cases h
theorem OkT.app {a b : List Str} (h : OkT a) (h' : OkT b) : OkT (a ++ b) := fun x hx => (List.mem_append.mp hx).elim (h x) (h' x)
theorem OkT.one {t : Str} (h : 0 < t.length) : OkT [t] := .cons h .nil
theorem OkT.joined : ∀ {rs : List (List Str)}, (∀ r ∈ rs, OkT r) → OkT (rowsJ rs)
  | [], _ => .nil
  | [r], h => h r List.mem_cons_self
  | r :: q :: rs, h => by
    rw [rowsJ_cons r (by simp)]
    exact (h r List.mem_cons_self).app (.cons (by decide +kernel) (OkT.joined fun x hx => h x (List.mem_cons_of_mem _ hx)))
theorem NameOk.pos {z : Str} (h : NameOk z) : 0 < z.length := by obtain ⟨_, _, q⟩ := h.cs; exact q

theorem WT.okt : ∀ {n : Nat} {k : Kd}, WT n k → OkT (kR k)
  | _, _, .int n => by rw [kR]; exact .one (by decide +kernel)
  | _, _, .bool n => by rw [kR]; exact .one (by decide +kernel)
  | _, _, .unit n => by rw [kR]; exact .one (by decide +kernel)
  | _, _, .rcd n h => by rw [kR]; exact .one h.pos
  | _, _, .box h => by rw [kR]; exact .cons (by decide +kernel) h.okt
  | _, _, .maybe h => by rw [kR]; exact .cons (by decide +kernel) h.okt
  | _, _, .excl h => by rw [kR]; exact .cons (by decide +kernel) h.okt
  | _, _, .shared h => by rw [kR]; exact .cons (by decide +kernel) h.okt
  | _, _, .tup (ks := ks) h1 h2 h => by
    rw [kR, kRs_map]
    have q : ∀ j ∈ ks, OkT (kR j) := fun j hj => (h j hj).okt
    exact .cons (by decide +kernel) ((OkT.joined fun r hr => by obtain ⟨j, hj, e⟩ := List.mem_map.mp hr; subst e; exact q j hj).app (.one (by decide +kernel)))

/-! ### what the parser reads -/
abbrev U2 := Str × Str
def Tk.p (k : Tk) : U2 := (k.l, k.t)
def lab (t : Str) : U2 := (labP t, t)
def Rest (T : List Tk) (i : Nat) : List U2 := (T.map Tk.p).drop i
section
variable {T : List Tk} {i : Nat} {l t : Str} {r a : List U2} {x : U2} {m : M} {P : DK} {tk : Addr}
theorem rest_tok (h : Rest T i = (l, t) :: r) : ∃ a b, atI (T.map Tk.D) (i : Int) = some (.tup [.str l, .str t, .int a, .int b]) := by
  unfold Rest at h
  have e : (T.map Tk.p)[i]? = some (l, t) := by
    have := congrArg List.head? h
    rw [List.head?_drop] at this
    exact this
  rw [List.getElem?_map] at e
  cases hk : T[i]? with
  | none => rw [hk] at e; cases e
  | some k =>
    rw [hk] at e
    obtain ⟨l', t', a, b⟩ := k
    cases e
    exact ⟨a, b, atI_nat (by rw [List.getElem?_map, hk]; rfl)⟩
theorem rest_app (h : Rest T i = a ++ r) : Rest T (i + a.length) = r := by
  unfold Rest at *
  rw [← List.drop_drop, h, List.drop_left]
theorem rest_next (h : Rest T i = x :: r) : Rest T (i + 1) = r := rest_app (a := [x]) h
theorem r_tok (hm : m tk = some (.lst (T.map Tk.D))) (h : Rest T i = (l, t) :: r) (q : ∀ a b, P (.tup [.str l, .str t, .int a, .int b]) m) : rIxD (.ref tk) (.int (i : Int)) m P := by
  obtain ⟨a, b, e⟩ := rest_tok h
  exact ⟨_, _, hm, e, q a b⟩
end
local macro_rules | `(tactic| lcg_sub) => `(tactic| ((with_reducible refine' r_tok ?y1 ?y2 ?y3); (case y1 => lcg_src); (case y2 => assumption); intro _ _))
def sp_read_token : DSp := fun ds m P _ => ∃ tk T, ∃ i : Nat, ∃ (l t : Str) (r : List U2), ds = [.ref tk, .int i, .str l] ∧ m tk = some (.lst (T.map Tk.D)) ∧ Rest T i = (l, t) :: r ∧ P (.tup [.str t, .int ((i + 1 : Nat) : Int)]) m
def sp_behind : DSp := fun ds m P _ => ∃ tk T, ∃ i : Nat, ∃ (l t : Str) (r : List U2), ds = [.ref tk, .int i, .str l] ∧ m tk = some (.lst (T.map Tk.D)) ∧ Rest T i = (l, t) :: r ∧ P (.int ((i + 1 : Nat) : Int)) m
def sp_read_name : DSp := fun ds m P _ => ∃ tk T, ∃ i : Nat, ∃ (t : Str) (r : List U2), ds = [.ref tk, .int i] ∧ m tk = some (.lst (T.map Tk.D)) ∧ Rest T i = (("name" : Str), t) :: r ∧ P (.tup [.str t, .int ((i + 1 : Nat) : Int)]) m
section
variable {T : List Tk} {i : Nat} {l t : Str} {r : List U2} {m : M} {P : DK} {tk : Addr}
theorem use_rtok (hm : m tk = some (.lst (T.map Tk.D))) (h : Rest T i = (l, t) :: r) (q : P (.tup [.str t, .int ((i + 1 : Nat) : Int)]) m) : sp_read_token [.ref tk, .int (i : Int), .str l] m P noX := ⟨tk, T, i, l, t, r, rfl, hm, h, q⟩
theorem use_behind (hm : m tk = some (.lst (T.map Tk.D))) (h : Rest T i = (l, t) :: r) (q : P (.int ((i + 1 : Nat) : Int)) m) : sp_behind [.ref tk, .int (i : Int), .str l] m P noX := ⟨tk, T, i, l, t, r, rfl, hm, h, q⟩
theorem use_rname (hm : m tk = some (.lst (T.map Tk.D))) (h : Rest T i = (("name" : Str), t) :: r) (q : P (.tup [.str t, .int ((i + 1 : Nat) : Int)]) m) : sp_read_name [.ref tk, .int (i : Int)] m P noX := ⟨tk, T, i, t, r, rfl, hm, h, q⟩
end
theorem rd_rtok : ∀ ds m P EX, sp_read_token ds m P EX → Go P b_read_token (dstart ["tokens", "at", "label", "found", "text", "line", "column"] ds) m := by
  rintro ds m P EX ⟨tk, T, i, l, t, r, rfl, hm, h, q⟩
  show b_read_token { nx := fun _ m' => Ret P .non m', rt := Ret P } [some (.ref tk), some (.int i), some (.str l), none, none, none, none] m
  unfold b_read_token
  top_strB
  all_goals first
    | exact ⟨_, Less.refl _, q⟩
    | exact absurd rfl (by assumption)
local macro_rules | `(tactic| lcg_sub) => `(tactic| ((with_reducible refine' use_rtok ?y1 ?y2 ?y3); (case y1 => lcg_src); (case y2 => assumption)))
theorem rd_behind : ∀ ds m P EX, sp_behind ds m P EX → Go P (b_behind sp_read_token) (dstart ["tokens", "at", "label"] ds) m := by
  rintro ds m P EX ⟨tk, T, i, l, t, r, rfl, hm, h, q⟩
  show b_behind _ { nx := fun _ m' => Ret P .non m', rt := Ret P } [some (.ref tk), some (.int i), some (.str l)] m
  unfold b_behind
  lcg_off
  exact ⟨_, Less.refl _, q⟩
theorem rd_rname : ∀ ds m P EX, sp_read_name ds m P EX → Go P (b_read_name sp_read_token) (dstart ["tokens", "at"] ds) m := by
  rintro ds m P EX ⟨tk, T, i, t, r, rfl, hm, h, q⟩
  show b_read_name _ { nx := fun _ m' => Ret P .non m', rt := Ret P } [some (.ref tk), some (.int i)] m
  unfold b_read_name
  lcg_off
  exact ⟨_, Less.refl _, q⟩
local macro_rules | `(tactic| lcg_sub) => `(tactic| first
  | ((with_reducible refine' use_behind ?y1 ?y2 ?y3); (case y1 => lcg_src); (case y2 => assumption)) | ((with_reducible refine' use_rname ?y1 ?y2 ?y3); (case y1 => lcg_src); (case y2 => assumption)) | fail)
/-! ### rows of parts -/
def RdP (d : DSp) (tk : Addr) (T : List Tk) (C : List U2 → Prop) (p : D × List U2) : Prop := ∀ (j : Nat) (r : List U2) (m : M) (P : DK), m tk = some (.lst (T.map Tk.D)) → Rest T j = p.2 ++ r → C r → P (.tup [p.1, .int ((j + p.2.length : Nat) : Int)]) m → d [.ref tk, .int (j : Int)] m P noX
def flatU (ps : List (D × List U2)) : List U2 := (ps.map (·.2)).flatten
abbrev commaU : U2 := (",", ",")
def tailU (ps : List (D × List U2)) : List U2 := (ps.map fun p => commaU :: p.2).flatten
theorem flatU_cons (p : D × List U2) (ps : List (D × List U2)) : flatU (p :: ps) = p.2 ++ flatU ps := by unfold flatU; rw [List.map_cons, List.flatten_cons]
theorem flatU_snoc (ps : List (D × List U2)) (p : D × List U2) : flatU (ps ++ [p]) = flatU ps ++ p.2 := by unfold flatU; rw [List.map_append, List.flatten_append]; simp
theorem tailU_cons (p : D × List U2) (ps : List (D × List U2)) : tailU (p :: ps) = commaU :: (p.2 ++ tailU ps) := by unfold tailU; rw [List.map_cons, List.flatten_cons]; rfl
theorem tailU_snoc (ps : List (D × List U2)) (p : D × List U2) : tailU (ps ++ [p]) = tailU ps ++ commaU :: p.2 := by unfold tailU; rw [List.map_append, List.flatten_append]; simp
def sp_rws (CA : CAT) : DSp := fun ds m P _ => ∃ tk T, ∃ i : Nat, ∃ (l : Str) (f : Addr) (d : DSp) (C : List U2 → Prop) (ps : List (D × List U2)) (l' t' : Str) (r : List U2), ds = [.ref tk, .int i, .str l, .ref f] ∧ m tk = some (.lst (T.map Tk.D)) ∧ CA f d ∧ (∀ p ∈ ps, RdP d tk T C p ∧ ∃ t ws, p.2 = (l, t) :: ws) ∧
  Rest T i = flatU ps ++ (l', t') :: r ∧ l' ≠ l ∧ (∀ t r, C ((l, t) :: r)) ∧ C ((l', t') :: r) ∧ ps.length ≤ 1000 ∧ P (.tup [.tup (ps.map (·.1)), .int ((i + (flatU ps).length : Nat) : Int)]) m
theorem rd_rws (CA : CAT) : ∀ ds m P EX, sp_rws CA ds m P EX → Go P (b_read_while_seen CA) (dstart ["tokens", "at", "label", "read_part", "parts", "part"] ds) m := by
  rintro ds m P EX ⟨tk, T, i, l, f, d, C, ps, l', t', r, rfl, hm, hf, hp, hR, hl, hC1, hC2, hn, q⟩
  show b_read_while_seen CA { nx := fun _ m' => Ret P .non m', rt := Ret P } [some (.ref tk), some (.int i), some (.str l), some (.ref f), none, none] m
  unfold b_read_while_seen
  have hsz := PySem.sizeLine_eq
  lcg_off
  rename_i p hp0
  have hne : p ≠ tk := fun e => by subst e; rw [hm] at hp0; cases hp0
  refine s_seq ⟨fun n sd m' => ∃ ps0 ps1 pt, ∃ j : Nat, sd = [some (.ref tk), some (.int j), some (.str l), some (.ref f), some (.ref p), pt] ∧ m' = put m p (.lst (ps0.map (·.1))) ∧ ps = ps0 ++ ps1 ∧ n = ps1.length ∧ j = i + (flatU ps0).length ∧ Rest T j = flatU ps1 ++ (l', t') :: r,
    ⟨_, [], ps, none, i, rfl, rfl, rfl, rfl, rfl, hR⟩, ?_⟩
  rintro n _ _ ⟨ps0, ps1, pt, j, rfl, rfl, e, rfl, hj, h⟩
  have hm1 : (put m p (.lst (ps0.map (·.1)))) tk = some (.lst (T.map Tk.D)) := by rw [put_ne (Ne.symm hne)]; exact hm
  cases ps1 with
  | nil =>
    have h : Rest T j = (l', t') :: r := h
    have e : ps = ps0 := by rw [e, List.append_nil]
    subst e
    lcg_off
    · exact absurd (by assumption) hl
    · subst hj
      exact ⟨m, by one_item, q⟩
  | cons x ps2 =>
    obtain ⟨hx, t, ws, ex⟩ := hp x (by rw [e]; simp)
    rw [flatU_cons, List.append_assoc] at h
    have h0 : Rest T j = (l, t) :: (ws ++ (flatU ps2 ++ (l', t') :: r)) := by rw [h, ex]; rfl
    have h1 := rest_app h
    have hC : C (flatU ps2 ++ (l', t') :: r) := by
      cases ps2 with
      | nil => exact hC2
      | cons y ps3 =>
        obtain ⟨_, t2, ws2, ey⟩ := hp y (by rw [e]; simp)
        rw [flatU_cons, ey]
        exact hC1 _ _
    have hlen : ps0.length ≤ 1000 := by
      have := congrArg List.length e
      rw [List.length_append] at this
      omega
    lcg_off
    · refine s_callV rfl hf ?_
      lcg_off
      refine hx j _ _ _ hm1 h hC ?_
      lcg_off
      refine ⟨_, Less.refl _, ps2.length, by rw [List.length_cons]; omega, ps0 ++ [x], ps2, _, j + x.2.length, rfl, ?_, by rw [e]; simp, rfl, ?_, h1⟩
      · rw [List.map_append]; rfl
      · rw [flatU_snoc, List.length_append]; omega
    · rename_i hh; exact absurd rfl hh
def sp_read_list (CA : CAT) : DSp := fun ds m P _ => ∃ tk T, ∃ i : Nat, ∃ (f : Addr) (d : DSp) (C : List U2 → Prop) (p0 : D × List U2) (ps : List (D × List U2)) (l' t' : Str) (r : List U2), ds = [.ref tk, .int i, .ref f] ∧ m tk = some (.lst (T.map Tk.D)) ∧ CA f d ∧ (∀ p ∈ p0 :: ps, RdP d tk T C p) ∧
  Rest T i = p0.2 ++ (tailU ps ++ (l', t') :: r) ∧ l' ≠ "," ∧ (∀ r, C (commaU :: r)) ∧ C ((l', t') :: r) ∧ ps.length ≤ 1000 ∧ P (.tup [.tup (p0.1 :: ps.map (·.1)), .int ((i + (p0.2 ++ tailU ps).length : Nat) : Int)]) m
theorem rd_rlist (CA : CAT) : ∀ ds m P EX, sp_read_list CA ds m P EX → Go P (b_read_list CA) (dstart ["tokens", "at", "read_part", "parts", "part"] ds) m := by
  rintro ds m P EX ⟨tk, T, i, f, d, C, x0, ps, l', t', r, rfl, hm, hf, hp, hR, hl, hC1, hC2, hn, q⟩
  show b_read_list CA { nx := fun _ m' => Ret P .non m', rt := Ret P } [some (.ref tk), some (.int i), some (.ref f), none, none] m
  unfold b_read_list
  have hsz := PySem.sizeLine_eq
  have hCt : ∀ ps2 : List (D × List U2), C (tailU ps2 ++ (l', t') :: r) := by
    intro ps2
    cases ps2 with
    | nil => exact hC2
    | cons y ps3 => rw [tailU_cons]; exact hC1 _
  have h1 := rest_app hR
  lcg_off
  refine s_callV rfl hf ?_
  lcg_off
  refine hp x0 List.mem_cons_self i _ _ _ hm hR (hCt ps) ?_
  lcg_off
  rename_i p hp0
  have hne : p ≠ tk := fun e => by subst e; rw [hm] at hp0; cases hp0
  refine s_seq ⟨fun n sd m' => ∃ ps0 ps1 pt, ∃ j : Nat, sd = [some (.ref tk), some (.int j), some (.ref f), some (.ref p), pt] ∧ m' = put m p (.lst (x0.1 :: ps0.map (·.1))) ∧ ps = ps0 ++ ps1 ∧ n = ps1.length ∧ j = i + (x0.2 ++ tailU ps0).length ∧ Rest T j = tailU ps1 ++ (l', t') :: r,
    ⟨_, [], ps, _, _, rfl, rfl, rfl, rfl, by rw [List.length_append]; rfl, h1⟩, ?_⟩
  rintro n _ _ ⟨ps0, ps1, pt, j, rfl, rfl, e, rfl, hj, h⟩
  have hm1 : (put m p (.lst (x0.1 :: ps0.map (·.1)))) tk = some (.lst (T.map Tk.D)) := by rw [put_ne (Ne.symm hne)]; exact hm
  cases ps1 with
  | nil =>
    have h : Rest T j = (l', t') :: r := h
    have e : ps = ps0 := by rw [e, List.append_nil]
    subst e
    lcg_off
    · exact absurd (by assumption) hl
    · subst hj
      exact ⟨m, by one_item, q⟩
  | cons x ps2 =>
    have hx := hp x (List.mem_cons_of_mem _ (by rw [e]; simp))
    rw [tailU_cons, List.cons_append, List.append_assoc] at h
    have h0 := rest_next h
    have h2 := rest_app h0
    have hlen : ps0.length ≤ 1000 := by
      have := congrArg List.length e
      rw [List.length_append] at this
      omega
    lcg_off
    refine s_callV rfl hf ?_
    lcg_off
    refine hx (j + 1) _ _ _ hm1 h0 (hCt ps2) ?_
    lcg_off
    refine ⟨_, Less.refl _, ps2.length, by rw [List.length_cons]; omega, ps0 ++ [x], ps2, _, j + 1 + x.2.length, rfl, ?_, by rw [e]; simp, rfl, ?_, h2⟩
    · rw [List.map_append]; rfl
    · rw [tailU_snoc, hj]; simp only [List.length_append, List.length_cons]; omega
def encU : List (D × List U2) → List U2
  | [] => [(("(" : Str), ("(" : Str)), ((")" : Str), (")" : Str))]
  | p :: ps => (("(" : Str), ("(" : Str)) :: (p.2 ++ (tailU ps ++ [((")" : Str), (")" : Str))]))
def sp_read_enc (CA : CAT) : DSp := fun ds m P _ => ∃ tk T, ∃ i : Nat, ∃ (f : Addr) (d : DSp) (C : List U2 → Prop) (ps : List (D × List U2)) (r : List U2), ds = [.ref tk, .int i, .ref f] ∧ m tk = some (.lst (T.map Tk.D)) ∧ CA f d ∧ (∀ p ∈ ps, RdP d tk T C p ∧ ∃ (l t : Str) (ws : List U2), p.2 = (l, t) :: ws ∧ l ≠ ")") ∧
  Rest T i = encU ps ++ r ∧ (∀ r, C (commaU :: r)) ∧ (∀ r, C (((")" : Str), (")" : Str)) :: r)) ∧ ps.length ≤ 1000 ∧ P (.tup [.tup (ps.map (·.1)), .int ((i + (encU ps).length : Nat) : Int)]) m
theorem rd_renc (CA : CAT) : ∀ ds m P EX, sp_read_enc CA ds m P EX → Go P (b_read_enclosed_list sp_behind (sp_read_list CA)) (dstart ["tokens", "at", "read_part", "parts"] ds) m := by
  rintro ds m P EX ⟨tk, T, i, f, d, C, ps, r, rfl, hm, hf, hp, hR, hC1, hC2, hn, q⟩
  show b_read_enclosed_list _ _ { nx := fun _ m' => Ret P .non m', rt := Ret P } [some (.ref tk), some (.int i), some (.ref f), none] m
  unfold b_read_enclosed_list
  cases ps with
  | nil =>
    have h0 : Rest T i = (("(" : Str), ("(" : Str)) :: ((")" : Str), (")" : Str)) :: r := hR
    have h1 := rest_next h0
    lcg_off
    exact ⟨_, Less.refl _, q⟩
  | cons x ps =>
    obtain ⟨hx, l, t, ws, ex, hl⟩ := hp x List.mem_cons_self
    unfold encU at hR
    rw [List.cons_append, List.append_assoc, List.append_assoc, List.singleton_append] at hR
    have h1 := rest_next hR
    have h2 : Rest T (i + 1) = (l, t) :: (ws ++ (tailU ps ++ ((")" : Str), (")" : Str)) :: r)) := by rw [h1, ex]; rfl
    have h3 := rest_app h1
    have h4 := rest_app h3
    lcg_off
    · exact absurd (by assumption) hl
    · refine ⟨tk, T, i + 1, f, d, C, x, ps, ")", ")", r, rfl, hm, hf, fun p h => (hp p h).1, h1, by decide +kernel, hC1, hC2 r, by rw [List.length_cons] at hn; omega, ?_⟩
      rw [List.length_append, ← Nat.add_assoc]
      lcg_off
      refine ⟨_, Less.refl _, ?_⟩
      have e : i + (encU (x :: ps)).length = i + 1 + x.2.length + (tailU ps).length + 1 := by
        unfold encU
        simp only [List.length_cons, List.length_append, List.length_nil]
        omega
      rw [e] at q
      exact q

/-! ### labels -/
theorem labP_word {w : Str} (h : w ∈ lawWords ∨ w ∈ signS) : labP w = w := by unfold labP; rw [if_pos h]
theorem lab_lit {w : Str} (h : w ∈ lawWords ∨ w ∈ signS) : lab w = (w, w) := by unfold lab; rw [labP_word h]
theorem signs_hd : signS.all (fun w => match headN w with | some c => !letC c && !isDg c | none => false) = true := by decide +kernel
theorem not_sign {z : Str} {c : Nat} (h : headN z = some c) (hc : letC c = true ∨ isDg c = true) : z ∉ signS := fun hm => by
  have := List.all_eq_true.mp signs_hd z hm
  rw [h] at this
  dsimp only at this
  rw [Bool.and_eq_true, Bool.not_eq_true', Bool.not_eq_true'] at this
  rcases hc with hc | hc
  · rw [this.1] at hc; cases hc
  · rw [this.2] at hc; cases hc
theorem SmOk.lab {z : Str} (h : SmOk z) : labP z = "name" := by
  obtain ⟨c, e, hc⟩ := h.sm
  unfold labP
  rw [if_neg (fun q => q.elim h.nw (not_sign e (.inl (by unfold letC; rw [hc]; rfl)))), if_pos]
  unfold isNameB headB
  rw [e, h.al, decide_eq_true h.len, decide_eq_false h.nw]
  dsimp only
  rw [hc]; rfl
theorem cap_not_sm {c : Nat} (h : isCap c = true) : isSm c = false := by
  unfold isCap at h; unfold isSm
  simp only [Bool.and_eq_true, decide_eq_true_eq, Bool.and_eq_false_iff, decide_eq_false_iff_not] at *; omega
theorem dg_not {c : Nat} (h : isDg c = true) : isSm c = false ∧ isCap c = false := by
  unfold isDg at h; unfold isSm isCap
  simp only [Bool.and_eq_true, decide_eq_true_eq, Bool.and_eq_false_iff, decide_eq_false_iff_not] at *; omega
theorem BgOk.lab {z : Str} (h : BgOk z) : labP z = "Name" := by
  obtain ⟨c, e, hc⟩ := h.cp
  unfold labP
  rw [if_neg (fun q => q.elim h.nw (not_sign e (.inl (by unfold letC; rw [hc]; simp)))), if_neg, if_pos]
  · unfold isBigB headB
    rw [e, h.al, decide_eq_true h.len]
    dsimp only
    rw [hc]; rfl
  · unfold isNameB headB
    rw [e]
    dsimp only
    rw [cap_not_sm hc, Bool.false_and]; decide

/-! ### kinds: their tokens, as they are read -/
def jnP : List (List U2) → List U2
  | [] => []
  | x :: xs => x ++ (xs.map fun y => commaU :: y).flatten
mutual
def kP : Kd → List U2
  | .int => [("int", "int")]
  | .bool => [("bool", "bool")]
  | .unit => [("unit", "unit")]
  | .box k => (("box" : Str), ("box" : Str)) :: kP k
  | .maybe k => (("maybe" : Str), ("maybe" : Str)) :: kP k
  | .tup ks => (("(" : Str), ("(" : Str)) :: (jnP (kPs ks) ++ [((")" : Str), (")" : Str))])
  | .rcd n => [("Name", n)]
  | .shared k => (("&" : Str), ("&" : Str)) :: kP k
  | .excl k => (("&" : Str), ("&" : Str)) :: (("mut" : Str), ("mut" : Str)) :: kP k
def kPs : List Kd → List (List U2)
  | [] => []
  | k :: ks => kP k :: kPs ks
end
theorem kPs_map : ∀ ks : List Kd, kPs ks = ks.map kP
  | [] => rfl
  | k :: ks => by rw [kPs, kPs_map ks]; rfl
def kHeads : List Str := ["int", "bool", "unit", "box", "maybe", "(", "Name", "&"]
theorem kP_head : ∀ k : Kd, ∃ (l t : Str) (ws : List U2), kP k = (l, t) :: ws ∧ l ∈ kHeads
  | .int => ⟨"int", "int", [], by rw [kP], by decide +kernel⟩
  | .bool => ⟨"bool", "bool", [], by rw [kP], by decide +kernel⟩
  | .unit => ⟨"unit", "unit", [], by rw [kP], by decide +kernel⟩
  | .box k => ⟨"box", "box", kP k, by rw [kP], by decide +kernel⟩
  | .maybe k => ⟨"maybe", "maybe", kP k, by rw [kP], by decide +kernel⟩
  | .tup ks => ⟨"(", "(", _, by rw [kP], by decide +kernel⟩
  | .rcd n => ⟨"Name", n, [], by rw [kP], by decide +kernel⟩
  | .shared k => ⟨"&", "&", kP k, by rw [kP], by decide +kernel⟩
  | .excl k => ⟨"&", "&", _, by rw [kP], by decide +kernel⟩
theorem nHead {l s : Str} {hs : List Str} (h : l ∈ hs) (hd : s ∉ hs) : l ≠ s := fun e => hd (e ▸ h)
section
variable {m : M} {P : DK} {a b c d : D}
theorem r_sl2 (q : P (.tup [a, b]) m) : rSlD (.tup [a, b, c, d]) none (some 2) m P := q
theorem r_sl2' (q : P (.tup [c, d]) m) : rSlD (.tup [a, b, c, d]) (some 2) none m P := q
end
local macro_rules | `(tactic| lcg_sub) => `(tactic| first | with_reducible refine r_sl2 ?_ | with_reducible refine r_sl2' ?_ | fail)
def modeP : Bool → List U2
  | true => [("&", "&"), ("mut", "mut")]
  | false => [("&", "&")]
def modeS : Bool → Str
  | true => "exclusive"
  | false => "shared"
def sp_read_mode : DSp := fun ds m P _ => ∃ tk T, ∃ i : Nat, ∃ (b : Bool) (l t : Str) (r : List U2), ds = [.ref tk, .int i] ∧ m tk = some (.lst (T.map Tk.D)) ∧ Rest T i = modeP b ++ (l, t) :: r ∧ l ≠ "mut" ∧ P (.tup [.str (modeS b), .int ((i + (modeP b).length : Nat) : Int)]) m
theorem rd_rmode : ∀ ds m P EX, sp_read_mode ds m P EX → Go P (b_read_mode sp_behind) (dstart ["tokens", "at"] ds) m := by
  rintro ds m P EX ⟨tk, T, i, b, l, t, r, rfl, hm, h, hl, q⟩
  show b_read_mode _ { nx := fun _ m' => Ret P .non m', rt := Ret P } [some (.ref tk), some (.int i)] m
  unfold b_read_mode
  cases b
  · have h0 : Rest T i = (("&" : Str), ("&" : Str)) :: (l, t) :: r := h
    have h1 := rest_next h0
    top_strB
    · exact absurd (by assumption) hl
    · exact ⟨_, Less.refl _, q⟩
  · have h0 : Rest T i = (("&" : Str), ("&" : Str)) :: (("mut" : Str), ("mut" : Str)) :: (l, t) :: r := h
    have h1 := rest_next h0
    top_strB
    exact ⟨_, Less.refl _, q⟩
def sp_read_kind (n : Nat) : DSp := fun ds m P _ => ∃ tk T, ∃ i : Nat, ∃ k r, ds = [.ref tk, .int i] ∧ m tk = some (.lst (T.map Tk.D)) ∧ WT n k ∧ Rest T i = kP k ++ r ∧ P (.tup [k.D, .int ((i + (kP k).length : Nat) : Int)]) m
theorem use_rkind {tk : Addr} {T : List Tk} {i n j : Nat} {k : Kd} {r : List U2} {m : M} {P : DK} (hk : WT j k) (hm : m tk = some (.lst (T.map Tk.D))) (h : Rest T i = kP k ++ r) (e : j ≤ n) (q : P (.tup [k.D, .int ((i + (kP k).length : Nat) : Int)]) m) : sp_read_kind n [.ref tk, .int (i : Int)] m P noX := ⟨tk, T, i, k, r, rfl, hm, hk.mono e, h, q⟩
def sp_read_tuple_kind (n : Nat) : DSp := fun ds m P _ => ∃ tk T, ∃ i : Nat, ∃ ks r, ds = [.ref tk, .int i] ∧ m tk = some (.lst (T.map Tk.D)) ∧ 2 ≤ ks.length ∧ ks.length ≤ 7 ∧ (∀ k ∈ ks, WT n k) ∧ Rest T i = kP (.tup ks) ++ r ∧ P (.tup [(Kd.tup ks).D, .int ((i + (kP (.tup ks)).length : Nat) : Int)]) m
def kPart (k : Kd) : D × List U2 := (k.D, kP k)
theorem rdp_kind {n : Nat} {tk : Addr} {T : List Tk} {k : Kd} (h : WT n k) : RdP (sp_read_kind n) tk T (fun _ => True) (kPart k) := fun _ _ _ _ hm hR _ q => use_rkind h hm hR (Nat.le_refl _) q
theorem tailU_kind (ks : List Kd) : tailU (ks.map kPart) = ((ks.map kP).map fun y => commaU :: y).flatten := by unfold tailU; rw [List.map_map, List.map_map]; rfl
theorem rd_rtk (CA : CAT) (n : Nat) : ∀ ds m P EX, sp_read_tuple_kind n ds m P EX → Go P (b_read_tuple_kind CA sp_behind (sp_read_kind n) (sp_read_list CA) (sp_read_kind n)) (dstart ["tokens", "at", "first", "others"] ds) m := by
  rintro ds m P EX ⟨tk, T, i, ks, r, rfl, hm, h2, h7, hk, hR, q⟩
  show b_read_tuple_kind CA _ _ _ _ { nx := fun _ m' => Ret P .non m', rt := Ret P } [some (.ref tk), some (.int i), none, none] m
  unfold b_read_tuple_kind
  match ks, h2 with
  | k0 :: k1 :: ks, _ =>
  rw [kP, kPs_map] at hR
  have h0 : Rest T i = (("(" : Str), ("(" : Str)) :: (kP k0 ++ (commaU :: (kP k1 ++ (tailU (ks.map kPart) ++ (((")" : Str), (")" : Str)) :: r))))) := by
    rw [hR, tailU_kind]
    unfold jnP
    simp only [List.map_cons, List.flatten_cons, List.cons_append, List.append_assoc, List.nil_append]
  have h1 := rest_next h0
  have h2 := rest_app h1
  have h3 := rest_next h2
  have h4 := rest_app (rest_app h3)
  have w0 : WT n k0 := hk k0 (by simp)
  top_strB
  refine use_rkind w0 hm h1 (Nat.le_refl _) ?_
  top_strB
  intro f hf
  top_strB
  refine ⟨tk, T, _, f, _, fun _ => True, kPart k1, ks.map kPart, ")", ")", r, rfl, hm, hf, ?_, h3, by decide +kernel, fun _ => trivial, trivial, by rw [List.length_map]; simp only [List.length_cons] at h7; omega, ?_⟩
  · intro p hp
    rcases List.mem_cons.mp hp with e | hp
    · rw [e]; exact rdp_kind (hk k1 (by simp))
    · obtain ⟨k, hk2, rfl⟩ := List.mem_map.mp hp
      exact rdp_kind (hk k (by simp [hk2]))
  · rw [List.length_append, ← Nat.add_assoc]
    have h4' : Rest T (i + 1 + (kP k0).length + 1 + (kPart k1).2.length + (tailU (ks.map kPart)).length) = (((")" : Str), (")" : Str)) :: r) := h4
    top_strB
    refine ⟨by rw [PySem.sizeLine_eq]; simp only [List.length_cons, List.length_map, List.length_nil] at h7 ⊢; omega, ?_⟩
    top_strB
    refine ⟨_, Less.refl _, ?_⟩
    have e : i + (kP (.tup (k0 :: k1 :: ks))).length = i + 1 + (kP k0).length + 1 + (kPart k1).2.length + (tailU (ks.map kPart)).length + 1 := by
      rw [kP, kPs_map, tailU_kind]
      unfold jnP kPart
      simp only [List.length_cons, List.length_append, List.length_nil, List.map_cons, List.flatten_cons]
      omega
    rw [e, Kd.D_tup] at q
    have e2 : (kPart k1).1 :: (ks.map kPart).map (·.1) = (k1 :: ks).map Kd.D := by rw [List.map_map]; rfl
    rw [e2]
    exact q
theorem rd_rkind (n : Nat) : ∀ ds m P EX, sp_read_kind (n + 1) ds m P EX → Go P (b_read_kind (sp_read_kind n) sp_read_mode (sp_read_tuple_kind n)) (dstart ["tokens", "at", "label", "text", "part", "mode"] ds) m := by
  rintro ds m P EX ⟨tk, T, i, k, r, rfl, hm, hk, hR, q⟩
  show b_read_kind _ _ _ { nx := fun _ m' => Ret P .non m', rt := Ret P } [some (.ref tk), some (.int i), none, none, none, none] m
  unfold b_read_kind
  cases hk
  case tup ks h1 h2 h =>
    have h0 : ∃ x, Rest T i = (("(" : Str), ("(" : Str)) :: x := ⟨_, by rw [hR, kP]; rfl⟩
    obtain ⟨x, h0⟩ := h0
    top_strB
    exact ⟨tk, T, i, ks, r, rfl, hm, h1, h2, fun k hk => (h k hk).mono (by omega), hR, ⟨_, Less.refl _, q⟩⟩
  all_goals unfold kP at hR q
  all_goals unfold Kd.D at q
  case shared k hk =>
    have h0 : Rest T i = (("&" : Str), ("&" : Str)) :: (kP k ++ r) := hR
    have h1 := rest_next h0
    obtain ⟨l, t, ws, e, hl⟩ := kP_head k
    have hm2 : Rest T i = modeP false ++ (l, t) :: (ws ++ r) := by rw [h0, e]; rfl
    top_strB
    refine ⟨tk, T, i, false, l, t, _, rfl, hm, hm2, nHead hl (by decide +kernel), ?_⟩
    have h1' : Rest T (i + (modeP false).length) = kP k ++ r := h1
    top_strB
    refine use_rkind hk hm h1' (Nat.le_refl _) ?_
    top_strB
    refine ⟨_, Less.refl _, ?_⟩
    have e2 : i + (kP k).length.succ = i + (modeP false).length + (kP k).length := by show _ = i + 1 + _; omega
    rw [show i + ((("&" : Str), ("&" : Str)) :: kP k).length = _ from e2] at q
    exact q
  case excl k hk =>
    have h0 : Rest T i = (("&" : Str), ("&" : Str)) :: (("mut" : Str), ("mut" : Str)) :: (kP k ++ r) := hR
    have h1 := rest_next (rest_next h0)
    obtain ⟨l, t, ws, e, hl⟩ := kP_head k
    have hm2 : Rest T i = modeP true ++ (l, t) :: (ws ++ r) := by rw [h0, e]; rfl
    top_strB
    refine ⟨tk, T, i, true, l, t, _, rfl, hm, hm2, nHead hl (by decide +kernel), ?_⟩
    have h1' : Rest T (i + (modeP true).length) = kP k ++ r := h1
    top_strB
    refine use_rkind hk hm h1' (Nat.le_refl _) ?_
    top_strB
    refine ⟨_, Less.refl _, ?_⟩
    have e2 : i + ((("&" : Str), ("&" : Str)) :: (("mut" : Str), ("mut" : Str)) :: kP k).length = i + (modeP true).length + (kP k).length := by show _ = i + 2 + _; simp only [List.length_cons]; omega
    rw [e2] at q
    exact q
  case box k hk =>
    have h0 : Rest T i = (("box" : Str), ("box" : Str)) :: (kP k ++ r) := hR
    have h1 := rest_next h0
    top_strB
    refine use_rkind hk hm h1 (Nat.le_refl _) ?_
    top_strB
    refine ⟨_, Less.refl _, ?_⟩
    rw [show i + ((("box" : Str), ("box" : Str)) :: kP k).length = i + 1 + (kP k).length by rw [List.length_cons]; omega] at q
    exact q
  case maybe k hk =>
    have h0 : Rest T i = (("maybe" : Str), ("maybe" : Str)) :: (kP k ++ r) := hR
    have h1 := rest_next h0
    top_strB
    refine use_rkind hk hm h1 (Nat.le_refl _) ?_
    top_strB
    refine ⟨_, Less.refl _, ?_⟩
    rw [show i + ((("maybe" : Str), ("maybe" : Str)) :: kP k).length = i + 1 + (kP k).length by rw [List.length_cons]; omega] at q
    exact q
  case int =>
    have h0 : Rest T i = (("int" : Str), ("int" : Str)) :: r := hR
    top_strB
    exact ⟨_, Less.refl _, q⟩
  case bool =>
    have h0 : Rest T i = (("bool" : Str), ("bool" : Str)) :: r := hR
    top_strB
    exact ⟨_, Less.refl _, q⟩
  case unit =>
    have h0 : Rest T i = (("unit" : Str), ("unit" : Str)) :: r := hR
    top_strB
    exact ⟨_, Less.refl _, q⟩
  case rcd z hz =>
    have h0 : Rest T i = (("Name" : Str), z) :: r := hR
    top_strB
    exact ⟨_, Less.refl _, q⟩
theorem rec_rkind {P : Program} {w : World} {K : PySem.W.Frag} {mg : Str → Option Value} (F : FunAt K mg "read_kind" s_read_kind ["tokens", "at"]) (Ft : FunAt K mg "read_tuple_kind" s_read_tuple_kind ["tokens", "at"]) (Fl : FunAt K mg "read_list" s_read_list ["tokens", "at", "read_part"])
    (B : Callee P w K mg 2 "behind" ["tokens", "at", "label"] sp_behind) (M : Callee P w K mg 3 "read_mode" ["tokens", "at"] sp_read_mode) (zt : mg "tuple" = none) :
    ∀ n : Nat, Callee P w K mg (3 * n + 3) "read_kind" ["tokens", "at"] (sp_read_kind n)
  | 0 => F.none fun ds m P EX h => by obtain ⟨_, _, _, _, _, _, _, h, _⟩ := h; cases h
  | n + 1 =>
    have C := rec_rkind F Ft Fl B M zt n
    have L : Callee P w K mg (3 * n + 3 + 1) "read_list" ["tokens", "at", "read_part"] (sp_read_list (CalleeAt P w K mg (3 * n + 3))) := ok_read_list Fl zt (by rintro ds m P EX ⟨_, _, _, _, _, _, _, _, _, _, _, rfl, _⟩; rfl) (rd_rlist _)
    have Tu : Callee P w K mg (3 * n + 3 + 2) "read_tuple_kind" ["tokens", "at"] (sp_read_tuple_kind n) := ok_read_tuple_kind (kv := 3 * n + 3) Ft (B.mono (by omega)) (C.mono (by omega)) L C (by rintro ds m P EX ⟨_, _, _, _, _, rfl, _⟩; rfl) (rd_rtk _ n)
    ok_read_kind (k := 3 * n + 5) F (C.mono (by omega)) (M.mono (by omega)) Tu (by rintro ds m P EX ⟨_, _, _, _, _, rfl, _⟩; rfl) (rd_rkind n)

/-! ### fields, functions -/
def fldD (p : Str × Kd) : D := .tup [.str p.1, p.2.D]
def fldsD (fs : List (Str × Kd)) : D := .tup (fs.map fldD)
structure FOk (fs : List (Str × Kd)) : Prop where
  len : fs.length ≤ 7
  all : ∀ p ∈ fs, SmOk p.1 ∧ WT 3 p.2

def sp_law_kind_row (n : Nat) : DSp := fun ds m P _ => ∃ k, ds = [Kd.D k] ∧ WT n k ∧ n ≤ 900 ∧ ∀ p, m p = none → P (.ref p) (put m p (.lst ((kR k).map D.str)))
theorem use_krow {n j : Nat} {k : Kd} {m : M} {P : DK} (h : WT j k) (e : j ≤ n) (hn : n ≤ 900) (q : ∀ p, m p = none → P (.ref p) (put m p (.lst ((kR k).map D.str)))) : sp_law_kind_row n [k.D] m P noX := ⟨k, rfl, h.mono e, hn, q⟩
theorem WT.size {n : Nat} {k : Kd} (h : WT n k) (hn : n ≤ 900) : (kR k).length ≤ 7000 := by have := h.wt; have := wt_len (kR k); omega
local macro_rules | `(tactic| one_sign) => `(tactic| first
  | (rename WT _ _ => hW; have hA := hW.size (by omega); have hB := PySem.sizeLine_eq; simp only [List.length_map, List.length_cons, List.length_nil, List.length_append]; omega) | fail)
local macro_rules | `(tactic| lcg_sub) => `(tactic| ((with_reducible refine' use_krow ?h1 ?h2 ?h3 ?h4); (case h1 => assumption); (case h2 => omega); (case h3 => omega); intro p hp; (try simp only [put_none] at hp); (repeat' (rename _ ∧ _ => hA; obtain ⟨_, _⟩ := hA))))
theorem rowsJ_take {α : Type} {f : α → List Str} {ks : List α} {i : Nat} {k : α} (h : ks[i]? = some k) : rowsJ ((ks.take (i + 1)).map f) = (if i = 0 then [] else rowsJ ((ks.take i).map f) ++ [(("," : Str))]) ++ f k := by
  rw [List.take_add_one, h, List.map_append]
  have hlt := (List.getElem?_eq_some_iff.mp h).1
  by_cases e : i = 0
  · subst e
    simp [rowsJ]
  · rw [if_neg e]
    show rowsJ ((ks.take i).map f ++ [f k]) = _
    rw [rowsJ_snoc _ _ (by
      intro z
      have := congrArg List.length z
      rw [List.length_map, List.length_take, List.length_nil] at this
      omega), List.append_assoc]
    rfl
theorem rd_krow (n : Nat) : ∀ ds m P EX, sp_law_kind_row (n + 1) ds m P EX → Go P (b_law_kind_row (sp_law_kind_row n)) (dstart ["kind", "row", "k"] ds) m := by
  rintro ds m P EX ⟨k, rfl, hk, hn, q⟩
  show b_law_kind_row (sp_law_kind_row n) { nx := fun _ m' => Ret P .non m', rt := Ret P } [some k.D, none, none] m
  unfold b_law_kind_row
  have ht := hk.wt
  cases hk
  all_goals (first | rw [Kd.D_tup] | unfold Kd.D)
  all_goals unfold kR at q
  all_goals top_strB
  all_goals (first
    | (refine ⟨_, ?_, q _ (by first | assumption | (have hz := ‹_ ∧ _›; exact hz.2) | grind)⟩; one_item)
    | skip)
  · rename_i ks h1 h2 h p hp
    have hl : ∀ i, (rowsJ ((ks.take i).map kR)).length ≤ 7 * 7010 := fun i => by
      have a := wt_rowsJ ((ks.take i).map kR)
      rw [List.map_map] at a
      have b := sum_le (f := (fun r => wt r + 2) ∘ kR) (n := 7002) (xs := ks.take i) fun k hk => by
        have := (h k (List.mem_of_mem_take hk)).wt
        show wt (kR k) + 2 ≤ 7002
        omega
      rw [List.length_take] at b
      have c := wt_len (rowsJ ((ks.take i).map kR))
      have d : min i ks.length * 7002 ≤ 7 * 7002 := Nat.mul_le_mul_right _ (by omega)
      omega
    refine ⟨⟨by rw [List.length_map]; omega, by rw [List.length_map]; omega⟩, fun i sd m' => ∃ kk, sd = [some (.tup [.str "tuple", .tup (ks.map Kd.D)]), some (.ref p), kk] ∧ m' = put m p (.lst (((("(" : Str)) :: rowsJ ((ks.take i).map kR)).map D.str)), ⟨_, rfl, rfl⟩, ?_, ?_⟩
    · rintro i _ _ hi ⟨kk, rfl, rfl⟩
      have hlt : i < ks.length := by rw [List.length_map] at hi; omega
      have hki : ks[i]? = some ks[i] := List.getElem?_eq_getElem hlt
      have hx : (ks.map Kd.D)[i]? = some (Kd.D ks[i]) := by rw [List.getElem?_map, hki]; rfl
      have hW : WT n ks[i] := (h _ (List.getElem_mem hlt)).mono (by omega)
      have hl := hl i
      have et := rowsJ_take (f := kR) hki
      refine s_seq ?_
      lcg_off
      · refine ⟨_, ?_, _, rfl, rfl⟩
        rw [et, if_neg (by omega)]
        simp only [List.map_append, List.map_cons, List.cons_append, List.append_assoc, List.map_nil]
        one_item
      · refine ⟨_, ?_, _, rfl, rfl⟩
        have : i = 0 := by omega
        subst this
        rw [et, if_pos rfl]
        simp only [List.map_append, List.map_cons, List.cons_append, List.append_assoc, List.map_nil, List.take_zero, rowsJ, List.nil_append]
        one_item
    · rintro _ _ ⟨kk, rfl, rfl⟩
      rw [List.length_map, Int.toNat_natCast, List.take_length]
      have hl := hl ks.length
      rw [List.take_length] at hl
      lcg_off
      rename_i z hz1 hz2 hz3
      rw [kRs_map] at q
      refine ⟨_, ?_, q z hz3⟩
      simp only [List.map_append, List.map_cons, List.cons_append, List.append_assoc, List.map_nil]
      one_item
theorem rec_krow {P : Program} {w : World} {K : PySem.W.Frag} {mg : Str → Option Value} (F : FunAt K mg "_law_kind_row" s_law_kind_row ["kind"]) (zl : mg "len" = none) (zr : mg "range" = none) :
    ∀ n : Nat, Callee P w K mg n "_law_kind_row" ["kind"] (sp_law_kind_row n)
  | 0 => F.none fun ds m P EX h => by obtain ⟨_, _, h, _⟩ := h; cases h
  | n + 1 => ok_law_kind_row F (rec_krow F zl zr n) zl zr (by rintro ds m P EX ⟨_, rfl, _⟩; rfl) (rd_krow n)

/-! ### the row of fields; the text of a row -/
def fldR1 (p : Str × Kd) : List Str := p.1 :: ((":" : Str)) :: kR p.2
def fldR (fs : List (Str × Kd)) : List Str := rowsJ (fs.map fldR1)
theorem fld1_wt {p : Str × Kd} (h : SmOk p.1 ∧ WT 3 p.2) : wt (fldR1 p) ≤ 1400 := by
  unfold fldR1
  rw [wt_cons, wt_cons]
  have a := h.1.len
  have b := h.2.wt
  have c : ((":" : Str)).length = 1 := by decide +kernel
  omega
theorem fldR_wt {fs : List (Str × Kd)} (h : FOk fs) (i : Nat) : wt (fldR (fs.take i)) ≤ 7 * 1402 := by
  unfold fldR
  have a := wt_rowsJ ((fs.take i).map fldR1)
  rw [List.map_map] at a
  have b := sum_le (f := (fun r => wt r + 2) ∘ fldR1) (n := 1402) (xs := fs.take i) fun p hp => by
    have := fld1_wt (h.all p (List.mem_of_mem_take hp))
    show wt (fldR1 p) + 2 ≤ 1402
    omega
  rw [List.length_take] at b
  have := h.len
  have d : min i fs.length * 1402 ≤ 7 * 1402 := Nat.mul_le_mul_right _ (by omega)
  omega
theorem fldR_wt0 {fs : List (Str × Kd)} (h : FOk fs) : wt (fldR fs) ≤ 7 * 1402 := by
  have := fldR_wt h fs.length
  rw [List.take_length] at this
  exact this
def sp_law_field_row : DSp := fun ds m P _ => ∃ fs, ds = [fldsD fs] ∧ FOk fs ∧ ∀ p, m p = none → P (.ref p) (put m p (.lst ((fldR fs).map D.str)))
theorem use_frow {fs : List (Str × Kd)} {m : M} {P : DK} (h : FOk fs) (q : ∀ p, m p = none → P (.ref p) (put m p (.lst ((fldR fs).map D.str)))) : sp_law_field_row [fldsD fs] m P noX := ⟨fs, rfl, h, q⟩
theorem rd_frow : ∀ ds m P EX, sp_law_field_row ds m P EX → Go P (b_law_field_row (sp_law_kind_row 9)) (dstart ["fields", "row", "k"] ds) m := by
  rintro ds m P EX ⟨fs, rfl, hf, q⟩
  show b_law_field_row (sp_law_kind_row 9) { nx := fun _ m' => Ret P .non m', rt := Ret P } [some (.tup (fs.map fldD)), none, none] m
  unfold b_law_field_row
  lcg_off
  refine s_seq ?_
  lcg_off
  rename_i p hp
  have hfl := hf.len
  refine ⟨⟨by rw [List.length_map]; omega, by rw [List.length_map]; omega⟩, fun i sd m' => ∃ kk, sd = [some (.tup (fs.map fldD)), some (.ref p), kk] ∧ m' = put m p (.lst ((fldR (fs.take i)).map D.str)), ⟨_, rfl, rfl⟩, ?_, ?_⟩
  · rintro i _ _ hi ⟨kk, rfl, rfl⟩
    have hlt : i < fs.length := by rw [List.length_map] at hi; omega
    have hki : fs[i]? = some fs[i] := List.getElem?_eq_getElem hlt
    have hx : (fs.map fldD)[i]? = some (.tup [.str fs[i].1, Kd.D fs[i].2]) := by rw [List.getElem?_map, hki]; rfl
    have hW : WT 3 fs[i].2 := (hf.all _ (List.getElem_mem hlt)).2
    have et : fldR (fs.take (i + 1)) = _ := rowsJ_take (f := fldR1) hki
    have hw := fldR_wt hf i
    have hl := wt_len (fldR (fs.take i))
    refine s_seq ?_
    lcg_off
    · refine ⟨_, ?_, _, rfl, rfl⟩
      rw [et, if_neg (by omega)]
      show Less (put m p (.lst (List.map D.str (fldR (fs.take i) ++ [(("," : Str))] ++ fldR1 fs[i])))) _
      simp only [fldR1, List.map_append, List.map_cons, List.cons_append, List.append_assoc, List.map_nil, List.nil_append]
      one_item
    · refine ⟨_, ?_, _, rfl, rfl⟩
      have : i = 0 := by omega
      subst this
      rw [et, if_pos rfl]
      simp only [fldR, fldR1, List.map_append, List.map_cons, List.cons_append, List.append_assoc, List.map_nil, List.take_zero, rowsJ, List.nil_append]
      one_item
  · rintro _ _ ⟨kk, rfl, rfl⟩
    rw [List.length_map, Int.toNat_natCast, List.take_length]
    lcg_off
    exact ⟨_, Less.refl _, q p ‹_›⟩
local macro_rules | `(tactic| lcg_sub) => `(tactic| ((with_reducible refine' use_frow ?h1 ?h2); (case h1 => assumption); intro p hp; (try simp only [put_none] at hp); (repeat' (rename _ ∧ _ => hA; obtain ⟨_, _⟩ := hA))))

/-! ### blocks: their data, their rows (steps further in), their lines -/
structure Bk where
  d : D
  rows : List (Nat × List Str)
  lines : List Str
def indS (n : Nat) : Str := Txt.mul "    " (n : Int)
def lineT (r : Nat × List Str) : Str := indS r.1 ++ lineL r.2
def rowW (r : Nat × List Str) : Nat := 4 * r.1 + wt r.2 + 1
def rowsW (rs : List (Nat × List Str)) : Nat := (rs.map rowW).sum
structure RowOk (r : Nat × List Str) : Prop where
  ne : r.2 ≠ []
  ok : OkT r.2
  w : wt r.2 ≤ 200000
  d : r.1 ≤ 1000
theorem rowsW_app (a b : List (Nat × List Str)) : rowsW (a ++ b) = rowsW a + rowsW b := by unfold rowsW; rw [List.map_append, List.sum_append]
theorem rowsW_cons (r : Nat × List Str) (b : List (Nat × List Str)) : rowsW (r :: b) = rowW r + rowsW b := by unfold rowsW; rw [List.map_cons, List.sum_cons]
theorem rowsW_len (rs : List (Nat × List Str)) : rs.length ≤ rowsW rs := by
  induction rs with
  | nil => exact Nat.le_refl _
  | cons t r ih => rw [rowsW_cons, List.length_cons]; unfold rowW; omega
/-- one step further in -/
def inR (r : Nat × List Str) : Nat × List Str := (1 + r.1, r.2)
/-! ### rows in memory -/
def rowD (q : (Nat × List Str) × Addr) : D := .tup [.int q.1.1, .ref q.2]
structure RowsAt (m : M) (p : Addr) (rs : List ((Nat × List Str) × Addr)) : Prop where
  at_ : m p = some (.lst (rs.map rowD))
  row : ∀ q ∈ rs, m q.2 = some (.lst (q.1.2.map D.str)) ∧ q.2 ≠ p
theorem RowsAt.nil {m : M} {p : Addr} : RowsAt (put m p (.lst [])) p [] := ⟨put_same, (fun _ h => by cases h)⟩
theorem RowsAt.other {m : M} {p a : Addr} {rs : List ((Nat × List Str) × Addr)} {o : DO} (h : RowsAt m p rs) (hp : a ≠ p) (hr : ∀ q ∈ rs, q.2 ≠ a) : RowsAt (put m a o) p rs :=
  ⟨by rw [put_ne (Ne.symm hp)]; exact h.at_, fun q hq => ⟨by rw [put_ne (hr q hq)]; exact (h.row q hq).1, (h.row q hq).2⟩⟩
theorem RowsAt.fresh {m : M} {p a : Addr} {rs : List ((Nat × List Str) × Addr)} (h : RowsAt m p rs) (n : m a = none) : a ≠ p ∧ ∀ q ∈ rs, q.2 ≠ a :=
  ⟨(fun e => by have := h.at_; rw [← e, n] at this; cases this), (fun q hq e => by have := (h.row q hq).1; rw [e, n] at this; cases this)⟩
theorem RowsAt.new {m : M} {p a : Addr} {rs : List ((Nat × List Str) × Addr)} {o : DO} (h : RowsAt m p rs) (n : m a = none) : RowsAt (put m a o) p rs := h.other (h.fresh n).1 (h.fresh n).2
theorem RowsAt.more {m m' : M} {p : Addr} {rs : List ((Nat × List Str) × Addr)} (h : RowsAt m p rs) (l : Less m m') : RowsAt m' p rs := ⟨l _ _ h.at_, fun q hq => ⟨l _ _ (h.row q hq).1, (h.row q hq).2⟩⟩
theorem RowsAt.snoc {m : M} {p a : Addr} {rs : List ((Nat × List Str) × Addr)} {d : Nat} {ts : List Str} (h : RowsAt m p rs) (n : a ≠ p) (ha : m a = some (.lst (ts.map D.str))) :
    RowsAt (put m p (.lst (rs.map rowD ++ [.tup [.int d, .ref a]]))) p (rs ++ [((d, ts), a)]) := by
  refine ⟨by rw [put_same, List.map_append]; rfl, fun q hq => ?_⟩
  rcases List.mem_append.mp hq with hq | hq
  · exact ⟨by rw [put_ne (h.row q hq).2]; exact (h.row q hq).1, (h.row q hq).2⟩
  · rw [List.mem_singleton] at hq
    subst hq
    exact ⟨by rw [put_ne n]; exact ha, n⟩
theorem RowsAt.app {m : M} {p b : Addr} {rs ss : List ((Nat × List Str) × Addr)} (h : RowsAt m p rs) (h' : RowsAt m b ss) (n : ∀ q ∈ ss, q.2 ≠ p) : RowsAt (put m p (.lst (rs.map rowD ++ ss.map rowD))) p (rs ++ ss) := by
  refine ⟨by rw [put_same, List.map_append], fun q hq => ?_⟩
  rcases List.mem_append.mp hq with hq | hq
  · exact ⟨by rw [put_ne (h.row q hq).2]; exact (h.row q hq).1, (h.row q hq).2⟩
  · exact ⟨by rw [put_ne (n q hq)]; exact (h'.row q hq).1, n q hq⟩

def BkOk (b : Bk) : Prop := b = ⟨.tup [], [], []⟩
theorem BkOk.w {b : Bk} (h : BkOk b) : rowsW (b.rows.map inR) ≤ 2000000 := by subst h; exact Nat.le_of_ble_eq_true rfl
theorem BkOk.ok {b : Bk} (h : BkOk b) : ∀ r ∈ b.rows.map inR, RowOk r := by subst h; intro r hr; cases hr
theorem BkOk.ln {b : Bk} (h : BkOk b) : b.lines = (b.rows.map inR).map lineT := by subst h; rfl
def sp_law_block_rows : DSp := fun ds m P _ => ∃ b, ds = [Bk.d b, .int 1] ∧ BkOk b ∧ ∀ p rs m', m p = none → (∀ q ∈ rs, m q.2 = none) → Less m m' → RowsAt m' p rs → rs.map (·.1) = b.rows.map inR → P (.ref p) m'
theorem use_brows {b : Bk} {m : M} {P : DK} (h : BkOk b) (q : ∀ p rs m', m p = none → (∀ q ∈ rs, m q.2 = none) → Less m m' → RowsAt m' p rs → rs.map (·.1) = b.rows.map inR → P (.ref p) m') : sp_law_block_rows [b.d, .int 1] m P noX := ⟨b, rfl, h, q⟩
theorem rd_brows : ∀ ds m P EX, sp_law_block_rows ds m P EX → Go P (b_law_block_rows (fun _ _ _ _ => False) (fun _ _ _ _ => False) (fun _ _ _ _ => False)) (dstart ["block", "depth", "rows", "tree"] ds) m := by
  rintro ds m P EX ⟨b, rfl, hb, q⟩
  subst hb
  show b_law_block_rows _ _ _ { nx := fun _ m' => Ret P .non m', rt := Ret P } [some (.tup []), some (.int 1), none, none] m
  unfold b_law_block_rows
  lcg_off
  refine s_seq ?_
  lcg_off
  rename_i p hp
  refine ⟨fun i sd m' => i = 0 → sd = [some (.tup []), some (.int 1), some (.ref p), none] ∧ m' = put m p (.lst []), fun _ => ⟨rfl, rfl⟩, ?_, ?_⟩
  · intro i x sd m' hx
    cases hx
  · intro sd m' h
    obtain ⟨rfl, rfl⟩ := h rfl
    lcg_off
    exact ⟨_, Less.refl _, q p [] _ hp (fun _ h => by cases h) (by one_item) RowsAt.nil rfl⟩

/-! ### records and functions -/
structure Rc where
  z : Str
  fs : List (Str × Kd)
def Rc.D (r : Rc) : D := .tup [.str r.z, fldsD r.fs]
structure Rc.Ok (r : Rc) : Prop where
  z : BgOk r.z
  fs : FOk r.fs
  ne : r.fs ≠ []
structure Fn where
  z : Str
  fs : List (Str × Kd)
  k : Kd
  ws : List Str
  b : Bk
def Fn.D (f : Fn) : D := .tup [.str f.z, fldsD f.fs, f.k.D, .tup (f.ws.map D.str), f.b.d]
structure Fn.Ok (f : Fn) : Prop where
  z : SmOk f.z
  fs : FOk f.fs
  k : WT 9 f.k
  wl : f.ws.length ≤ 6
  ws : ∀ w ∈ f.ws, SmOk w
  b : BkOk f.b

/-- what may stand between the braces of a function -/
def BkRd (b : Bk) (us : List U2) : Prop := b.d = .tup [] ∧ us = []
def sp_read_block : DSp := fun ds m P _ => ∃ tk T, ∃ i : Nat, ∃ (b : Bk) (us r : List U2), ds = [.ref tk, .int i] ∧ m tk = some (.lst (T.map Tk.D)) ∧ BkRd b us ∧ Rest T i = (("{" : Str), ("{" : Str)) :: (us ++ (("}" : Str), ("}" : Str)) :: r) ∧ P (.tup [b.d, .int ((i + 1 + us.length + 1 : Nat) : Int)]) m
theorem rd_rblock09 : ∀ ds m P EX, sp_read_block ds m P EX → Go P (b_read_block sp_behind (fun _ _ _ _ => False)) (dstart ["tokens", "at", "statements", "statement"] ds) m := by
  rintro ds m P EX ⟨tk, T, i, b, us, r, rfl, hm, ⟨hb, rfl⟩, h, q⟩
  show b_read_block _ _ { nx := fun _ m' => Ret P .non m', rt := Ret P } [some (.ref tk), some (.int i), none, none] m
  unfold b_read_block
  have h1 : Rest T (i + 1) = (("}" : Str), ("}" : Str)) :: r := rest_next h
  rw [hb] at q
  lcg_off
  rename_i p hp
  have hne : p ≠ tk := fun e => by subst e; rw [hm] at hp; cases hp
  refine s_seq ⟨fun n sd m' => sd = [some (.ref tk), some (.int ((i + 1 : Nat) : Int)), some (.ref p), none] ∧ m' = put m p (.lst []), ⟨0, rfl, rfl⟩, ?_⟩
  rintro n _ _ ⟨rfl, rfl⟩
  lcg_off
  exact ⟨m, by one_item, q⟩

/-! ### fields, records, functions -/
def fP (p : Str × Kd) : List U2 := (("name" : Str), p.1) :: ((":" : Str), (":" : Str)) :: kP p.2
def fPart (p : Str × Kd) : D × List U2 := (fldD p, fP p)
def nPart (w : Str) : D × List U2 := (.str w, [("name", w)])
def sp_read_field : DSp := fun ds m P _ => ∃ tk T, ∃ i : Nat, ∃ p r, ds = [.ref tk, .int i] ∧ m tk = some (.lst (T.map Tk.D)) ∧ WT 3 p.2 ∧ Rest T i = fP p ++ r ∧ P (.tup [fldD p, .int ((i + (fP p).length : Nat) : Int)]) m
theorem rd_rfield (n : Nat) : ∀ ds m P EX, sp_read_field ds m P EX → Go P (b_read_field sp_read_name sp_behind (sp_read_kind (n + 3))) (dstart ["tokens", "at", "name", "kind"] ds) m := by
  rintro ds m P EX ⟨tk, T, i, ⟨z, k⟩, r, rfl, hm, hk, h, q⟩
  show b_read_field _ _ _ { nx := fun _ m' => Ret P .non m', rt := Ret P } [some (.ref tk), some (.int i), none, none] m
  unfold b_read_field
  have h0 : Rest T i = (("name" : Str), z) :: ((":" : Str), (":" : Str)) :: (kP k ++ r) := h
  have h1 := rest_next h0
  have h2 := rest_next h1
  top_strB
  refine use_rkind hk hm h2 (by omega) ?_
  top_strB
  refine ⟨_, Less.refl _, ?_⟩
  have e : i + (fP (z, k)).length = i + 1 + 1 + (kP k).length := by unfold fP; simp only [List.length_cons]; omega
  rw [e] at q
  exact q
theorem rdp_field {tk : Addr} {T : List Tk} {p : Str × Kd} (h : WT 3 p.2) : RdP sp_read_field tk T (fun _ => True) (fPart p) := fun j r m P hm hR _ q => ⟨tk, T, j, p, r, rfl, hm, h, hR, q⟩
theorem rdp_name {tk : Addr} {T : List Tk} {w : Str} : RdP sp_read_name tk T (fun _ => True) (nPart w) := fun j r m P hm hR _ q => ⟨tk, T, j, w, r, rfl, hm, hR, q⟩
def rcP (r : Rc) : List U2 := (("record" : Str), ("record" : Str)) :: (("Name" : Str), r.z) :: (("{" : Str), ("{" : Str)) :: (jnP (r.fs.map fP) ++ [(("}" : Str), ("}" : Str))])
theorem jnP_cons {α : Type} {f : α → D × List U2} (x : α) (xs : List α) : jnP ((x :: xs).map fun a => (f a).2) = (f x).2 ++ tailU (xs.map f) := by
  unfold jnP tailU
  rw [List.map_cons]
  dsimp only
  rw [List.map_map, List.map_map]
  rfl
def sp_read_rec : DSp := fun ds m P _ => ∃ tk T, ∃ i : Nat, ∃ rc r, ds = [.ref tk, .int i] ∧ m tk = some (.lst (T.map Tk.D)) ∧ Rc.Ok rc ∧ Rest T i = rcP rc ++ r ∧ P (.tup [Rc.D rc, .int ((i + (rcP rc).length : Nat) : Int)]) m
theorem rd_rrec (CA : CAT) : ∀ ds m P EX, sp_read_rec ds m P EX → Go P (b_read_declared_record CA sp_read_token sp_behind (sp_read_list CA) sp_read_field) (dstart ["tokens", "at", "name", "fields"] ds) m := by
  rintro ds m P EX ⟨tk, T, i, ⟨z, fs⟩, r, rfl, hm, ok, h, q⟩
  show b_read_declared_record CA _ _ _ _ { nx := fun _ m' => Ret P .non m', rt := Ret P } [some (.ref tk), some (.int i), none, none] m
  unfold b_read_declared_record
  have hfl := ok.fs.len
  dsimp only at hfl
  match fs, ok.ne with
  | f0 :: fs, _ =>
  have ej : jnP ((f0 :: fs).map fP) = fP f0 ++ tailU (fs.map fPart) := jnP_cons (f := fPart) f0 fs
  have h0 : Rest T i = (("record" : Str), ("record" : Str)) :: (("Name" : Str), z) :: (("{" : Str), ("{" : Str)) :: (fP f0 ++ (tailU (fs.map fPart) ++ (("}" : Str), ("}" : Str)) :: r)) := by
    rw [h, rcP, ej]
    simp only [List.cons_append, List.append_assoc, List.nil_append]
  have h1 := rest_next h0
  have h2 := rest_next h1
  have h3 := rest_next h2
  have h4 := rest_app (rest_app h3)
  top_strB
  intro f hf
  top_strB
  refine ⟨tk, T, _, f, _, fun _ => True, fPart f0, fs.map fPart, "}", "}", r, rfl, hm, hf, ?_, h3, by decide +kernel, fun _ => trivial, trivial, by rw [List.length_map]; simp only [List.length_cons] at hfl; omega, ?_⟩
  · intro p hp
    rcases List.mem_cons.mp hp with e | hp
    · rw [e]; exact rdp_field (ok.fs.all f0 (by simp)).2
    · obtain ⟨k, hk2, rfl⟩ := List.mem_map.mp hp
      exact rdp_field (ok.fs.all k (by simp [hk2])).2
  · rw [List.length_append, ← Nat.add_assoc]
    have h4' : Rest T (i + 1 + 1 + 1 + (fPart f0).2.length + (tailU (fs.map fPart)).length) = ((("}" : Str), ("}" : Str)) :: r) := h4
    top_strB
    refine ⟨_, Less.refl _, ?_⟩
    have e : i + (rcP ⟨z, f0 :: fs⟩).length = i + 1 + 1 + 1 + (fPart f0).2.length + (tailU (fs.map fPart)).length + 1 := by
      rw [rcP, ej]
      simp only [List.length_cons, List.length_append, List.length_nil, fPart]
      omega
    rw [e] at q
    have e2 : (fPart f0).1 :: (fs.map fPart).map (·.1) = (f0 :: fs).map fldD := by rw [List.map_map]; rfl
    rw [e2]
    exact q
def srcP (ws : List Str) : List U2 := if ws = [] then [] else (("from" : Str), ("from" : Str)) :: jnP (ws.map fun w => (nPart w).2)
def fnP (f : Fn) (us : List U2) : List U2 := (("fn" : Str), ("fn" : Str)) :: (("name" : Str), f.z) :: (encU (f.fs.map fPart) ++ ((("->" : Str), ("->" : Str)) :: (kP f.k ++ (srcP f.ws ++ ((("{" : Str), ("{" : Str)) :: (us ++ [(("}" : Str), ("}" : Str))]))))))
def sp_read_fun : DSp := fun ds m P _ => ∃ tk T, ∃ i : Nat, ∃ f us r, ds = [.ref tk, .int i] ∧ m tk = some (.lst (T.map Tk.D)) ∧ Fn.Ok f ∧ BkRd f.b us ∧ Rest T i = fnP f us ++ r ∧ P (.tup [Fn.D f, .int ((i + (fnP f us).length : Nat) : Int)]) m
theorem rd_rfun (CA : CAT) : ∀ ds m P EX, sp_read_fun ds m P EX → Go P (b_read_function CA sp_read_name (sp_read_enc CA) sp_behind (sp_read_kind 9) (sp_read_list CA) sp_read_block sp_read_field sp_read_name) (dstart ["tokens", "at", "sources", "name", "parameters", "result", "block"] ds) m := by
  rintro ds m P EX ⟨tk, T, i, ⟨z, fs, k, ws, b⟩, us, r, rfl, hm, ok, hb, h, q⟩
  show b_read_function CA _ _ _ _ _ _ _ _ { nx := fun _ m' => Ret P .non m', rt := Ret P } [some (.ref tk), some (.int i), none, none, none, none, none] m
  unfold b_read_function
  have hfl := ok.fs.len
  have hk := ok.k
  have hwl := ok.wl
  dsimp only at hfl hk hb hwl
  have h0 : Rest T i = (("fn" : Str), ("fn" : Str)) :: (("name" : Str), z) :: (encU (fs.map fPart) ++ ((("->" : Str), ("->" : Str)) :: (kP k ++ (srcP ws ++ ((("{" : Str), ("{" : Str)) :: (us ++ (("}" : Str), ("}" : Str)) :: r)))))) := by
    rw [h, fnP]
    simp only [List.cons_append, List.append_assoc, List.nil_append]
  have h1 := rest_next h0
  have h2 := rest_next h1
  have h3 := rest_app h2
  have h4 := rest_next h3
  have h5 := rest_app h4
  have h6 := rest_app h5
  top_strB
  intro f hf
  top_strB
  refine ⟨tk, T, _, f, _, fun _ => True, fs.map fPart, _, rfl, hm, hf, ?_, h2, fun _ => trivial, fun _ => trivial, by rw [List.length_map]; omega, ?_⟩
  · intro p hp
    obtain ⟨x, hx, rfl⟩ := List.mem_map.mp hp
    exact ⟨rdp_field (ok.fs.all x hx).2, "name", _, _, rfl, by decide +kernel⟩
  lcg_off
  refine use_rkind hk hm h4 (Nat.le_refl _) ?_
  lcg_off
  refine s_cut (fun sd m' => sd = [some (.ref tk), some (.int ((i + 1 + 1 + (encU (fs.map fPart)).length + 1 + (kP k).length + (srcP ws).length : Nat) : Int)), some (.tup (ws.map D.str)), some (.str z), some (.tup ((fs.map fPart).map (·.1))), some k.D, none] ∧ m' = m) ?_ ?_
  · match ws with
    | [] =>
      have h5' : Rest T (i + 1 + 1 + (encU (fs.map fPart)).length + 1 + (kP k).length) = (("{" : Str), ("{" : Str)) :: (us ++ (("}" : Str), ("}" : Str)) :: r) := h5
      top_strB
      exact ⟨_, Less.refl _, rfl, rfl⟩
    | w0 :: ws =>
      have es : srcP (w0 :: ws) = (("from" : Str), ("from" : Str)) :: ((nPart w0).2 ++ tailU (ws.map nPart)) := by
        rw [srcP, if_neg (by simp), jnP_cons]
      have h5' : Rest T (i + 1 + 1 + (encU (fs.map fPart)).length + 1 + (kP k).length) = (("from" : Str), ("from" : Str)) :: ((nPart w0).2 ++ (tailU (ws.map nPart) ++ (("{" : Str), ("{" : Str)) :: (us ++ (("}" : Str), ("}" : Str)) :: r))) := by
        rw [h5, es]; simp only [List.cons_append, List.append_assoc]
      have h7 := rest_next h5'
      top_strB
      intro f hf
      top_strB
      refine ⟨tk, T, _, f, _, fun _ => True, nPart w0, ws.map nPart, "{", "{", _, rfl, hm, hf, ?_, h7, by decide +kernel, fun _ => trivial, trivial, by rw [List.length_map]; simp only [List.length_cons] at hwl; omega, ?_⟩
      · intro p hp
        rcases List.mem_cons.mp hp with e | hp
        · rw [e]; exact rdp_name
        · obtain ⟨x, hx, rfl⟩ := List.mem_map.mp hp
          exact rdp_name
      · top_strB
        refine ⟨_, Less.refl _, ?_, rfl⟩
        have e2 : (nPart w0).1 :: (ws.map nPart).map (·.1) = (w0 :: ws).map D.str := by rw [List.map_map]; rfl
        rw [e2, es, List.length_cons, show i + 1 + 1 + (encU (fs.map fPart)).length + 1 + (kP k).length + 1 + ((nPart w0).2 ++ tailU (ws.map nPart)).length = i + 1 + 1 + (encU (fs.map fPart)).length + 1 + (kP k).length + (((nPart w0).2 ++ tailU (ws.map nPart)).length + 1) by omega]
  · rintro _ _ ⟨rfl, rfl⟩
    top_strB
    refine ⟨tk, T, _, b, us, r, rfl, hm, hb, h6, ?_⟩
    top_strB
    refine ⟨_, Less.refl _, ?_⟩
    have e : i + (fnP ⟨z, fs, k, ws, b⟩ us).length = i + 1 + 1 + (encU (fs.map fPart)).length + 1 + (kP k).length + (srcP ws).length + 1 + us.length + 1 := by
      rw [fnP]
      simp only [List.length_cons, List.length_append, List.length_nil]
      omega
    rw [e] at q
    have e2 : (fs.map fPart).map (·.1) = fs.map fldD := by rw [List.map_map]; rfl
    rw [e2]
    exact q
def recPart (r : Rc) : D × List U2 := (Rc.D r, rcP r)
def funPart (q : Fn × List U2) : D × List U2 := (Fn.D q.1, fnP q.1 q.2)
theorem rdp_rec {tk : Addr} {T : List Tk} {rc : Rc} (h : Rc.Ok rc) : RdP sp_read_rec tk T (fun _ => True) (recPart rc) := fun j r m P hm hR _ q => ⟨tk, T, j, rc, r, rfl, hm, h, hR, q⟩
theorem rdp_fun {tk : Addr} {T : List Tk} {f : Fn × List U2} (h : Fn.Ok f.1) (hb : BkRd f.1.b f.2) : RdP sp_read_fun tk T (fun _ => True) (funPart f) := fun j r m P hm hR _ q => ⟨tk, T, j, f.1, f.2, r, rfl, hm, h, hb, hR, q⟩
def endP : List U2 := [("end", "")]
def sp_parse_program : DSp := fun ds m P _ => ∃ (z : Str) (T : List Tk) (rcs : List Rc) (fns : List (Fn × List U2)), ds = [.str z] ∧ z.length ≤ 16000000 ∧ Lex z.cps.toList 1 1 T ∧ (∀ r ∈ rcs, Rc.Ok r) ∧ (∀ f ∈ fns, Fn.Ok f.1 ∧ BkRd f.1.b f.2) ∧ rcs.length ≤ 1000 ∧ fns.length ≤ 1000 ∧
  T.map Tk.p = flatU (rcs.map recPart) ++ (flatU (fns.map funPart) ++ endP) ∧ P (.tup [.tup (rcs.map Rc.D), .tup (fns.map fun f => Fn.D f.1)]) m
theorem rd_parse (CA : CAT) : ∀ ds m P EX, sp_parse_program ds m P EX → Go P (b_parse_program CA sp_split_text (sp_rws CA) sp_read_token sp_read_rec sp_read_fun) (dstart ["text", "tokens", "records", "at", "functions"] ds) m := by
  rintro ds m P EX ⟨z, T, rcs, fns, rfl, hz, hL, hr, hf, hrl, hfl, hT, q⟩
  show b_parse_program CA _ _ _ _ _ { nx := fun _ m' => Ret P .non m', rt := Ret P } [some (.str z), none, none, none, none] m
  unfold b_parse_program
  top_strB
  refine use_split hz hL fun tk htk => ?_
  have hm : (put m tk (.lst (T.map Tk.D))) tk = some (.lst (T.map Tk.D)) := put_same
  generalize hM : put m tk (.lst (T.map Tk.D)) = M at hm
  have hless : Less m M := by subst hM; exact Less.new htk
  have h0 : Rest T 0 = flatU (rcs.map recPart) ++ (flatU (fns.map funPart) ++ endP) := hT
  have h1 := rest_app h0
  have h2 := rest_app h1
  have hn : ∃ l t r, flatU (fns.map funPart) ++ endP = (l, t) :: r ∧ l ≠ "record" := by
    cases fns with
    | nil => exact ⟨"end", "", [], rfl, by decide +kernel⟩
    | cons f fns => exact ⟨"fn", "fn", _, rfl, by decide +kernel⟩
  obtain ⟨l, t, r, en, hl⟩ := hn
  top_strB
  intro f1 hf1
  top_strB
  refine ⟨tk, T, 0, "record", f1, _, fun _ => True, rcs.map recPart, l, t, r, rfl, hm, hf1, ?_, by rw [h0, en], hl, fun _ _ => trivial, trivial, by rw [List.length_map]; exact hrl, ?_⟩
  · intro p hp
    obtain ⟨x, hx, rfl⟩ := List.mem_map.mp hp
    exact ⟨rdp_rec (hr x hx), _, _, rfl⟩
  top_strB
  intro f2 hf2
  top_strB
  refine ⟨tk, T, _, "fn", f2, _, fun _ => True, fns.map funPart, "end", "", [], rfl, hm, hf2, ?_, h1, by decide +kernel, fun _ _ => trivial, trivial, by rw [List.length_map]; exact hfl, ?_⟩
  · intro p hp
    obtain ⟨x, hx, rfl⟩ := List.mem_map.mp hp
    exact ⟨rdp_fun (hf x hx).1 (hf x hx).2, _, _, rfl⟩
  have h2' : Rest T (0 + (flatU (rcs.map recPart)).length + (flatU (fns.map funPart)).length) = [(("end" : Str), ("" : Str))] := h2
  top_strB
  refine ⟨m, hless, ?_⟩
  have e1 : (rcs.map recPart).map (·.1) = rcs.map Rc.D := by rw [List.map_map]; rfl
  have e2 : (fns.map funPart).map (·.1) = fns.map fun f => Fn.D f.1 := by rw [List.map_map]; rfl
  rw [e1, e2]
  exact q

/-! ### records and functions: rows and lines -/
def Rc.row (r : Rc) : List Str := [("record" : Str), r.z, ("{" : Str)] ++ fldR r.fs ++ [("}" : Str)]
def srcR (ws : List Str) : List Str := if ws = [] then [] else ("from" : Str) :: rowsJ (ws.map fun w => [w])
def Fn.head0 (f : Fn) : List Str := [("fn" : Str), f.z, ("(" : Str)] ++ fldR f.fs ++ [(")" : Str), ("->" : Str)] ++ kR f.k
def Fn.head (f : Fn) : List Str := f.head0 ++ srcR f.ws ++ [("{" : Str)]
def Fn.rows (f : Fn) : List (Nat × List Str) := (0, f.head) :: (f.b.rows.map inR ++ [(0, [("}" : Str)])])
/-! all rows are good -/
theorem srcR_wt {ws : List Str} (h : ∀ w ∈ ws, SmOk w) (hl : ws.length ≤ 6) (i : Nat) : wt (srcR (ws.take i)) ≤ 200 := by
  unfold srcR
  split
  · exact Nat.zero_le _
  · have a := wt_rowsJ ((ws.take i).map fun w => [w])
    rw [List.map_map] at a
    have b := sum_le (f := (fun r => wt r + 2) ∘ fun w : Str => [w]) (n := 25) (xs := ws.take i) fun w hw => by
      have := (h w (List.mem_of_mem_take hw)).len
      show wt [w] + 2 ≤ 25
      rw [wt_cons, wt_nil]; omega
    rw [List.length_take] at b
    have c : min i ws.length * 25 ≤ 7 * 25 := Nat.mul_le_mul_right _ (by omega)
    have d : (("from" : Str)).length = 4 := by decide +kernel
    rw [wt_cons, d]; omega
theorem fldR_ok {fs : List (Str × Kd)} (h : FOk fs) : OkT (fldR fs) := OkT.joined fun r hr => by
  obtain ⟨p, hp, e⟩ := List.mem_map.mp hr
  subst e
  exact .cons (h.all p hp).1.pos (.cons (by decide +kernel) (h.all p hp).2.okt)
theorem srcR_ok {ws : List Str} (h : ∀ w ∈ ws, SmOk w) : OkT (srcR ws) := by
  unfold srcR
  split
  · exact .nil
  · exact .cons (by decide +kernel) (OkT.joined fun r hr => by
      obtain ⟨w, hw, e⟩ := List.mem_map.mp hr
      subst e
      exact .one (h w hw).pos)
theorem Rc.rowOk {r : Rc} (o : r.Ok) : RowOk (0, r.row) := by
  refine ⟨by simp [Rc.row], ?_, ?_, Nat.zero_le _⟩
  · exact ((OkT.cons (by decide +kernel) (.cons o.z.pos (.one (by decide +kernel)))).app (fldR_ok o.fs)).app (.one (by decide +kernel))
  · have a := fldR_wt0 o.fs
    have b := o.z.len
    have e1 : (("record" : Str)).length = 6 := by decide +kernel
    have e2 : (("{" : Str)).length = 1 := by decide +kernel
    have e3 : (("}" : Str)).length = 1 := by decide +kernel
    show wt ([("record" : Str), r.z, ("{" : Str)] ++ fldR r.fs ++ [("}" : Str)]) ≤ _
    rw [wt_app, wt_app, wt_cons, wt_cons, wt_cons, wt_cons, wt_nil, e1, e2, e3]
    omega
theorem Fn.rowOk {f : Fn} (o : f.Ok) : RowOk (0, f.head) := by
  refine ⟨by simp [Fn.head, Fn.head0], ?_, ?_, Nat.zero_le _⟩
  · exact (((((OkT.cons (by decide +kernel) (.cons o.z.pos (.one (by decide +kernel)))).app (fldR_ok o.fs)).app (.cons (by decide +kernel) (.one (by decide +kernel)))).app o.k.okt).app (srcR_ok o.ws)).app (.one (by decide +kernel))
  · have a := fldR_wt0 o.fs
    have b := o.z.len
    have c := o.k.wt
    have d := srcR_wt o.ws o.wl f.ws.length
    rw [List.take_length] at d
    have e1 : (("fn" : Str)).length = 2 := by decide +kernel
    have e2 : (("(" : Str)).length = 1 := by decide +kernel
    have e3 : ((")" : Str)).length = 1 := by decide +kernel
    have e4 : (("->" : Str)).length = 2 := by decide +kernel
    have e5 : (("{" : Str)).length = 1 := by decide +kernel
    show wt ([("fn" : Str), f.z, ("(" : Str)] ++ fldR f.fs ++ [(")" : Str), ("->" : Str)] ++ kR f.k ++ srcR f.ws ++ [("{" : Str)]) ≤ _
    simp only [wt_app, wt_cons, wt_nil, e1, e2, e3, e4, e5]
    omega
theorem Fn.head0_len (f : Fn) (o : f.Ok) : f.head0.length ≤ 20000 := by
  have a := fldR_wt0 o.fs
  have b := wt_len (fldR f.fs)
  have c := o.k.size (by decide)
  unfold Fn.head0
  simp only [List.length_append, List.length_cons, List.length_nil]
  omega

/-! ### rows as they are read -/
def rawT (t : Str) : List Str := if t = "&mut" then ["&", "mut"] else if 1 < t.length ∧ headN t = some 45 ∧ t ≠ "->" then ["-", ⟨(t.cps.toList.drop 1).toArray⟩] else [t]
def rawR (ts : List Str) : List Str := (ts.map rawT).flatten
theorem rawR_app (a b : List Str) : rawR (a ++ b) = rawR a ++ rawR b := by unfold rawR; rw [List.map_append, List.flatten_append]
theorem rawR_cons (t : Str) (b : List Str) : rawR (t :: b) = rawT t ++ rawR b := by unfold rawR; rw [List.map_cons, List.flatten_cons]
theorem rawR_nil : rawR [] = [] := rfl
theorem rawT_lit {t : Str} (h1 : t ≠ "&mut") (h2 : headN t ≠ some 45 ∨ t = "->" ∨ t.length ≤ 1) : rawT t = [t] := by
  unfold rawT
  rw [if_neg h1, if_neg]
  rintro ⟨a, b, c⟩
  rcases h2 with h2 | h2 | h2
  · exact h2 b
  · exact c h2
  · omega
theorem rawT_name {t : Str} (h : NameOk t) : rawT t = [t] := by
  obtain ⟨c, e, hc⟩ := h.hd
  have hn : c ≠ 45 ∧ c ≠ 38 := by
    have : letS.cps.toList.all (fun c => !decide (c = 45) && !decide (c = 38)) = true := by decide +kernel
    have := List.all_eq_true.mp this c hc
    simpa using this
  refine rawT_lit (fun q => ?_) (.inl fun q => ?_)
  · rw [q] at e
    have : headN "&mut" = some 38 := by decide +kernel
    rw [this] at e
    exact hn.2 (Option.some.inj e).symm
  · rw [q] at e
    exact hn.1 (Option.some.inj e).symm
def UU (ts : List Str) : List U2 := (rawR ts).map lab
theorem UU_app (a b : List Str) : UU (a ++ b) = UU a ++ UU b := by unfold UU; rw [rawR_app, List.map_append]
theorem UU_cons (t : Str) (b : List Str) : UU (t :: b) = (rawT t).map lab ++ UU b := by unfold UU; rw [rawR_cons, List.map_append]
theorem UU_nil : UU [] = [] := rfl
theorem UU_lit {t : Str} {b : List Str} (h1 : t ≠ "&mut") (h2 : headN t ≠ some 45 ∨ t = "->" ∨ t.length ≤ 1) (h3 : t ∈ lawWords ∨ t ∈ signS) : UU (t :: b) = (t, t) :: UU b := by
  rw [UU_cons, rawT_lit h1 h2, List.map_singleton, lab_lit h3]; rfl
theorem UU_sm {z : Str} {b : List Str} (h : SmOk z) : UU (z :: b) = (("name" : Str), z) :: UU b := by
  rw [UU_cons, rawT_name h.toNameOk, List.map_singleton, lab, h.lab]; rfl
theorem UU_bg {z : Str} {b : List Str} (h : BgOk z) : UU (z :: b) = (("Name" : Str), z) :: UU b := by
  rw [UU_cons, rawT_name h.toNameOk, List.map_singleton, lab, h.lab]; rfl
theorem UU_mut {b : List Str} : UU (("&mut" : Str) :: b) = (("&" : Str), ("&" : Str)) :: (("mut" : Str), ("mut" : Str)) :: UU b := by
  have : (rawT "&mut").map lab = [(("&" : Str), ("&" : Str)), (("mut" : Str), ("mut" : Str))] := by
    unfold rawT
    rw [if_pos rfl, List.map_cons, List.map_cons, lab_lit (by decide +kernel), lab_lit (by decide +kernel)]; rfl
  rw [UU_cons, this]; rfl
theorem comma_lit {b : List Str} : UU (("," : Str) :: b) = commaU :: UU b := UU_lit (by decide +kernel) (by decide +kernel) (by decide +kernel)
theorem UU_join : ∀ rs : List (List Str), UU (rowsJ rs) = jnP (rs.map UU)
  | [] => rfl
  | [r] => by rw [rowsJ, List.map_singleton, jnP]; simp
  | r :: q :: rs => by
    rw [rowsJ_cons r (by simp), UU_app, comma_lit, UU_join (q :: rs)]
    rw [List.map_cons, List.map_cons, jnP, jnP]
    simp
theorem UU_kind : ∀ {n : Nat} {k : Kd}, WT n k → UU (kR k) = kP k
  | _, _, .int n => by rw [kR, kP, UU_lit (by decide +kernel) (by decide +kernel) (by decide +kernel), UU_nil]
  | _, _, .bool n => by rw [kR, kP, UU_lit (by decide +kernel) (by decide +kernel) (by decide +kernel), UU_nil]
  | _, _, .unit n => by rw [kR, kP, UU_lit (by decide +kernel) (by decide +kernel) (by decide +kernel), UU_nil]
  | _, _, .rcd n h => by rw [kR, kP, UU_bg h, UU_nil]
  | _, _, .box h => by rw [kR, kP, UU_lit (by decide +kernel) (by decide +kernel) (by decide +kernel), UU_kind h]
  | _, _, .maybe h => by rw [kR, kP, UU_lit (by decide +kernel) (by decide +kernel) (by decide +kernel), UU_kind h]
  | _, _, .excl h => by rw [kR, kP, UU_mut, UU_kind h]
  | _, _, .shared h => by rw [kR, kP, UU_lit (by decide +kernel) (by decide +kernel) (by decide +kernel), UU_kind h]
  | _, _, .tup (ks := ks) h1 h2 h => by
    rw [kR, kP, UU_lit (by decide +kernel) (by decide +kernel) (by decide +kernel), UU_app, UU_join, kRs_map, kPs_map, UU_lit (by decide +kernel) (by decide +kernel) (by decide +kernel), UU_nil, List.map_map]
    have : ks.map (UU ∘ kR) = ks.map kP := List.map_congr_left fun k hk => UU_kind (h k hk)
    rw [this]
theorem UU_field {p : Str × Kd} (h : SmOk p.1 ∧ WT 3 p.2) : UU (fldR1 p) = fP p := by
  rw [fldR1, UU_sm h.1, UU_lit (by decide +kernel) (by decide +kernel) (by decide +kernel), UU_kind h.2, fP]
theorem UU_fields {fs : List (Str × Kd)} (h : FOk fs) : UU (fldR fs) = jnP (fs.map fP) := by
  rw [fldR, UU_join, List.map_map]
  have : fs.map (UU ∘ fldR1) = fs.map fP := List.map_congr_left fun p hp => UU_field (h.all p hp)
  rw [this]
theorem UU_rec {r : Rc} (h : r.Ok) : UU r.row = rcP r := by
  rw [Rc.row, rcP]
  simp only [List.cons_append, List.nil_append, List.append_assoc]
  rw [UU_lit (by decide +kernel) (by decide +kernel) (by decide +kernel), UU_bg h.z, UU_lit (by decide +kernel) (by decide +kernel) (by decide +kernel), UU_app, UU_fields h.fs, UU_lit (by decide +kernel) (by decide +kernel) (by decide +kernel), UU_nil]
theorem UU_src {ws : List Str} (h : ∀ w ∈ ws, SmOk w) : UU (srcR ws) = srcP ws := by
  unfold srcR srcP
  split
  · rfl
  · rw [UU_lit (by decide +kernel) (by decide +kernel) (by decide +kernel), UU_join, List.map_map]
    have : ws.map (UU ∘ fun w => [w]) = ws.map fun w => (nPart w).2 := List.map_congr_left fun w hw => by
      show UU [w] = _
      rw [UU_sm (h w hw), UU_nil]; rfl
    rw [this]
theorem encU_eq (fs : List (Str × Kd)) : encU (fs.map fPart) = (("(" : Str), ("(" : Str)) :: (jnP (fs.map fP) ++ [((")" : Str), (")" : Str))]) := by
  cases fs with
  | nil => rfl
  | cons p fs =>
    rw [List.map_cons, encU, show jnP ((p :: fs).map fP) = _ from jnP_cons (f := fPart) p fs, List.append_assoc]
theorem UU_fun {f : Fn} (h : f.Ok) {us : List U2} (hb : UU ((f.b.rows.map (·.2)).flatten) = us) : UU ((f.rows.map (·.2)).flatten) = fnP f us := by
  have e : (f.rows.map (·.2)).flatten = f.head ++ ((f.b.rows.map (·.2)).flatten ++ [("}" : Str)]) := by
    unfold Fn.rows
    rw [List.map_cons, List.flatten_cons, List.map_append, List.flatten_append, List.map_map]
    rfl
  rw [e, UU_app, UU_app, hb, Fn.head, Fn.head0, fnP, encU_eq]
  simp only [List.cons_append, List.nil_append, List.append_assoc]
  rw [UU_lit (by decide +kernel) (by decide +kernel) (by decide +kernel), UU_sm h.z, UU_lit (by decide +kernel) (by decide +kernel) (by decide +kernel), UU_app, UU_fields h.fs, UU_lit (by decide +kernel) (by decide +kernel) (by decide +kernel), UU_lit (by decide +kernel) (by decide +kernel) (by decide +kernel), UU_app, UU_kind h.k, UU_app, UU_src h.ws, UU_lit (by decide +kernel) (by decide +kernel) (by decide +kernel), UU_nil, UU_lit (by decide +kernel) (by decide +kernel) (by decide +kernel), UU_nil]
  simp only [List.cons_append, List.nil_append, List.append_assoc]
/-! tokens that stand by themselves -/
def TokOk (t : Str) : Prop := (∃ c, headN t = some c ∧ letC c = true ∧ t.cps.toList.all wordC = true) ∨ (0 < t.length ∧ t.cps.toList.all isDg = true) ∨ t ∈ signS
def TokN (t : Str) : Prop := TokOk t ∧ t.length ≤ 22 ∧ t ≠ "="
def Good (ts : List Str) : Prop := ∀ t ∈ rawR ts, TokN t
theorem Good.nil : Good [] := fun _ h => by cases h
theorem Good.app {a b : List Str} (h : Good a) (h' : Good b) : Good (a ++ b) := fun t ht => by
  rw [rawR_app] at ht
  exact (List.mem_append.mp ht).elim (h t) (h' t)
theorem Good.cons {t : Str} {b : List Str} (h : ∀ u ∈ rawT t, TokN u) (h' : Good b) : Good (t :: b) := fun u hu => by
  rw [rawR_cons] at hu
  exact (List.mem_append.mp hu).elim (h u) (h' u)
theorem words_ok : lawWords.all (fun w => (match headN w with | some c => letC c | none => false) && w.cps.toList.all wordC && decide (w.length ≤ 22) && !decide (w = "=")) = true := by decide +kernel
theorem signs_ok : signS.all (fun w => decide (w.length ≤ 22) && decide (0 < w.length)) = true := by decide +kernel
theorem tokN_lit {t : Str} (h : t ∈ lawWords ∨ t ∈ signS ∧ t ≠ "=") : TokN t := by
  rcases h with h | h
  · have := List.all_eq_true.mp words_ok t h
    simp only [Bool.and_eq_true, Bool.not_eq_true', decide_eq_true_eq, decide_eq_false_iff_not] at this
    refine ⟨.inl ?_, this.1.2, this.2⟩
    cases e : headN t with
    | none => rw [e] at this; exact absurd this.1.1.1 (by simp)
    | some c => rw [e] at this; exact ⟨c, rfl, this.1.1.1, this.1.1.2⟩
  · have := List.all_eq_true.mp signs_ok t h.1
    simp only [Bool.and_eq_true, decide_eq_true_eq] at this
    exact ⟨.inr (.inr h.1), this.1, h.2⟩
theorem nameC_word {c : Nat} (h : nameC c = true) : wordC c = true := by
  unfold nameC at h; unfold wordC letC
  revert h
  cases isSm c <;> cases isDg c <;> cases isCap c <;> cases decide (c = 95) <;> decide
theorem bigC_word {c : Nat} (h : bigC c = true) : wordC c = true := by
  unfold bigC at h; unfold wordC letC
  revert h
  cases isSm c <;> cases isDg c <;> cases isCap c <;> cases decide (c = 95) <;> decide
theorem all_imp {p q : Nat → Bool} {l : List Nat} (h : l.all p = true) (i : ∀ c, p c = true → q c = true) : l.all q = true :=
  List.all_eq_true.mpr fun c hc => i c (List.all_eq_true.mp h c hc)
theorem eq_head : headN "=" = some 61 := by decide +kernel
theorem SmOk.tokN {z : Str} (h : SmOk z) : TokN z := by
  obtain ⟨c, e, hc⟩ := h.sm
  refine ⟨.inl ⟨c, e, by unfold letC; rw [hc]; rfl, all_imp h.al fun _ => nameC_word⟩, by have := h.len; omega, fun q => ?_⟩
  rw [q, eq_head] at e
  cases e
  exact absurd hc (by decide)
theorem BgOk.tokN {z : Str} (h : BgOk z) : TokN z := by
  obtain ⟨c, e, hc⟩ := h.cp
  refine ⟨.inl ⟨c, e, by unfold letC; rw [hc]; simp, all_imp h.al fun _ => bigC_word⟩, by have := h.len; omega, fun q => ?_⟩
  rw [q, eq_head] at e
  cases e
  exact absurd hc (by decide)
theorem Good.lit {t : Str} {b : List Str} (h1 : t ≠ "&mut") (h2 : headN t ≠ some 45 ∨ t = "->" ∨ t.length ≤ 1) (h3 : t ∈ lawWords ∨ t ∈ signS ∧ t ≠ "=") (h : Good b) : Good (t :: b) := .cons (fun u hu => by
  rw [rawT_lit h1 h2, List.mem_singleton] at hu; rw [hu]; exact tokN_lit h3) h
theorem Good.sm {z : Str} {b : List Str} (h1 : SmOk z) (h : Good b) : Good (z :: b) := .cons (fun u hu => by
  rw [rawT_name h1.toNameOk, List.mem_singleton] at hu; rw [hu]; exact h1.tokN) h
theorem Good.bg {z : Str} {b : List Str} (h1 : BgOk z) (h : Good b) : Good (z :: b) := .cons (fun u hu => by
  rw [rawT_name h1.toNameOk, List.mem_singleton] at hu; rw [hu]; exact h1.tokN) h
theorem Good.mut {b : List Str} (h : Good b) : Good (("&mut" : Str) :: b) := .cons (fun u hu => by
  rw [rawT, if_pos rfl] at hu
  rcases List.mem_cons.mp hu with e | hu
  · rw [e]; exact tokN_lit (by decide +kernel)
  · rw [List.mem_singleton] at hu; rw [hu]; exact tokN_lit (by decide +kernel)) h
theorem Good.join : ∀ {rs : List (List Str)}, (∀ r ∈ rs, Good r) → Good (rowsJ rs)
  | [], _ => .nil
  | [r], h => h r List.mem_cons_self
  | r :: q :: rs, h => by
    rw [rowsJ_cons r (by simp)]
    exact (h r List.mem_cons_self).app (.lit (by decide +kernel) (by decide +kernel) (by decide +kernel) (Good.join fun x hx => h x (List.mem_cons_of_mem _ hx)))
theorem WT.good : ∀ {n : Nat} {k : Kd}, WT n k → Good (kR k)
  | _, _, .int n => by rw [kR]; exact .lit (by decide +kernel) (by decide +kernel) (by decide +kernel) .nil
  | _, _, .bool n => by rw [kR]; exact .lit (by decide +kernel) (by decide +kernel) (by decide +kernel) .nil
  | _, _, .unit n => by rw [kR]; exact .lit (by decide +kernel) (by decide +kernel) (by decide +kernel) .nil
  | _, _, .rcd n h => by rw [kR]; exact .bg h .nil
  | _, _, .box h => by rw [kR]; exact .lit (by decide +kernel) (by decide +kernel) (by decide +kernel) h.good
  | _, _, .maybe h => by rw [kR]; exact .lit (by decide +kernel) (by decide +kernel) (by decide +kernel) h.good
  | _, _, .excl h => by rw [kR]; exact .mut h.good
  | _, _, .shared h => by rw [kR]; exact .lit (by decide +kernel) (by decide +kernel) (by decide +kernel) h.good
  | _, _, .tup (ks := ks) h1 h2 h => by
    rw [kR, kRs_map]
    have q : ∀ j ∈ ks, Good (kR j) := fun j hj => (h j hj).good
    exact .lit (by decide +kernel) (by decide +kernel) (by decide +kernel) ((Good.join fun r hr => by obtain ⟨j, hj, e⟩ := List.mem_map.mp hr; subst e; exact q j hj).app (.lit (by decide +kernel) (by decide +kernel) (by decide +kernel) .nil))
theorem FOk.good {fs : List (Str × Kd)} (h : FOk fs) : Good (fldR fs) := Good.join fun r hr => by
  obtain ⟨p, hp, e⟩ := List.mem_map.mp hr
  subst e
  exact .sm (h.all p hp).1 (.lit (by decide +kernel) (by decide +kernel) (by decide +kernel) (h.all p hp).2.good)
theorem Rc.good {r : Rc} (h : r.Ok) : Good r.row := by
  rw [Rc.row]
  exact ((Good.lit (by decide +kernel) (by decide +kernel) (by decide +kernel) (.bg h.z (.lit (by decide +kernel) (by decide +kernel) (by decide +kernel) .nil))).app h.fs.good).app (.lit (by decide +kernel) (by decide +kernel) (by decide +kernel) .nil)
theorem src_good {ws : List Str} (h : ∀ w ∈ ws, SmOk w) : Good (srcR ws) := by
  unfold srcR
  split
  · exact .nil
  · exact .lit (by decide +kernel) (by decide +kernel) (by decide +kernel) (Good.join fun r hr => by
      obtain ⟨w, hw, e⟩ := List.mem_map.mp hr
      subst e
      exact .sm (h w hw) .nil)
theorem Fn.goodH {f : Fn} (h : f.Ok) : Good f.head := by
  rw [Fn.head, Fn.head0]
  exact (((((Good.lit (by decide +kernel) (by decide +kernel) (by decide +kernel) (.sm h.z (.lit (by decide +kernel) (by decide +kernel) (by decide +kernel) .nil))).app h.fs.good).app (.lit (by decide +kernel) (by decide +kernel) (by decide +kernel) (.lit (by decide +kernel) (by decide +kernel) (by decide +kernel) .nil))).app h.k.good).app (src_good h.ws)).app (.lit (by decide +kernel) (by decide +kernel) (by decide +kernel) .nil)

/-! ### texts with spaces between their tokens -/
def lastN (z : Str) : Option Nat := z.cps.toList.getLast?
structure GapOk (b t g : Str) : Prop where
  bl : ∀ c ∈ g.cps.toList, c = 32 ∨ c = 10
  len : g.length ≤ 4
  no : g.cps.toList = [] → ∀ x y h, lastN b = some x → headN t = some y → headN b = some h → wordC x = false ∨ wordC y = false ∨ isDg h = true ∧ letC y = true
/-- what stands behind b -/
inductive Spc : Str → List Str → List Nat → Prop where
  | nil {b g} : GapOk b " " g → Spc b [] g.cps.toList
  | cons {b t g ts cs} : GapOk b t g → Spc t ts cs → Spc b (t :: ts) (g.cps.toList ++ (t.cps.toList ++ cs))
/-- what stands ahead of b -/
inductive SpL : Str → List Str → Str → List Nat → Prop where
  | nil {b} : SpL b [] b []
  | snoc {b0 ts b t g cs} : SpL b0 ts b cs → GapOk b t g → SpL b0 (ts ++ [t]) t (cs ++ g.cps.toList ++ t.cps.toList)
theorem SpL.spc {b0 : Str} {ts : List Str} {b : Str} {cs : List Nat} (h : SpL b0 ts b cs) : ∀ {us : List Str} {ds : List Nat}, Spc b us ds → Spc b0 (ts ++ us) (cs ++ ds) := by
  induction h with
  | nil => exact fun s => s
  | snoc h g ih =>
    intro us ds s
    rw [List.append_assoc, List.append_assoc, List.append_assoc]
    exact ih (.cons g s)
def Adj : List Str → Prop
  | [] => True
  | [_] => True
  | t :: u :: r => (t = "=" → headN u ≠ some 61) ∧ Adj (u :: r)
theorem adj_ne : ∀ {ts : List Str}, (∀ t ∈ ts, t ≠ "=") → Adj ts
  | [], _ => trivial
  | [_], _ => trivial
  | t :: u :: r, h => ⟨fun e => absurd e (h t List.mem_cons_self), adj_ne (ts := u :: r) fun x hx => h x (List.mem_cons_of_mem _ hx)⟩
theorem Lex.blanks {cs : List Nat} {T : List Tk} (P : List Tk → Prop) (h : ∀ r c, ∃ T, Lex cs r c T ∧ P T) : ∀ (g : List Nat), (∀ c ∈ g, c = 32 ∨ c = 10) → ∀ r c, ∃ T, Lex (g ++ cs) r c T ∧ P T
  | [], _, r, c => h r c
  | x :: g, hg, r, c => by
    rcases hg x List.mem_cons_self with rfl | rfl
    · obtain ⟨T, a, b⟩ := Lex.blanks (T := T) P h g (fun c hc => hg c (List.mem_cons_of_mem _ hc)) r (c + 1)
      exact ⟨T, .sp a, b⟩
    · obtain ⟨T, a, b⟩ := Lex.blanks (T := T) P h g (fun c hc => hg c (List.mem_cons_of_mem _ hc)) (r + 1) 1
      exact ⟨T, .nl a, b⟩
theorem takeW {p : Nat → Bool} : ∀ {w cs : List Nat}, w.all p = true → (∀ y, cs.head? = some y → p y = false) → (w ++ cs).takeWhile p = w
  | [], [], _, _ => rfl
  | [], y :: cs, _, h => by rw [List.nil_append, List.takeWhile_cons, if_neg (by rw [h y rfl]; decide)]
  | x :: w, cs, hw, h => by
    rw [List.all_cons, Bool.and_eq_true] at hw
    rw [List.cons_append, List.takeWhile_cons, if_pos hw.1, takeW hw.2 h]
theorem sign_head {t : Str} {c : Nat} (h : t ∈ signS) (e : headN t = some c) : letC c = false ∧ isDg c = false ∧ c ≠ 62 ∧ c ≠ 10 ∧ c ≠ 32 ∧ wordC c = false := by
  have : signS.all (fun w => match headN w with | some c => !letC c && !isDg c && !decide (c = 62) && !decide (c = 10) && !decide (c = 32) && !wordC c | none => false) = true := by decide +kernel
  have := List.all_eq_true.mp this t h
  rw [e] at this
  simp only [Bool.and_eq_true, Bool.not_eq_true', decide_eq_false_iff_not] at this
  exact ⟨this.1.1.1.1.1, this.1.1.1.1.2, this.1.1.1.2, this.1.1.2, this.1.2, this.2⟩
theorem letC_ne {c : Nat} (h : letC c = true) : c ≠ 62 ∧ c ≠ 61 ∧ c ≠ 10 ∧ c ≠ 32 ∧ isDg c = false ∧ wordC c = true := by
  refine ⟨?_, ?_, ?_, ?_, ?_, by unfold wordC; rw [h]; rfl⟩
  · rintro rfl; exact absurd h (by decide)
  · rintro rfl; exact absurd h (by decide)
  · rintro rfl; exact absurd h (by decide)
  · rintro rfl; exact absurd h (by decide)
  · unfold letC isSm isCap at h; unfold isDg
    simp only [Bool.or_eq_true, Bool.and_eq_true, decide_eq_true_eq, Bool.and_eq_false_iff, decide_eq_false_iff_not] at *; omega
theorem isDg_ne {c : Nat} (h : isDg c = true) : c ≠ 62 ∧ c ≠ 61 ∧ c ≠ 10 ∧ c ≠ 32 ∧ letC c = false ∧ wordC c = true := by
  refine ⟨?_, ?_, ?_, ?_, by unfold letC; rw [(dg_not h).1, (dg_not h).2]; rfl, by unfold wordC; rw [h]; simp⟩
  · rintro rfl; exact absurd h (by decide)
  · rintro rfl; exact absurd h (by decide)
  · rintro rfl; exact absurd h (by decide)
  · rintro rfl; exact absurd h (by decide)
theorem TokOk.head {t : Str} (h : TokOk t) : ∃ c w, t.cps.toList = c :: w ∧ headN t = some c ∧ c ≠ 10 ∧ c ≠ 32 ∧ c ≠ 62 := by
  have key : ∀ c, headN t = some c → c ≠ 10 → c ≠ 32 → c ≠ 62 → ∃ c w, t.cps.toList = c :: w ∧ headN t = some c ∧ c ≠ 10 ∧ c ≠ 32 ∧ c ≠ 62 := by
    intro c e a b d
    unfold headN at e
    cases hl : t.cps.toList with
    | nil => rw [hl] at e; cases e
    | cons x w => rw [hl] at e; cases e; exact ⟨c, w, rfl, by unfold headN; rw [hl]; rfl, a, b, d⟩
  rcases h with ⟨c, e, hc, _⟩ | ⟨h0, ha⟩ | hs
  · exact key c e (letC_ne hc).2.2.1 (letC_ne hc).2.2.2.1 (letC_ne hc).1
  · obtain ⟨c, hc, e⟩ := head_get h0
    have : isDg c = true := by
      unfold headN at e
      exact List.all_eq_true.mp ha c (List.mem_of_mem_head? e)
    exact key c e (isDg_ne this).2.2.1 (isDg_ne this).2.2.2.1 (isDg_ne this).1
  · cases e : headN t with
    | none =>
      have : signS.all (fun w => (headN w).isSome) = true := by decide +kernel
      have := List.all_eq_true.mp this t hs
      rw [e] at this; cases this
    | some c => rw [← e]; obtain ⟨a1, a2, a3, a4, a5, a6⟩ := sign_head hs e; exact key c e a4 a5 a3
/-- what may stand behind a token with nothing between -/
def NextOk (t : Str) (cs : List Nat) : Prop := ∀ y, cs.head? = some y → y = 32 ∨ y = 10 ∨ y ≠ 62 ∧ (t = "=" → y ≠ 61) ∧ ∀ x h, lastN t = some x → headN t = some h → wordC x = false ∨ wordC y = false ∨ isDg h = true ∧ letC y = true
theorem last_all {t : Str} {p : Nat → Bool} (h : t.cps.toList ≠ []) (ha : t.cps.toList.all p = true) : ∃ x, lastN t = some x ∧ p x = true :=
  ⟨t.cps.toList.getLast h, List.getLast?_eq_some_getLast h, List.all_eq_true.mp ha _ (List.getLast_mem h)⟩
theorem sign_forms {t : Str} (h : t ∈ signS) : t.cps.toList = [45, 62] ∨ t.cps.toList = [61, 61] ∨ ∃ c, t.cps.toList = [c] ∧ letC c = false ∧ isDg c = false := by
  have : signS.all (fun w => decide (w.cps.toList = [45, 62]) || decide (w.cps.toList = [61, 61]) || (match w.cps.toList with | [c] => !letC c && !isDg c | _ => false)) = true := by decide +kernel
  have := List.all_eq_true.mp this t h
  rw [Bool.or_eq_true, Bool.or_eq_true, decide_eq_true_eq, decide_eq_true_eq] at this
  rcases this with (a | a) | a
  · exact .inl a
  · exact .inr (.inl a)
  · right; right
    split at a
    · rename_i c e
      rw [Bool.and_eq_true, Bool.not_eq_true', Bool.not_eq_true'] at a
      exact ⟨c, e, a⟩
    · cases a
theorem tokLen_of {t : Str} {cs : List Nat} (h : TokOk t) (n : NextOk t cs) : tokLen (t.cps.toList ++ cs) = t.cps.toList.length := by
  obtain ⟨c, w, e, eh, n1, n2, n3⟩ := h.head
  have hne : t.cps.toList ≠ [] := by rw [e]; simp
  rcases h with ⟨c', e', hc, ha⟩ | ⟨h0, ha⟩ | hs
  · rw [eh] at e'; cases e'
    obtain ⟨x, hx, hw⟩ := last_all hne ha
    rw [e] at ha ⊢
    unfold tokLen
    rw [List.cons_append]
    dsimp only
    rw [if_pos hc, ← List.cons_append, takeW ha]
    intro y hy
    rcases n y hy with rfl | rfl | ⟨_, _, n4⟩
    · rfl
    · rfl
    · rcases n4 x c hx eh with h | h | h
      · rw [hw] at h; cases h
      · exact h
      · rw [(letC_ne hc).2.2.2.2.1] at h; exact absurd h.1 (by decide)
  · have hc : isDg c = true := List.all_eq_true.mp ha c (by rw [e]; exact List.mem_cons_self)
    obtain ⟨x, hx, hw⟩ := last_all hne ha
    rw [e] at ha ⊢
    unfold tokLen
    rw [List.cons_append]
    dsimp only
    rw [if_neg (by rw [(isDg_ne hc).2.2.2.2.1]; decide), if_pos hc, ← List.cons_append, takeW ha]
    intro y hy
    rcases n y hy with rfl | rfl | ⟨_, _, n4⟩
    · rfl
    · rfl
    · rcases n4 x c hx eh with h | h | h
      · rw [(isDg_ne hw).2.2.2.2.2] at h; cases h
      · cases hd : isDg y with
        | false => rfl
        | true => rw [(isDg_ne hd).2.2.2.2.2] at h; cases h
      · exact (letC_ne h.2).2.2.2.2.1
  · rcases sign_forms hs with a | a | ⟨c2, a, b1, b2⟩
    · rw [a]
      unfold tokLen
      show (if letC 45 = true then _ else if isDg 45 = true then _ else if (45 :: 62 :: cs).take 2 = [45, 62] ∨ _ then 2 else 1) = 2
      rw [if_neg (by decide), if_neg (by decide), if_pos (.inl rfl)]
    · rw [a]
      unfold tokLen
      show (if letC 61 = true then _ else if isDg 61 = true then _ else if _ ∨ (61 :: 61 :: cs).take 2 = [61, 61] then 2 else 1) = 2
      rw [if_neg (by decide), if_neg (by decide), if_pos (.inr rfl)]
    · rw [a]
      unfold tokLen
      rw [List.singleton_append]
      dsimp only
      rw [if_neg (by rw [b1]; decide), if_neg (by rw [b2]; decide), if_neg]
      · rfl
      · cases cs with
        | nil => rintro (h | h) <;> cases h
        | cons y cs =>
          have hn := n y rfl
          rintro (h | h)
          · have : y = 62 := by cases h; rfl
            subst this
            rcases hn with h | h | h
            · cases h
            · cases h
            · exact h.1 rfl
          · have hy : y = 61 := by cases h; rfl
            have hc : c2 = 61 := by cases h; rfl
            subst hy hc
            have ht : t = "=" := by
              have e1 : ("=" : Str).cps.toList = [61] := by decide +kernel
              rw [str_ext a, ← str_ext e1]
            rcases hn with h | h | h
            · cases h
            · cases h
            · exact h.2.1 ht rfl
theorem Spc.next {b : Str} {ts : List Str} {cs : List Nat} (s : Spc b ts cs) (hb : TokOk b) (ht : ∀ t ∈ ts, TokOk t) (ha : Adj (b :: ts)) : NextOk b cs := by
  intro y hy
  cases s with
  | @nil _ g g0 =>
    have : y ∈ g.cps.toList := List.mem_of_mem_head? hy
    rcases g0.bl y this with h | h
    · exact .inl h
    · exact .inr (.inl h)
  | @cons _ t g ts cs g0 s =>
    cases hg : g.cps.toList with
    | cons x r =>
      rw [hg] at hy
      cases hy
      rcases g0.bl y (by rw [hg]; exact List.mem_cons_self) with h | h
      · exact .inl h
      · exact .inr (.inl h)
    | nil =>
      obtain ⟨c, w, e, eh, n1, n2, n3⟩ := (ht t List.mem_cons_self).head
      rw [hg, e] at hy
      cases hy
      refine .inr (.inr ⟨n3, fun hq hy => ?_, fun x h hx hh => g0.no hg x y h hx eh hh⟩)
      subst hy
      exact ha.1 hq eh
theorem Spc.lex {b : Str} {ts : List Str} {cs : List Nat} (s : Spc b ts cs) : (∀ t ∈ ts, TokOk t ∧ t.length ≤ 1000) → Adj ts → ∀ r c, ∃ T, Lex cs r c T ∧ T.map Tk.p = ts.map lab ++ endP := by
  induction s with
  | @nil b g g0 =>
    intro _ _ r c
    have := Lex.blanks (cs := []) (T := []) (fun T => T.map Tk.p = endP) (fun r c => ⟨_, .fin, rfl⟩) g.cps.toList g0.bl r c
    rw [List.append_nil] at this
    exact this
  | @cons b t g ts cs g0 s ih =>
    intro ht ha r c
    have hto := ht t List.mem_cons_self
    have hn : NextOk t cs := s.next hto.1 (fun u hu => (ht u (List.mem_cons_of_mem _ hu)).1) ha
    have ha2 : Adj ts := by
      cases ts with
      | nil => trivial
      | cons u us => exact ha.2
    have hl := tokLen_of hto.1 hn
    obtain ⟨x, w, e, eh, n1, n2, n3⟩ := hto.1.head
    have hlen : t.cps.toList.length = t.length := Array.length_toList
    refine Lex.blanks (T := []) (fun T => T.map Tk.p = (t :: ts).map lab ++ endP) (fun r c => ?_) g.cps.toList g0.bl r c
    obtain ⟨T, hT, eT⟩ := ih (fun u hu => ht u (List.mem_cons_of_mem _ hu)) ha2 r (c + (w.length + 1 : Nat))
    rw [e] at hl hlen
    refine ⟨⟨labP t, t, r, c⟩ :: T, ?_, ?_⟩
    · rw [e, List.cons_append]
      have := Lex.tok (r := r) (c := c) (w := w) n1 n2 hl (by rw [List.length_cons] at hlen; have := hto.2; omega) hT
      rw [← str_ext e] at this
      exact this
    · rw [List.map_cons, eT]
      rfl

/-! ### the law's fields and functions -/
def sp_law_fields : DSp := fun ds m P _ => ∃ st ns s, ∃ r : Int, ds = [.ref st, .rol (List.map D.int ns), .int r] ∧ m st = some (S4.D s) ∧ s.Ok ∧ 0 ≤ r ∧ r ≤ 7 ∧
  ∀ fs s', FOk fs → fs.length = r.toNat → S4.Ok s' → s'.d = s.d → P (fldsD fs) (put m st s'.D)
theorem use_fields {st : Addr} {ns : List Int} {a bb c d : Int} {m : M} {P : DK} {r : Int} (h : m st = some (.lst [.int a, .int bb, .int c, .int d])) (o : S4.Ok ⟨a, bb, c, d⟩) (h1 : 0 ≤ r) (h2 : r ≤ 7)
    (q : ∀ fs s', FOk fs → fs.length = r.toNat → S4.Ok s' → s'.d = d → P (fldsD fs) (put m st s'.D)) : sp_law_fields [.ref st, .rol (List.map D.int ns), .int r] m P noX := ⟨st, ns, ⟨a, bb, c, d⟩, r, rfl, h, o, h1, h2, q⟩
theorem rd_fields : ∀ ds m P EX, sp_law_fields ds m P EX → Go P (b_law_fields (sp_law_tree_kind 9) sp_law_name) (dstart ["state", "script", "many", "fields", "k"] ds) m := by
  rintro ds m P EX ⟨st, ns, s, r, rfl, hs, ho, h1, h2, q⟩
  show b_law_fields (sp_law_tree_kind 9) sp_law_name { nx := fun _ m' => Ret P .non m', rt := Ret P } [some (.ref st), some (.rol (List.map D.int ns)), some (.int r), none, none] m
  unfold b_law_fields
  lcg_off
  refine s_seq ?_
  lcg_off
  rename_i p hp
  have hne : p ≠ st := fun e => by subst e; rw [hs] at hp; cases hp
  refine ⟨⟨by omega, by omega⟩, fun i sd m' => ∃ (fs : List (Str × Kd)) (kk : Option D) (s' : S4), sd = [some (.ref st), some (.rol (List.map D.int ns)), some (.int r), some (.ref p), kk] ∧ m' = put (put m p (.lst (fs.map fldD))) st s'.D ∧ s'.Ok ∧ s'.d = s.d ∧ fs.length = i ∧ ∀ p ∈ fs, SmOk p.1 ∧ WT 3 p.2,
    ⟨[], _, s, rfl, by rw [put_comm ‹p ≠ st›, put_self hs]; rfl, ho, rfl, rfl, fun _ h => by simp at h⟩, ?_, ?_⟩
  · rintro i _ _ hi ⟨fs, kk, s3, rfl, rfl, o3, g3, hl, hk⟩
    lcg_off
    rename_i z s4 hz o4 d4 k s5 hk5 o5 d5
    refine ⟨_, Less.refl _, fs ++ [(z, k)], _, s5, rfl, ?_, o5, by omega, by simp [hl], ?_⟩
    · simp only [List.map_append, List.map_cons, List.map_nil]
      rfl
    · intro x hx
      rcases List.mem_append.mp hx with h | h
      · exact hk x h
      · rw [List.mem_singleton] at h; subst h
        exact ⟨hz, hk5⟩
  · rintro _ _ ⟨fs, kk, s3, rfl, rfl, o3, g3, hl, hk⟩
    lcg_off
    refine ⟨put m st s3.D, ?_, q fs s3 ⟨by omega, hk⟩ hl o3 g3⟩
    one_item
local macro_rules | `(tactic| lcg_sub) => `(tactic| ((with_reducible refine' use_fields ?h1 ?h2 ?h3 ?h4 ?h5); (case h1 => lcg_src); (case h2 => first | assumption | exact S4.Ok.d (by assumption) _); (case h3 => omega); (case h4 => omega); intro _ _ _ _ _ _; try simp only [put_put]))
def sp_law_function : DSp := fun ds m P _ => ∃ st ns s b, ds = [.ref st, .rol (List.map D.int ns), b] ∧ m st = some (S4.D s) ∧ s.Ok ∧
  ∀ z fs k ws s', SmOk z → FOk fs → WT 9 k → List.length ws ≤ 6 → (∀ w ∈ ws, SmOk w) → S4.Ok s' → s'.d = s.d → P (.tup [.str z, fldsD fs, Kd.D k, .tup (List.map D.str ws), b]) (put m st s'.D)
theorem use_function {st : Addr} {ns : List Int} {a bb c d : Int} {m : M} {P : DK} {b : D} (h : m st = some (.lst [.int a, .int bb, .int c, .int d])) (o : S4.Ok ⟨a, bb, c, d⟩)
    (q : ∀ z fs k ws s', SmOk z → FOk fs → WT 9 k → List.length ws ≤ 6 → (∀ w ∈ ws, SmOk w) → S4.Ok s' → s'.d = d → P (.tup [.str z, fldsD fs, Kd.D k, .tup (List.map D.str ws), b]) (put m st s'.D)) : sp_law_function [.ref st, .rol (List.map D.int ns), b] m P noX := ⟨st, ns, ⟨a, bb, c, d⟩, b, rfl, h, o, q⟩
theorem rd_function : ∀ ds m P EX, sp_law_function ds m P EX → Go P (b_law_function sp_law_name sp_law_fields sp_law_pick (sp_law_tree_kind 9)) (dstart ["state", "script", "block", "name", "fields", "result", "sources", "k"] ds) m := by
  rintro ds m P EX ⟨st, ns, s, b, rfl, hs, ho, q⟩
  show b_law_function sp_law_name sp_law_fields sp_law_pick (sp_law_tree_kind 9) { nx := fun _ m' => Ret P .non m', rt := Ret P } [some (.ref st), some (.rol (List.map D.int ns)), some b, none, none, none, none, none] m
  unfold b_law_function
  lcg_off
  rename_i z s1 hz o1 d1 nf s2 f0 f1 o2 d2 fs s3 hfs hfl o3 d3 pl _ _ t s4 t0 t1 o4 d4
  have : ∃ e : Int, atI ([.int 3, .int 3, .int 3, .int 9] : List D) t = some (.int e) ∧ (e = 3 ∨ e = 9) := by
    have : t = 0 ∨ t = 1 ∨ t = 2 ∨ t = 3 := by omega
    rcases this with rfl | rfl | rfl | rfl
    · exact ⟨3, rfl, .inl rfl⟩
    · exact ⟨3, rfl, .inl rfl⟩
    · exact ⟨3, rfl, .inl rfl⟩
    · exact ⟨9, rfl, .inr rfl⟩
  obtain ⟨e, he, he2⟩ := this
  refine r_ixL (by lcg_src) he ?_
  lcg_off
  rename_i k s5 hk o5 d5 pr hr1 hr2 hr3 hr4
  refine s_seq ?_
  lcg_off
  rename_i t2 s6 t20 t21 o6 d6
  have hk9 : WT 9 k := hk.mono (by omega)
  refine ⟨⟨by omega, by omega⟩, fun i sd m' => ∃ (ws : List Str) (kk : Option D) (s' : S4), sd = [some (.ref st), some (.rol (List.map D.int ns)), some b, some (.str z), some (fldsD fs), some k.D, some (.ref pr), kk] ∧ m' = put (put (put m pl (.lst [.int 3, .int 3, .int 3, .int 9])) pr (.lst (ws.map D.str))) st s'.D ∧ s'.Ok ∧ s'.d = s.d ∧ ws.length = i ∧ ∀ w ∈ ws, SmOk w,
    ⟨[], _, s6, rfl, ?_, o6, by omega, rfl, fun _ h => by simp at h⟩, ?_, ?_⟩
  · funext x
    simp only [put, List.map_nil]
    grind
  · rintro i _ _ hi ⟨ws, kk, s7, rfl, rfl, o7, g7, hl, hk⟩
    lcg_off
    rename_i w s8 hw o8 d8
    refine ⟨_, Less.refl _, ws ++ [w], _, s8, rfl, ?_, o8, by omega, by simp [hl], ?_⟩
    · simp only [List.map_append, List.map_cons, List.map_nil]
    · intro x hx
      rcases List.mem_append.mp hx with h | h
      · exact hk x h
      · rw [List.mem_singleton] at h; subst h
        exact hw
  · rintro _ _ ⟨ws, kk, s7, rfl, rfl, o7, g7, hl, hk⟩
    lcg_off
    refine ⟨put m st s7.D, ?_, q z fs k ws s7 hz hfs hk9 (by omega) hk o7 g7⟩
    one_item

/-! ### the law's spaces -/
theorem cut_last {z : Str} {c : Nat} (h : lastN z = some c) : cutS z (some (-1)) none = ⟨#[c]⟩ := by
  have e : (cutS z (some (-1)) none).cps.toList = (z.cps.toList.drop (HT.sIx z.length 0 (some (-1)))).take (HT.sIx z.length z.length none - HT.sIx z.length 0 (some (-1))) := rfl
  have hl : z.cps.toList.length = z.length := Array.length_toList
  have h0 : 0 < z.length := by
    rw [← hl]
    cases hz : z.cps.toList with
    | nil => unfold lastN at h; rw [hz] at h; cases h
    | cons a b => simp
  have e1 : HT.sIx z.length 0 (some (-1)) = z.length - 1 := by
    show (if (-1 : Int) < 0 then ((-1 : Int) + (z.length : Int)).toNat else min (-1 : Int).toNat z.length) = _
    rw [if_pos (by decide)]; omega
  rw [e1, HT.sIx_none] at e
  have e2 : z.cps.toList.drop (z.length - 1) = [c] := by
    unfold lastN at h
    rw [List.getLast?_eq_getElem?, hl] at h
    obtain ⟨hlt, hc⟩ := List.getElem?_eq_some_iff.mp h
    rw [List.drop_eq_getElem_cons hlt, hc, List.drop_eq_nil_of_le (by omega)]
  rw [e2, List.take_of_length_le (by simp; omega)] at e
  exact str_ext e
theorem cut_head {z : Str} {c : Nat} (h : headN z = some c) : cutS z none (some 1) = ⟨#[c]⟩ := by
  have e : (cutS z none (some 1)).cps.toList = (z.cps.toList.drop (HT.sIx z.length 0 none)).take (HT.sIx z.length z.length (some ((1 : Nat) : Int)) - HT.sIx z.length 0 none) := rfl
  have hl : z.cps.toList.length = z.length := Array.length_toList
  rw [HT.sIx_none, HT.sIx_nat, List.drop_zero] at e
  cases hz : z.cps.toList with
  | nil => unfold headN at h; rw [hz] at h; cases h
  | cons a b =>
    unfold headN at h
    rw [hz] at h
    cases h
    rw [hz] at e hl
    rw [List.length_cons] at hl
    rw [show min 1 z.length - 0 = 1 by omega] at e
    exact str_ext e
abbrev chS : Str := "abcdefghijklmnopqrstuvwxyzABCDEFGHIJKLMNOPQRSTUVWXYZ0123456789_"
theorem chS_is : chS = smS ++ cpS ++ dgS ++ "_" := by decide +kernel
theorem mem_ch (c : Nat) : decide (c ∈ chS.cps.toList) = wordC c := by rw [chS_is, mem_word]
theorem cut_dg : cutS chS (some 52) (some 62) = dgS := by decide +kernel
theorem cut_lt : cutS chS none (some 52) = smS ++ cpS := by decide +kernel
theorem r_ninP {c : Nat} {z : Str} {p : Nat → Bool} {m : M} {P : DK} (h : ∀ c, decide (c ∈ z.cps.toList) = p c) (q : P (.bl (!p c)) m) : rNotInD (.str ⟨#[c]⟩) (.str z) m P := .inr ⟨c, z, rfl, rfl, by rw [h]; exact q⟩
def sp_law_gap : DSp := fun ds m P _ => ∃ st ns s b t, ds = [.ref st, .rol (List.map D.int ns), .str b, .str t] ∧ m st = some (S4.D s) ∧ s.Ok ∧ (∃ x, lastN b = some x) ∧ (∃ y, headN b = some y) ∧ (∃ x, headN t = some x) ∧ b.length ≤ 100000 ∧ t.length ≤ 100000 ∧
  ∀ g s', GapOk b t g → S4.Ok s' → s'.d = s.d → P (.str g) (put m st s'.D)
theorem use_gap {st : Addr} {ns : List Int} {a bb c d : Int} {m : M} {P : DK} {b t : Str} (h : m st = some (.lst [.int a, .int bb, .int c, .int d])) (o : S4.Ok ⟨a, bb, c, d⟩) (h1 : ∃ x, lastN b = some x) (h2 : ∃ x, headN b = some x) (h3 : ∃ x, headN t = some x) (h4 : b.length ≤ 100000) (h5 : t.length ≤ 100000)
    (q : ∀ g s', GapOk b t g → S4.Ok s' → s'.d = d → P (.str g) (put m st s'.D)) : sp_law_gap [.ref st, .rol (List.map D.int ns), .str b, .str t] m P noX := ⟨st, ns, ⟨a, bb, c, d⟩, b, t, rfl, h, o, h1, h2, h3, h4, h5, q⟩
theorem gap_some {b t g : Str} (h : g ∈ ([" ", "  ", "\n", " \n\n "] : List Str)) : GapOk b t g := by
  have : ([" ", "  ", "\n", " \n\n "] : List Str).all (fun g => g.cps.toList.all (fun c => decide (c = 32) || decide (c = 10)) && decide (g.length ≤ 4) && !decide (g.cps.toList = [])) = true := by decide +kernel
  have := List.all_eq_true.mp this g h
  rw [Bool.and_eq_true, Bool.and_eq_true, Bool.not_eq_true', decide_eq_false_iff_not, decide_eq_true_eq] at this
  refine ⟨fun c hc => ?_, this.1.2, fun e => absurd e this.2⟩
  have := List.all_eq_true.mp this.1.1 c hc
  rw [Bool.or_eq_true, decide_eq_true_eq, decide_eq_true_eq] at this
  exact this
theorem gap_none {b t : Str} {x y h : Nat} (h1 : lastN b = some x) (h2 : headN t = some y) (h3 : headN b = some h) (q : wordC x = false ∨ wordC y = false ∨ isDg h = true ∧ letC y = true) : GapOk b t "" := by
  have e0 : ("" : Str).cps.toList = [] := by decide +kernel
  refine ⟨fun c hc => ?_, by decide +kernel, fun _ x' y' h' e1 e2 e3 => ?_⟩
  · rw [e0] at hc; cases hc
  · rw [h1] at e1; rw [h2] at e2; rw [h3] at e3; cases e1; cases e2; cases e3; exact q
theorem rd_gap : ∀ ds m P EX, sp_law_gap ds m P EX → Go P (b_law_gap sp_law_pick) (dstart ["state", "script", "before", "token", "chars", "gap"] ds) m := by
  rintro ds m P EX ⟨st, ns, s, b, t, rfl, hs, ho, ⟨x, hx⟩, ⟨h, hh⟩, ⟨y, hy⟩, hbl, htl, q⟩
  show b_law_gap _ { nx := fun _ m' => Ret P .non m', rt := Ret P } [some (.ref st), some (.rol (List.map D.int ns)), some (.str b), some (.str t), none, none] m
  unfold b_law_gap
  have hsz := PySem.sizeLine_eq
  have hcl : (chS : Str).length ≤ 100 := by decide +kernel
  lcg_off
  rename_i pl _ r s1 r0 r1 o1 d1
  have cases6 : r = 0 ∨ r = 1 ∨ r = 2 ∨ r = 3 ∨ r = 4 ∨ r = 5 := by omega
  have hr : ∃ g : Str, atI ([.str "", .str "", .str " ", .str "  ", .str "\n", .str " \n\n "] : List D) r = some (.str g) ∧ (g = "" ∨ g ≠ "" ∧ g ∈ ([" ", "  ", "\n", " \n\n "] : List Str)) := by
    rcases cases6 with rfl | rfl | rfl | rfl | rfl | rfl
    · exact ⟨_, rfl, .inl rfl⟩
    · exact ⟨_, rfl, .inl rfl⟩
    all_goals exact ⟨_, rfl, .inr ⟨by decide +kernel, by decide +kernel⟩⟩
  obtain ⟨g, hg, hg2⟩ := hr
  refine r_ixL (by lcg_src) hg ?_
  have fin : ∀ g, GapOk b t g → Ret P (.str g) (put (put m pl (.lst [.str "", .str "", .str " ", .str "  ", .str "\n", .str " \n\n "])) st s1.D) := fun g hg => ⟨put m st s1.D, by one_item, q g s1 hg o1 d1⟩
  rcases hg2 with rfl | ⟨hne, hg2⟩
  · have k1 := cut_last hx
    have k2 := cut_head hy
    have k3 := cut_head hh
    top_strB
    rw [k1]
    refine r_ninP mem_ch ?_
    cases wx : wordC x
    · dsimp only
      top_strB
      exact fin "" (gap_none hx hy hh (.inl wx))
    dsimp only
    top_strB
    rw [k2]
    refine r_ninP mem_ch ?_
    cases wy : wordC y
    · dsimp only
      top_strB
      exact fin "" (gap_none hx hy hh (.inr (.inl wy)))
    dsimp only
    top_strB
    rw [k3, cut_dg]
    refine r_inP mem_dg ?_
    cases wd : isDg h
    · dsimp only
      top_strB
      exact fin " " (gap_some (by decide +kernel))
    dsimp only
    top_strB
    rw [k2, cut_lt]
    refine r_inP mem_let ?_
    cases wl : letC y
    · dsimp only
      top_strB
      exact fin " " (gap_some (by decide +kernel))
    · dsimp only
      top_strB
      exact fin "" (gap_none hx hy hh (.inr (.inr ⟨wd, wl⟩)))
  · top_strB
    all_goals first
      | exact fin g (gap_some hg2)
      | exact absurd (by assumption) hne

local macro_rules | `(tactic| lcg_sub) => `(tactic| ((with_reducible refine' use_gap ?y1 ?y2 ?y3 ?y4 ?y5 ?y6 ?y7 ?y8); (case y1 => lcg_src); (case y2 => first | assumption | exact S4.Ok.d (by assumption) _); (case y3 => assumption); (case y4 => assumption); (case y5 => assumption); (case y6 => omega); (case y7 => omega); intro _ _ _ _ _; try simp only [put_put]))
def lenB (ts : List Str) : Nat := (ts.map fun t => t.length + 4).sum
theorem lenB_take {ts : List Str} {i : Nat} {t : Str} (h : ts[i]? = some t) : lenB (ts.take (i + 1)) = lenB (ts.take i) + (t.length + 4) := by
  unfold lenB
  rw [List.take_add_one, h, List.map_append, List.sum_append]
  simp
theorem lenB_le (ts : List Str) (i : Nat) : lenB (ts.take i) ≤ lenB ts := by
  have : lenB (ts.take i ++ ts.drop i) = lenB (ts.take i) + lenB (ts.drop i) := by unfold lenB; rw [List.map_append, List.sum_append]
  rw [List.take_append_drop] at this
  omega
theorem lenB_len (ts : List Str) : ts.length ≤ lenB ts := by
  induction ts with
  | nil => exact Nat.le_refl _
  | cons t r ih => show r.length + 1 ≤ (t.length + 4) + lenB r; omega
theorem TokOk.last {t : Str} (h : TokOk t) : ∃ x, lastN t = some x := by
  obtain ⟨c, w, e, _⟩ := h.head
  have hne : t.cps.toList ≠ [] := by rw [e]; simp
  exact ⟨_, List.getLast?_eq_some_getLast hne⟩
theorem TokOk.hd {t : Str} (h : TokOk t) : ∃ x, headN t = some x := by
  obtain ⟨c, w, e, eh, _⟩ := h.head
  exact ⟨c, eh⟩
def sp_law_spaced : DSp := fun ds m P _ => ∃ st ns s a ts, ds = [.ref st, .rol (List.map D.int ns), .ref a, .int (-9)] ∧ m st = some (S4.D s) ∧ s.Ok ∧ m a = some (.lst (List.map D.str ts)) ∧ (∀ t ∈ ts, TokOk t ∧ t.length ≤ 22) ∧ lenB ts ≤ 15000000 ∧
  ∀ z s' x, Spc " " ts z.cps.toList → z.length ≤ 16000000 → S4.Ok s' → s'.d = s.d → P (.tup [.str z, x]) (put m st s'.D)
theorem spc_bl : (∃ x, lastN " " = some x) ∧ (∃ x, headN " " = some x) ∧ (" " : Str).length ≤ 22 := ⟨⟨32, by decide +kernel⟩, ⟨32, by decide +kernel⟩, by decide +kernel⟩
theorem rd_spaced : ∀ ds m P EX, sp_law_spaced ds m P EX → Go P (b_law_spaced sp_law_gap) (dstart ["state", "script", "tokens", "apart", "text", "line", "column", "places", "before", "k", "token", "gap", "char"] ds) m := by
  rintro ds m P EX ⟨st, ns, s, a, ts, rfl, hs, ho, ha, ht, hB, q⟩
  show b_law_spaced _ { nx := fun _ m' => Ret P .non m', rt := Ret P } [some (.ref st), some (.rol (List.map D.int ns)), some (.ref a), some (.int (-9)), none, none, none, none, none, none, none, none, none] m
  unfold b_law_spaced
  have hsz := PySem.sizeLine_eq
  have hlB := lenB_len ts
  have hne0 : st ≠ a := fun e => by
    subst e
    rw [hs] at ha
    cases ts with
    | nil => cases ha
    | cons t r => cases ha
  lcg_off
  rename_i pl hp
  have hpa : pl ≠ a := fun e => by subst e; rw [ha] at hp; cases hp
  have hps : pl ≠ st := fun e => by subst e; rw [hs] at hp; cases hp
  refine s_seq ?_
  lcg_off
  refine ⟨⟨by omega, by rw [List.length_map]; omega⟩, fun i sd m' => ∃ (z b : Str) (s' : S4) (L : List D) (l c : Int) (k9 k10 k11 k12 : Option D), sd = [some (.ref st), some (.rol (List.map D.int ns)), some (.ref a), some (.int (-9)), some (.str z), some (.int l), some (.int c), some (.ref pl), some (.str b), k9, k10, k11, k12] ∧ m' = put (put m pl (.lst L)) st s'.D ∧ L.length = i ∧ s'.Ok ∧ s'.d = s.d ∧
      (i ≤ ts.length ∧ SpL " " (ts.take i) b z.cps.toList ∧ z.length ≤ lenB (ts.take i) ∧ (∃ x, lastN b = some x) ∧ (∃ x, headN b = some x) ∧ b.length ≤ 22 ∨ i = ts.length + 1 ∧ Spc " " ts z.cps.toList ∧ z.length ≤ lenB ts + 4),
    ⟨"", " ", s, [], 1, 1, none, none, none, none, rfl, by rw [put_comm hps, put_self hs], rfl, ho, rfl, .inl ⟨Nat.zero_le _, .nil, Nat.zero_le _, spc_bl⟩⟩, ?_, ?_⟩
  · rintro i _ _ hi ⟨z, b, s1, L, l, c, k9, k10, k11, k12, rfl, rfl, hL, o1, d1, hW⟩
    have hi2 : i ≤ ts.length := by rw [List.length_map] at hi; omega
    obtain ⟨_, hS, hz, hb1, hb2, hb3⟩ : i ≤ ts.length ∧ SpL " " (ts.take i) b z.cps.toList ∧ z.length ≤ lenB (ts.take i) ∧ (∃ x, lastN b = some x) ∧ (∃ x, headN b = some x) ∧ b.length ≤ 22 := by
      rcases hW with h | ⟨h, _⟩
      · exact h
      · omega
    have hst : (put (put m pl (.lst L)) st s1.D) a = some (.lst (ts.map D.str)) := by rw [put_ne (Ne.symm hne0), put_ne (Ne.symm hpa)]; exact ha
    have hzl := lenB_le ts i
    by_cases hlt : i < ts.length
    · obtain ⟨t, hti⟩ : ∃ t, ts[i]? = some t := ⟨_, List.getElem?_eq_getElem hlt⟩
      have hto := ht t (List.mem_of_getElem? hti)
      have hx : (ts.map D.str)[i]? = some (.str t) := by rw [List.getElem?_map, hti]; rfl
      have ht2 := hto.2
      have ht3 := hto.1.hd
      have hB2 := lenB_take hti
      have hB3 := lenB_le ts (i + 1)
      lcg_off
      refine s_cut (fun sd m' => sd = [some (.ref st), some (.rol (List.map D.int ns)), some (.ref a), some (.int (-9)), some (.str z), some (.int l), some (.int c), some (.ref pl), some (.str b), some (.int (i : Int)), some (.str t), k11, k12] ∧ m' = put (put m pl (.lst L)) st s1.D) ?_ ?_
      · lcg_off
        · exact ⟨_, Less.refl _, rfl, rfl⟩
        · simp only [List.length_map] at *; omega
      rintro _ _ ⟨rfl, rfl⟩
      lcg_off
      rename_i g s2 hg o2 d2
      refine s_cut (fun sd m' => sd = [some (.ref st), some (.rol (List.map D.int ns)), some (.ref a), some (.int (-9)), some (.str z), some (.int l), some (.int c), some (.ref pl), some (.str b), some (.int (i : Int)), some (.str t), some (.str g), k12] ∧ m' = put (put m pl (.lst L)) st s2.D) ?_ ?_
      · lcg_off
        all_goals first
          | (exfalso; omega)
          | exact ⟨_, Less.refl _, rfl, rfl⟩
      rintro _ _ ⟨rfl, rfl⟩
      refine s_cut (fun sd m' => ∃ l c k12, sd = [some (.ref st), some (.rol (List.map D.int ns)), some (.ref a), some (.int (-9)), some (.str z), some (.int l), some (.int c), some (.ref pl), some (.str b), some (.int (i : Int)), some (.str t), some (.str g), k12] ∧ m' = put (put m pl (.lst L)) st s2.D) ?_ ?_
      · lcg_off
        refine ⟨fun j sd m' => ∃ l c k12, sd = [some (.ref st), some (.rol (List.map D.int ns)), some (.ref a), some (.int (-9)), some (.str z), some (.int l), some (.int c), some (.ref pl), some (.str b), some (.int (i : Int)), some (.str t), some (.str g), k12] ∧ m' = put (put m pl (.lst L)) st s2.D, ⟨_, _, _, rfl, rfl⟩, ?_, ?_⟩
        · rintro j x _ _ hx ⟨l, c, k12, rfl, rfl⟩
          obtain ⟨ch, _, _, rfl⟩ := getMap hx
          lcg_off
          all_goals exact ⟨_, Less.refl _, _, _, _, rfl, rfl⟩
        · rintro _ _ ⟨l, c, k12, rfl, rfl⟩
          exact ⟨_, Less.refl _, _, _, _, rfl, rfl⟩
      rintro _ _ ⟨l2, c2, k12, rfl, rfl⟩
      have hg4 := hg.len
      have hz2 : (z ++ g).length = z.length + g.length := slen_app _ _
      have hz3 : (z ++ g ++ t).length = z.length + g.length + t.length := by rw [slen_app, slen_app]
      top_strB
      all_goals first
        | (simp only [List.length_map] at *; omega)
        | skip
      refine ⟨put (put m pl (.lst (L ++ [.tup [.int l2, .int c2]]))) st s2.D, by one_item, z ++ g ++ t, t, s2, L ++ [.tup [.int l2, .int c2]], _, _, _, _, _, _, rfl, rfl, by simp [hL], o2, by omega, .inl ⟨by omega, ?_, by omega, hto.1.last, ht3, ht2⟩⟩
      rw [List.take_add_one, hti]
      have := SpL.snoc hS hg
      rw [cps_app, cps_app]
      exact this
    · have hie : i = ts.length := by omega
      have e32 : (∃ x, headN " " = some x) := spc_bl.2.1
      have e33 := spc_bl.2.2
      lcg_off
      refine s_cut (fun sd m' => sd = [some (.ref st), some (.rol (List.map D.int ns)), some (.ref a), some (.int (-9)), some (.str z), some (.int l), some (.int c), some (.ref pl), some (.str b), some (.int (i : Int)), some (.str " "), k11, k12] ∧ m' = put (put m pl (.lst L)) st s1.D) ?_ ?_
      · lcg_off
        · exfalso; simp only [List.length_map] at *; omega
        · exact ⟨_, Less.refl _, rfl, rfl⟩
      rintro _ _ ⟨rfl, rfl⟩
      lcg_off
      rename_i g s2 hg o2 d2
      refine s_cut (fun sd m' => sd = [some (.ref st), some (.rol (List.map D.int ns)), some (.ref a), some (.int (-9)), some (.str z), some (.int l), some (.int c), some (.ref pl), some (.str b), some (.int (i : Int)), some (.str " "), some (.str g), k12] ∧ m' = put (put m pl (.lst L)) st s2.D) ?_ ?_
      · lcg_off
        all_goals first
          | (exfalso; omega)
          | exact ⟨_, Less.refl _, rfl, rfl⟩
      rintro _ _ ⟨rfl, rfl⟩
      refine s_cut (fun sd m' => ∃ l c k12, sd = [some (.ref st), some (.rol (List.map D.int ns)), some (.ref a), some (.int (-9)), some (.str z), some (.int l), some (.int c), some (.ref pl), some (.str b), some (.int (i : Int)), some (.str " "), some (.str g), k12] ∧ m' = put (put m pl (.lst L)) st s2.D) ?_ ?_
      · lcg_off
        refine ⟨fun j sd m' => ∃ l c k12, sd = [some (.ref st), some (.rol (List.map D.int ns)), some (.ref a), some (.int (-9)), some (.str z), some (.int l), some (.int c), some (.ref pl), some (.str b), some (.int (i : Int)), some (.str " "), some (.str g), k12] ∧ m' = put (put m pl (.lst L)) st s2.D, ⟨_, _, _, rfl, rfl⟩, ?_, ?_⟩
        · rintro j x _ _ hx ⟨l, c, k12, rfl, rfl⟩
          obtain ⟨ch, _, _, rfl⟩ := getMap hx
          lcg_off
          all_goals exact ⟨_, Less.refl _, _, _, _, rfl, rfl⟩
        · rintro _ _ ⟨l, c, k12, rfl, rfl⟩
          exact ⟨_, Less.refl _, _, _, _, rfl, rfl⟩
      rintro _ _ ⟨l2, c2, k12, rfl, rfl⟩
      have hg4 := hg.len
      have hz2 : (z ++ g).length = z.length + g.length := slen_app _ _
      top_strB
      all_goals first
        | (exfalso; simp only [List.length_map] at *; omega)
        | skip
      refine ⟨put (put m pl (.lst (L ++ [.tup [.int l2, .int c2]]))) st s2.D, by one_item, z ++ g, " ", s2, L ++ [.tup [.int l2, .int c2]], _, _, _, _, _, _, rfl, rfl, by simp [hL], o2, by omega, .inr ⟨by omega, ?_, by omega⟩⟩
      rw [hie, List.take_length] at hS
      have := hS.spc (.nil hg)
      rw [List.append_nil] at this
      rw [cps_app]
      exact this
  · rintro _ _ ⟨z, b, s1, L, l, c, k9, k10, k11, k12, rfl, rfl, hL, o1, d1, hW⟩
    rw [List.length_map] at hW
    rcases hW with ⟨h, _⟩ | ⟨_, hS, hz⟩
    · omega
    · lcg_off
      exact ⟨put m st s1.D, by one_item, q z s1 _ hS (by omega) o1 d1⟩

/-! ### memories that grow -/
theorem less_put {m m' : M} {a : Addr} {o : DO} (l : Less m m') (n : m a = none) : Less m (put m' a o) := fun x u h => by
  rw [put_ne (fun e => by subst e; rw [n] at h; cases h)]
  exact l x u h
theorem Less.free {m m' : M} {a : Addr} (l : Less m m') (n : m' a = none) : m a = none := by
  cases e : m a with
  | none => rfl
  | some o => have := l a o e; rw [n] at this; cases this
theorem RowsAt.more1 {m1 : M} {p z : Addr} {rs : List ((Nat × List Str) × Addr)} {d : Nat} {ts : List Str} {o : DO} (R : RowsAt m1 p rs) (hz : m1 z = none) (ho : o = .lst (ts.map D.str)) :
    RowsAt (put (put m1 z o) p (.lst (rs.map rowD ++ [.tup [.int d, .ref z]]))) p (rs ++ [((d, ts), z)]) := by
  subst ho
  exact (R.new hz).snoc (R.fresh hz).1 put_same

/-! ### the rows of a program -/
def recRows (rcs : List Rc) : List (Nat × List Str) := rcs.map fun r => (0, r.row)
def fnRows (fns : List Fn) : List (Nat × List Str) := (fns.map Fn.rows).flatten
local macro_rules | `(tactic| lcg_sub) => `(tactic| (with_reducible refine' use_brows ?h1 ?h2; (case h1 => assumption)))
def sp_law_program_rows : DSp := fun ds m P _ => ∃ rcs fns, ds = [.tup [.tup (List.map Rc.D rcs), .tup (List.map Fn.D fns)]] ∧ rcs.length ≤ 3 ∧ fns.length ≤ 3 ∧ (∀ r ∈ rcs, Rc.Ok r) ∧ (∀ f ∈ fns, Fn.Ok f) ∧
  ∀ p rs m', m p = none → (∀ q ∈ rs, m q.2 = none) → Less m m' → RowsAt m' p rs → rs.map (·.1) = recRows rcs ++ fnRows fns → P (.ref p) m'
theorem take_map_rows {i : Nat} {r : Rc} {rcs : List Rc} (h : rcs[i]? = some r) : recRows (rcs.take (i + 1)) = recRows (rcs.take i) ++ [(0, r.row)] := by
  unfold recRows
  rw [List.take_add_one, h, List.map_append]
  rfl
theorem take_fn_rows {i : Nat} {f : Fn} {fns : List Fn} (h : fns[i]? = some f) : fnRows (fns.take (i + 1)) = fnRows (fns.take i) ++ f.rows := by
  unfold fnRows
  rw [List.take_add_one, h, List.map_append, List.flatten_append]
  simp
theorem BkOk.len {b : Bk} (h : BkOk b) : b.rows.length ≤ 2000000 := by
  have a := h.w
  have c := rowsW_len (b.rows.map inR)
  rw [List.length_map] at c
  omega
theorem fnRows_len {fns : List Fn} (h : ∀ f ∈ fns, Fn.Ok f) : (fnRows fns).length ≤ fns.length * 2000002 := by
  unfold fnRows
  rw [List.length_flatten, List.map_map]
  refine sum_le fun f hf => ?_
  have := (h f hf).b.len
  show (Fn.rows f).length ≤ _
  unfold Fn.rows
  simp only [List.length_cons, List.length_append, List.length_map, List.length_nil]
  omega
theorem rd_prows : ∀ ds m P EX, sp_law_program_rows ds m P EX → Go P (b_law_program_rows sp_law_field_row (sp_law_kind_row 9) sp_law_block_rows) (dstart ["program", "rows", "record", "tree", "head", "k"] ds) m := by
  rintro ds m P EX ⟨rcs, fns, rfl, hr3, hf3, hr, hf, q⟩
  show b_law_program_rows _ _ _ { nx := fun _ m' => Ret P .non m', rt := Ret P } [some (.tup [.tup (List.map Rc.D rcs), .tup (List.map Fn.D fns)]), none, none, none, none, none] m
  unfold b_law_program_rows
  lcg_off
  refine s_seq ?_
  lcg_off
  rename_i p hp
  refine ⟨fun i sd m' => ∃ kk rs, sd = [some (.tup [.tup (List.map Rc.D rcs), .tup (List.map Fn.D fns)]), some (.ref p), kk, none, none, none] ∧ Less m m' ∧ RowsAt m' p rs ∧ (∀ q ∈ rs, m q.2 = none) ∧ rs.map (·.1) = recRows (rcs.take i),
    ⟨_, [], rfl, Less.new hp, RowsAt.nil, (fun _ h => by cases h), rfl⟩, ?_, ?_⟩
  · rintro i x _ m1 hx ⟨kk, rs, rfl, l1, R, nn, er⟩
    obtain ⟨r, hri, rfl⟩ : ∃ r, rcs[i]? = some r ∧ x = .tup [.str r.z, fldsD r.fs] := by
      rw [List.getElem?_map] at hx
      cases e : rcs[i]? with
      | none => rw [e] at hx; cases hx
      | some r => rw [e] at hx; cases hx; exact ⟨r, rfl, rfl⟩
    have ok := hr r (List.mem_of_getElem? hri)
    have hF := ok.fs
    have hk1 := fldR_wt0 hF
    have hk2 := wt_len (fldR r.fs)
    have hsz := PySem.sizeLine_eq
    have hp1 := R.at_
    have hl3 : rs.length ≤ 3 := by
      have := congrArg List.length er
      unfold recRows at this
      simp only [List.length_map, List.length_take] at this
      omega
    lcg_off
    rename_i z _ _ _ _ hz
    refine ⟨put (put m1 z (.lst ((r.row).map D.str))) p (.lst (rs.map rowD ++ [.tup [.int 0, .ref z]])), ?_, _, rs ++ [((0, r.row), z)], rfl, ?_, R.more1 hz rfl, ?_, ?_⟩
    · simp only [Rc.row, List.map_append, List.map_cons, List.map_nil]
      one_item
    · exact less_put (less_put l1 (l1.free hz)) hp
    · intro y hy
      rcases List.mem_append.mp hy with hy | hy
      · exact nn y hy
      · rw [List.mem_singleton] at hy
        subst hy
        exact l1.free hz
    · rw [List.map_append, er, take_map_rows hri]
      rfl
  · rintro _ m1 ⟨kk, rs, rfl, l1, R, nn, er⟩
    rw [List.length_map, List.take_length] at er
    lcg_off
    refine s_seq ?_
    lcg_off
    refine ⟨fun i sd m' => ∃ kk k2 k3 k4 rs, sd = [some (.tup [.tup (List.map Rc.D rcs), .tup (List.map Fn.D fns)]), some (.ref p), kk, k2, k3, k4] ∧ Less m m' ∧ RowsAt m' p rs ∧ (∀ q ∈ rs, m q.2 = none) ∧ rs.map (·.1) = recRows rcs ++ fnRows (fns.take i),
      ⟨_, _, _, _, rs, rfl, l1, R, nn, by rw [er]; simp [fnRows]⟩, ?_, ?_⟩
    · rintro i x _ m2 hx ⟨kk, k2, k3, k4, rs, rfl, l2, R, nn, er⟩
      obtain ⟨f, hfi, rfl⟩ : ∃ f, fns[i]? = some f ∧ x = .tup [.str f.z, fldsD f.fs, f.k.D, .tup (f.ws.map D.str), f.b.d] := by
        rw [List.getElem?_map] at hx
        cases e : fns[i]? with
        | none => rw [e] at hx; cases hx
        | some r => rw [e] at hx; cases hx; exact ⟨r, rfl, rfl⟩
      have ok := hf f (List.mem_of_getElem? hfi)
      have hF := ok.fs
      have hW := ok.k
      have hk1 := fldR_wt0 hF
      have hk2 := wt_len (fldR f.fs)
      have hk3 := hW.size (by decide)
      have hsz := PySem.sizeLine_eq
      have hp1 := R.at_
      refine s_cut (fun sd m' => ∃ z, sd = [some (.tup [.tup (List.map Rc.D rcs), .tup (List.map Fn.D fns)]), some (.ref p), kk, some (.tup [.str f.z, fldsD f.fs, f.k.D, .tup (f.ws.map D.str), f.b.d]), some (.ref z), k4] ∧ m2 z = none ∧ m' = put m2 z (.lst (List.map D.str (f.head0)))) ?_ ?_
      · lcg_off
        rename_i z _ _ _ _ _ _ hz
        refine ⟨put m2 z (.lst (List.map D.str (f.head0))), ?_, z, rfl, hz, rfl⟩
        simp only [Fn.head0, List.map_append, List.map_cons, List.map_nil]
        one_item
      rintro _ _ ⟨z, rfl, hz, rfl⟩
      have hwl := ok.wl
      have hzp : z ≠ p := (R.fresh hz).1
      have hh0 := f.head0_len ok
      refine s_cut (fun sd m' => ∃ k4, sd = [some (.tup [.tup (List.map Rc.D rcs), .tup (List.map Fn.D fns)]), some (.ref p), kk, some (.tup [.str f.z, fldsD f.fs, f.k.D, .tup (f.ws.map D.str), f.b.d]), some (.ref z), k4] ∧ m' = put m2 z (.lst (List.map D.str (f.head0 ++ srcR f.ws)))) ?_ ?_
      · lcg_off
        refine ⟨⟨by rw [List.length_map]; omega, by rw [List.length_map]; omega⟩, fun i sd m' => ∃ k4, sd = [some (.tup [.tup (List.map Rc.D rcs), .tup (List.map Fn.D fns)]), some (.ref p), kk, some (.tup [.str f.z, fldsD f.fs, f.k.D, .tup (f.ws.map D.str), f.b.d]), some (.ref z), k4] ∧ m' = put m2 z (.lst (List.map D.str (f.head0 ++ srcR (f.ws.take i)))), ⟨_, rfl, by rw [List.take_zero]; simp [srcR]⟩, ?_, ?_⟩
        · rintro i _ _ hi ⟨k4, rfl, rfl⟩
          have hlt : i < f.ws.length := by rw [List.length_map] at hi; omega
          have hki : f.ws[i]? = some f.ws[i] := List.getElem?_eq_getElem hlt
          have hx : (f.ws.map D.str)[i]? = some (.str f.ws[i]) := by rw [List.getElem?_map, hki]; rfl
          have hs := wt_len (srcR (f.ws.take i))
          have hs2 := srcR_wt ok.ws ok.wl i
          have et := rowsJ_take (f := fun w : Str => [w]) hki
          have ne1 : f.ws.take (i + 1) ≠ [] := by
            intro e
            have := congrArg List.length e
            rw [List.length_take, List.length_nil] at this
            omega
          by_cases h0 : i = 0
          · have e0 : (if decide ((0 : Int) < (i : Int)) = true then (1 : Int) else 0) = 0 := if_neg (by rw [decide_eq_true_eq]; omega)
            lcg_off
            rw [e0]
            refine r_ixL put_same (d := .str "from") rfl ?_
            lcg_off
            refine ⟨_, ?_, _, rfl, rfl⟩
            have e1 : srcR (f.ws.take (i + 1)) = [("from" : Str), f.ws[i]] := by
              rw [srcR, if_neg ne1, et, if_pos h0]
              rfl
            rw [e1]
            have e2 : srcR (f.ws.take i) = [] := by rw [h0, List.take_zero]; simp [srcR]
            rw [e2]
            simp only [List.map_append, List.map_cons, List.map_nil, List.append_nil]
            one_item
          · have e0 : (if decide ((0 : Int) < (i : Int)) = true then (1 : Int) else 0) = 1 := if_pos (by rw [decide_eq_true_eq]; omega)
            lcg_off
            rw [e0]
            refine r_ixL put_same (d := .str ",") rfl ?_
            lcg_off
            refine ⟨_, ?_, _, rfl, rfl⟩
            have ne2 : f.ws.take i ≠ [] := by
              intro e
              have := congrArg List.length e
              rw [List.length_take, List.length_nil] at this
              omega
            have e1 : srcR (f.ws.take (i + 1)) = srcR (f.ws.take i) ++ [(",": Str), f.ws[i]] := by
              rw [srcR, if_neg ne1, et, if_neg h0, srcR, if_neg ne2]
              simp
            rw [e1]
            simp only [List.map_append, List.map_cons, List.map_nil, List.append_assoc]
            one_item
        · rintro _ _ ⟨k4, rfl, rfl⟩
          rw [List.length_map, Int.toNat_natCast, List.take_length]
          exact ⟨_, Less.refl _, _, rfl, rfl⟩
      rintro _ _ ⟨k4, rfl, rfl⟩
      have hs3 : (srcR f.ws).length ≤ 200 := by
        have a := wt_len (srcR f.ws)
        have b := srcR_wt ok.ws ok.wl f.ws.length
        rw [List.take_length] at b
        omega
      have hrl : rs.length ≤ 3 + 3 * 2000002 := by
        have a := congrArg List.length er
        have b := fnRows_len (fns := fns.take i) fun f h => hf f (List.mem_of_mem_take h)
        rw [List.length_take] at b
        have c : min i fns.length * 2000002 ≤ 3 * 2000002 := Nat.mul_le_mul_right _ (by omega)
        unfold recRows at a
        simp only [List.length_append, List.length_map] at a
        omega
      have hbl := (hf f (List.mem_of_getElem? hfi)).b.len
      refine s_cut (fun sd m' => ∃ rs', sd = [some (.tup [.tup (List.map Rc.D rcs), .tup (List.map Fn.D fns)]), some (.ref p), kk, some (.tup [.str f.z, fldsD f.fs, f.k.D, .tup (f.ws.map D.str), f.b.d]), some (.ref z), k4] ∧ Less m m' ∧ RowsAt m' p rs' ∧ (∀ q ∈ rs', m q.2 = none) ∧ rs'.length = rs.length + 1 ∧ rs'.map (·.1) = recRows rcs ++ fnRows (fns.take i) ++ [(0, f.head)]) ?_ ?_
      · lcg_off
        rename_i y _ _ hy
        refine ⟨put (put m2 y (.lst (f.head.map D.str))) p (.lst (rs.map rowD ++ [.tup [.int 0, .ref y]])), ?_, rs ++ [((0, f.head), y)], rfl, less_put (less_put l2 (l2.free hy)) hp, R.more1 hy rfl, ?_, by simp, ?_⟩
        · simp only [Fn.head, List.map_append, List.map_cons, List.map_nil]
          one_item
        · intro x hx
          rcases List.mem_append.mp hx with hx | hx
          · exact nn x hx
          · rw [List.mem_singleton] at hx
            subst hx
            exact l2.free hy
        · rw [List.map_append, er]
          rfl
      rintro _ m3 ⟨rs1, rfl, l3, R1, nn1, el1, er1⟩
      have hb := ok.b
      have hp3 := R1.at_
      refine s_cut (fun sd m' => ∃ rs', sd = [some (.tup [.tup (List.map Rc.D rcs), .tup (List.map Fn.D fns)]), some (.ref p), kk, some (.tup [.str f.z, fldsD f.fs, f.k.D, .tup (f.ws.map D.str), f.b.d]), some (.ref z), k4] ∧ Less m m' ∧ RowsAt m' p rs' ∧ (∀ q ∈ rs', m q.2 = none) ∧ rs'.length ≤ rs.length + 1 + 2000000 ∧ rs'.map (·.1) = recRows rcs ++ fnRows (fns.take i) ++ [(0, f.head)] ++ f.b.rows.map inR) ?_ ?_
      · lcg_off
        intro p2 rs2 m4 hn2 hnn2 l4 R2 er2
        have e4 : m4 p = _ := l4 _ _ hp3
        have e5 := R2.at_
        have hl2 : rs2.length ≤ 2000000 := by
          have := congrArg List.length er2
          simp only [List.length_map] at this
          omega
        lcg_off
        have hnp : ∀ q ∈ rs2, q.2 ≠ p := fun q hq e => by have := hnn2 q hq; rw [e, hp3] at this; cases this
        refine ⟨_, Less.refl _, rs1 ++ rs2, rfl, less_put (l3.trans l4) hp, (R1.more l4).app R2 hnp, ?_, ?_, ?_⟩
        · intro x hx
          rcases List.mem_append.mp hx with hx | hx
          · exact nn1 x hx
          · exact l3.free (hnn2 x hx)
        · rw [List.length_append]; omega
        · rw [List.map_append, er1, er2]
      rintro _ m5 ⟨rs3, rfl, l5, R3, nn3, el3, er3⟩
      have hp5 := R3.at_
      lcg_off
      rename_i y hy
      refine ⟨put (put m5 y (.lst ([("}" : Str)].map D.str))) p (.lst (rs3.map rowD ++ [.tup [.int 0, .ref y]])), ?_, kk, _, _, _, rs3 ++ [((0, [("}" : Str)]), y)], rfl, less_put (less_put l5 (l5.free hy)) hp, R3.more1 hy rfl, ?_, ?_⟩
      · simp only [List.map_append, List.map_cons, List.map_nil]
        one_item
      · intro x hx
        rcases List.mem_append.mp hx with hx | hx
        · exact nn3 x hx
        · rw [List.mem_singleton] at hx
          subst hx
          exact l5.free hy
      · rw [List.map_append, er3, take_fn_rows hfi]
        simp only [Fn.rows, List.append_assoc, List.cons_append, List.nil_append, List.map_cons, List.map_nil]
    · rintro _ m2 ⟨kk, k2, k3, k4, rs, rfl, l2, R, nn, er⟩
      rw [List.length_map, List.take_length] at er
      lcg_off
      exact ⟨_, Less.refl _, q p rs _ hp nn l2 R er⟩

/-! ### the weight of a program -/
theorem Fn.rowsW_le {f : Fn} (o : f.Ok) : rowsW f.rows ≤ 2400000 := by
  unfold Fn.rows
  rw [rowsW_cons, rowsW_app]
  have a := o.b.w
  have b := (Fn.rowOk o).w
  have c : rowsW [(0, [("}" : Str)])] ≤ 10 := by decide +kernel
  unfold rowW
  dsimp only at b ⊢
  omega
theorem Rc.rowW_le {r : Rc} (o : r.Ok) : rowW (0, r.row) ≤ 200001 := by
  have b := (Rc.rowOk o).w
  unfold rowW
  dsimp only at b ⊢
  omega
theorem progW {rcs : List Rc} {fns : List Fn} (h1 : rcs.length ≤ 3) (h2 : fns.length ≤ 3) (hr : ∀ r ∈ rcs, Rc.Ok r) (hf : ∀ f ∈ fns, Fn.Ok f) : rowsW (recRows rcs ++ fnRows fns) ≤ 8000000 := by
  rw [rowsW_app]
  have a : rowsW (recRows rcs) ≤ rcs.length * 200001 := by
    unfold rowsW recRows
    rw [List.map_map]
    exact sum_le fun r h => Rc.rowW_le (hr r h)
  have b : rowsW (fnRows fns) ≤ fns.length * 2400000 := by
    clear h2 a
    unfold fnRows
    induction fns with
    | nil => exact Nat.le_refl _
    | cons f fns ih =>
      rw [List.map_cons, List.flatten_cons, rowsW_app, List.length_cons]
      have := Fn.rowsW_le (hf f List.mem_cons_self)
      have := ih fun f h => hf f (List.mem_cons_of_mem _ h)
      omega
  have c : rcs.length * 200001 ≤ 3 * 200001 := Nat.mul_le_mul_right _ h1
  have d : fns.length * 2400000 ≤ 3 * 2400000 := Nat.mul_le_mul_right _ h2
  omega
theorem progRowOk {rcs : List Rc} {fns : List Fn} (hr : ∀ r ∈ rcs, Rc.Ok r) (hf : ∀ f ∈ fns, Fn.Ok f) : ∀ r ∈ recRows rcs ++ fnRows fns, RowOk r := by
  intro r h
  rcases List.mem_append.mp h with h | h
  · obtain ⟨c, hc, rfl⟩ := List.mem_map.mp h
    exact Rc.rowOk (hr c hc)
  · unfold fnRows at h
    rw [List.mem_flatten] at h
    obtain ⟨l, hl, h⟩ := h
    obtain ⟨f, hff, rfl⟩ := List.mem_map.mp hl
    unfold Fn.rows at h
    rcases List.mem_cons.mp h with h | h
    · subst h
      exact Fn.rowOk (hf f hff)
    · rcases List.mem_append.mp h with h | h
      · exact (hf f hff).b.ok r h
      · rw [List.mem_singleton] at h
        subst h
        exact ⟨by simp, .one (by decide +kernel), by decide +kernel, Nat.zero_le _⟩

/-! ### the law's raw tokens -/
theorem cut_from1 (z : Str) (h : 0 < z.length) : cutS z (some 1) none = ⟨(z.cps.toList.drop 1).toArray⟩ := by
  have e : (cutS z (some 1) none).cps.toList = (z.cps.toList.drop (HT.sIx z.length 0 (some ((1 : Nat) : Int)))).take (HT.sIx z.length z.length none - HT.sIx z.length 0 (some ((1 : Nat) : Int))) := rfl
  have hl : z.cps.toList.length = z.length := Array.length_toList
  rw [HT.sIx_nat, HT.sIx_none, show min 1 z.length = 1 by omega, List.take_of_length_le (by rw [List.length_drop, hl]; exact Nat.le_refl _)] at e
  exact str_ext e
theorem minus_is : ("-" : Str) = ⟨#[45]⟩ := by decide +kernel
local macro_rules | `(tactic| lcg_sub) => `(tactic| with_reducible refine r_eqSg minus_is ?_)
theorem rawT_len (t : Str) : (rawT t).length ≤ 2 := by
  unfold rawT
  split
  · exact Nat.le_refl _
  · split
    · exact Nat.le_refl _
    · exact Nat.le_succ _
theorem rawR_len (ts : List Str) : (rawR ts).length ≤ 2 * ts.length := by
  induction ts with
  | nil => exact Nat.le_refl _
  | cons t ts ih => rw [rawR_cons, List.length_append, List.length_cons]; have := rawT_len t; omega
theorem flat_len (rs : List (Nat × List Str)) : (rs.map (·.2)).flatten.length ≤ rowsW rs := by
  induction rs with
  | nil => exact Nat.le_refl _
  | cons r rs ih => rw [List.map_cons, List.flatten_cons, List.length_append, rowsW_cons]; have := wt_len r.2; unfold rowW; omega
theorem rawR_take {ts : List Str} {i : Nat} {t : Str} (h : ts[i]? = some t) : rawR (ts.take (i + 1)) = rawR (ts.take i) ++ rawT t := by
  rw [List.take_add_one, h, rawR_app]
  simp [rawR]
theorem flat_take {rs : List ((Nat × List Str) × Addr)} {i : Nat} {q : (Nat × List Str) × Addr} (h : rs[i]? = some q) : ((rs.take (i + 1)).map (·.1.2)).flatten = ((rs.take i).map (·.1.2)).flatten ++ q.1.2 := by
  rw [List.take_add_one, h, List.map_append, List.flatten_append]
  simp
def rowsOf (rcs : List Rc) (fns : List Fn) : List Str := ((recRows rcs ++ fnRows fns).map (·.2)).flatten
def sp_law_raw : DSp := fun ds m P _ => ∃ rcs fns, ds = [.tup [.tup (List.map Rc.D rcs), .tup (List.map Fn.D fns)]] ∧ rcs.length ≤ 3 ∧ fns.length ≤ 3 ∧ (∀ r ∈ rcs, Rc.Ok r) ∧ (∀ f ∈ fns, Fn.Ok f) ∧ (∀ t ∈ rowsOf rcs fns, 0 < t.length ∧ t.length ≤ 200000) ∧
  ∀ p, m p = none → P (.ref p) (put m p (.lst ((rawR (rowsOf rcs fns)).map D.str)))
theorem rd_raw : ∀ ds m P EX, sp_law_raw ds m P EX → Go P (b_law_raw sp_law_program_rows) (dstart ["program", "tokens", "row", "token"] ds) m := by
  rintro ds m P EX ⟨rcs, fns, rfl, hr3, hf3, hr, hf, hpos, q⟩
  show b_law_raw _ { nx := fun _ m' => Ret P .non m', rt := Ret P } [some (.tup [.tup (List.map Rc.D rcs), .tup (List.map Fn.D fns)]), none, none, none] m
  unfold b_law_raw
  have hsz := PySem.sizeLine_eq
  have hW := progW hr3 hf3 hr hf
  have hFl := flat_len (recRows rcs ++ fnRows fns)
  lcg_off
  rename_i pt hpt
  refine s_seq ?_
  lcg_off
  refine ⟨rcs, fns, rfl, hr3, hf3, hr, hf, fun pr rs m3 hpr hrs hl hR er => ?_⟩
  have e3 : m3 pt = some (.lst []) := hl _ _ put_same
  have hprt : pr ≠ pt := fun e => by subst e; rw [put_same] at hpr; cases hpr
  have hrt : ∀ q ∈ rs, q.2 ≠ pt := fun q hq e => by have := hrs q hq; rw [e, put_same] at this; cases this
  have eF : (rs.map (·.1.2)).flatten = rowsOf rcs fns := by
    unfold rowsOf
    rw [← er, List.map_map]
    rfl
  have hFle : ∀ i, (rawR ((rs.take i).map (·.1.2)).flatten).length ≤ 16000000 := fun i => by
    have a := rawR_len ((rs.take i).map (·.1.2)).flatten
    have b : ((rs.take i).map (·.1.2)).flatten.length ≤ ((rs.map (·.1.2)).flatten).length := by
      have : (rs.map (·.1.2)).flatten = ((rs.take i).map (·.1.2)).flatten ++ ((rs.drop i).map (·.1.2)).flatten := by
        rw [← List.flatten_append, ← List.map_append, List.take_append_drop]
      rw [this, List.length_append]; omega
    rw [eF] at b
    unfold rowsOf at b
    omega
  refine r_FSL hR.at_ ?_
  refine ⟨fun i sd m' => ∃ k2 k3, sd = [some (.tup [.tup (List.map Rc.D rcs), .tup (List.map Fn.D fns)]), some (.ref pt), k2, k3] ∧ m' = put m3 pt (.lst ((rawR ((rs.take i).map (·.1.2)).flatten).map D.str)),
    ⟨_, _, rfl, (put_self e3).symm⟩, ?_, ?_, ?_⟩
  · rintro i _ _ hi ⟨k2, k3, rfl, rfl⟩
    rw [put_ne hprt]; exact hR.at_
  · rintro i x _ _ hx ⟨k2, k3, rfl, rfl⟩
    obtain ⟨⟨⟨dd, ts⟩, pq⟩, hqi, hqm, rfl⟩ := getMap hx
    have hq2 := (hR.row _ hqm).1
    have hqt := hrt _ hqm
    dsimp only at hq2 hqt
    have eT := flat_take hqi
    dsimp only at eT
    have hle1 := hFle (i + 1)
    rw [eT, rawR_app, List.length_append] at hle1
    generalize hA : rawR ((rs.take i).map (·.1.2)).flatten = A at *
    have hpq : (put m3 pt (.lst (A.map D.str))) pq = some (.lst (ts.map D.str)) := by rw [put_ne hqt]; exact hq2
    have hts : ∀ t ∈ ts, 0 < t.length ∧ t.length ≤ 200000 := fun t h => hpos t (by
      rw [← eF, List.mem_flatten]
      exact ⟨ts, List.mem_map.mpr ⟨_, hqm, rfl⟩, h⟩)
    have hrl : ∀ j, (rawR (ts.take j)).length ≤ (rawR ts).length := fun j => by
      have : rawR ts = rawR (ts.take j) ++ rawR (ts.drop j) := by rw [← rawR_app, List.take_append_drop]
      rw [this, List.length_append]; omega
    show dName 2 (.tup [.int dd, .ref pq]) _ _ _
    lcg_off
    refine ⟨fun j sd m' => ∃ k3, sd = [some (.tup [.tup (List.map Rc.D rcs), .tup (List.map Fn.D fns)]), some (.ref pt), some (.tup [.int dd, .ref pq]), k3] ∧ m' = put m3 pt (.lst ((A ++ rawR (ts.take j)).map D.str)),
      ⟨_, rfl, by simp [rawR]⟩, ?_, ?_, ?_⟩
    · rintro j _ _ hj ⟨k3, rfl, rfl⟩
      rw [put_ne hqt]; exact hq2
    · rintro j y _ _ hy ⟨k3, rfl, rfl⟩
      obtain ⟨t, htj, htm, rfl⟩ := getMap hy
      have ht0 := (hts t htm).1
      have ht1 := (hts t htm).2
      obtain ⟨c, hc, hh⟩ := head_get ht0
      have eR := rawR_take htj
      have hB := hrl j
      have hcf := cut_from1 t ht0
      have fin : ∀ us ds, rawT t = us → us.map D.str = ds → ∃ m', Less m' (put m3 pt (.lst ((A ++ rawR (ts.take j)).map D.str ++ ds))) ∧ ∃ k3, ([some (.tup [.tup (List.map Rc.D rcs), .tup (List.map Fn.D fns)]), some (.ref pt), some (.tup [.int dd, .ref pq]), some (.str t)] : DS) = [some (.tup [.tup (List.map Rc.D rcs), .tup (List.map Fn.D fns)]), some (.ref pt), some (.tup [.int dd, .ref pq]), k3] ∧ m' = put m3 pt (.lst ((A ++ rawR (ts.take (j + 1))).map D.str)) := by
        intro us ds e e2
        refine ⟨_, Less.refl _, _, rfl, ?_⟩
        rw [eR, e, ← List.append_assoc, List.map_append (l₂ := us), e2]
      lcg_off
      · rename_i h p hp1 hp2
        obtain ⟨m', l, z⟩ := fin ["&", "mut"] [.str "&", .str "mut"] (by unfold rawT; rw [if_pos h]) rfl
        refine ⟨m', l.trans ?_, z⟩
        one_item
      · rename_i h1 h2 h3 h4 p hp1 hp2
        rw [hcf]
        obtain ⟨m', l, z⟩ := fin ["-", ⟨(t.cps.toList.drop 1).toArray⟩] [.str "-", .str ⟨(t.cps.toList.drop 1).toArray⟩] (by unfold rawT; rw [if_neg h1, if_pos ⟨by omega, by rw [hh, h3], h4⟩]) rfl
        refine ⟨m', l.trans ?_, z⟩
        one_item
      · rename_i h1 h2 h3 h4
        exact fin [t] [.str t] (by unfold rawT; rw [if_neg h1, if_neg (fun q => q.2.2 h4)]) rfl
      · rename_i h1 h2 h3
        exact fin [t] [.str t] (by unfold rawT; rw [if_neg h1, if_neg (fun q => h3 (by have := q.2.1; rw [hh] at this; exact Option.some.inj this))]) rfl
      · rename_i h1 h2
        exact fin [t] [.str t] (by unfold rawT; rw [if_neg h1, if_neg (fun q => h2 (by have := q.1; omega))]) rfl
    · rintro _ _ ⟨k3, rfl, rfl⟩
      rw [List.length_map, List.take_length]
      refine ⟨_, Less.refl _, _, _, rfl, ?_⟩
      rw [eT, rawR_app, hA]
  · rintro _ _ ⟨k2, k3, rfl, rfl⟩
    rw [List.length_map, List.take_length, eF]
    lcg_off
    refine ⟨put m pt (.lst ((rawR (rowsOf rcs fns)).map D.str)), ?_, q pt hpt⟩
    intro x o h
    by_cases e : x = pt
    · subst e; rw [put_same] at h ⊢; exact h
    · rw [put_ne e] at h ⊢
      exact hl x o (by rw [put_ne e]; exact h)

/-- data without addresses: ints, texts, tuples, at most n levels -/
inductive PD : Nat → D → Prop where
  | int (n i) : PD (n + 1) (.int i)
  | str (n z) : PD (n + 1) (.str z)
  | bl (n b) : PD (n + 1) (.bl b)
  | tup {n xs} : xs.length ≤ 100000 → (∀ x ∈ xs, PD n x) → PD (n + 1) (.tup xs)
def sp_same (n : Nat) : DSp := fun ds m P _ => ∃ d, PD n d ∧ ds = [d, d] ∧ P (.bl true) m
theorem use_same {n : Nat} {d : D} {m : M} {P : DK} (h : PD n d) (q : P (.bl true) m) : sp_same n [d, d] m P noX := ⟨d, h, rfl, q⟩
theorem rd_law_same (n : Nat) : ∀ ds m P EX, sp_same (n + 1) ds m P EX → Go P (b_law_same (sp_same n)) (dstart ["actual", "due", "k"] ds) m := by
  rintro ds m P EX ⟨d, hd, rfl, q⟩
  show b_law_same (sp_same n) { nx := fun _ m' => Ret P .non m', rt := Ret P } [some d, some d, none] m
  unfold b_law_same
  cases hd with
  | int _ i =>
    top_strB
    rw [decide_eq_true rfl]
    exact ⟨_, Less.refl _, q⟩
  | str _ z =>
    top_strB
    rw [decide_eq_true rfl]
    exact ⟨_, Less.refl _, q⟩
  | bl _ b =>
    top_strB
    (first | rw [decide_eq_true rfl] | skip)
    exact ⟨_, Less.refl _, q⟩
  | tup hl hx =>
    rename_i xs
    top_strB
    · exact absurd rfl ‹_›
    · have en : (xs.length : Int).toNat = xs.length := by omega
      rw [en]
      refine ⟨⟨by omega, by omega⟩, fun i sd m' => m' = m ∧ ∃ kk, sd = [some (.tup xs), some (.tup xs), kk], ⟨rfl, _, rfl⟩, ?_, ?_⟩
      · rintro i _ m2 hi ⟨hm2, kk, rfl⟩
        subst hm2
        have hxi : xs[i]? = some xs[i] := List.getElem?_eq_getElem hi
        have hm : xs[i] ∈ xs := List.getElem_mem hi
        generalize xs[i] = x at hxi hm
        lcg_off
        refine use_same (hx x hm) ?_
        lcg_off
        exact ⟨_, Less.refl _, rfl, _, rfl⟩
      · rintro _ m2 ⟨hm2, kk, rfl⟩
        subst hm2
        lcg_off
        exact ⟨_, Less.refl _, q⟩
theorem rec_law_same {P : Program} {w : World} {K : PySem.W.Frag} {mg : Str → Option Value} (F : FunAt K mg "_law_same" s_law_same ["actual", "due"]) (z1 : mg "isinstance" = none) (z2 : mg "tuple" = none) (z3 : mg "len" = none) (z4 : mg "range" = none) (z5 : mg "bool" = none) (z6 : mg "int" = none) (z7 : mg "str" = none) :
    ∀ n : Nat, Callee P w K mg n "_law_same" ["actual", "due"] (sp_same n)
  | 0 => F.none fun ds m P EX h => by obtain ⟨k, h, _⟩ := h; cases h
  | n + 1 => ok_law_same F (rec_law_same F z1 z2 z3 z4 z5 z6 z7 n) (by assumption) (by assumption) (by assumption) (by assumption) (by assumption) (by assumption) (by assumption) (by rintro ds m P EX ⟨_, _, rfl, _⟩; rfl) (rd_law_same n)

/-! ### whole programs -/
theorem PD.mono : ∀ {n m : Nat} {d : D}, PD n d → n ≤ m → PD m d
  | _, m + 1, _, .int n i, _ => .int m i
  | _, m + 1, _, .str n i, _ => .str m i
  | _, m + 1, _, .bl n i, _ => .bl m i
  | n + 1, m + 1, _, .tup h1 h, e => .tup h1 fun x hx => (h x hx).mono (by omega)
  | _ + 1, 0, _, _, e => absurd e (by omega)
theorem PD.two {n : Nat} {a b : D} (h1 : PD n a) (h2 : PD n b) : PD (n + 1) (.tup [a, b]) := .tup (Nat.le_of_ble_eq_true rfl) fun x hx => by
  rcases List.mem_cons.mp hx with e | hx
  · rw [e]; exact h1
  · rw [List.mem_singleton] at hx; rw [hx]; exact h2
theorem PD.one {n : Nat} {a : D} (h1 : PD n a) : PD (n + 1) (.tup [a]) := .tup (Nat.le_of_ble_eq_true rfl) fun x hx => by
  rw [List.mem_singleton] at hx; rw [hx]; exact h1
theorem PD.map {α : Type} {n : Nat} {xs : List α} {f : α → D} (hl : xs.length ≤ 100000) (h : ∀ x ∈ xs, PD n (f x)) : PD (n + 1) (.tup (xs.map f)) := .tup (by rw [List.length_map]; exact hl) fun d hd => by
  obtain ⟨x, hx, rfl⟩ := List.mem_map.mp hd
  exact h x hx
theorem WT.pd : ∀ {n : Nat} {k : Kd}, WT n k → PD (n + n) k.D
  | n + 1, _, .int _ => .one (n := n + 1 + n) ((PD.str 0 _).mono (by omega))
  | n + 1, _, .bool _ => .one (n := n + 1 + n) ((PD.str 0 _).mono (by omega))
  | n + 1, _, .unit _ => .one (n := n + 1 + n) ((PD.str 0 _).mono (by omega))
  | n + 1, _, .rcd _ h => .two (n := n + 1 + n) ((PD.str 0 _).mono (by omega)) ((PD.str 0 _).mono (by omega))
  | n + 1, _, .box h => .two (n := n + 1 + n) ((PD.str 0 _).mono (by omega)) (h.pd.mono (by omega))
  | n + 1, _, .maybe h => .two (n := n + 1 + n) ((PD.str 0 _).mono (by omega)) (h.pd.mono (by omega))
  | n + 1, _, .excl h => .two (n := n + 1 + n) ((PD.str 0 _).mono (by omega)) (h.pd.mono (by omega))
  | n + 1, _, .shared h => .two (n := n + 1 + n) ((PD.str 0 _).mono (by omega)) (h.pd.mono (by omega))
  | n + 1, _, .tup (ks := ks) h1 h2 h => by
    have q : ∀ k ∈ ks, PD (n + n) k.D := fun k hk => (h k hk).pd.mono (by omega)
    rw [Kd.D_tup]
    exact .two (n := n + 1 + n) ((PD.str 0 _).mono (by omega)) ((PD.map (by omega) q).mono (by omega))
theorem FOk.pd {fs : List (Str × Kd)} (h : FOk fs) : PD 8 (fldsD fs) := .map (by have := h.len; omega) fun p hp => .two (.str _ _) (h.all p hp).2.pd
theorem Rc.pd {r : Rc} (h : r.Ok) : PD 9 r.D := .two (.str _ _) h.fs.pd
theorem Fn.pd {f : Fn} {n : Nat} (h : f.Ok) (hn : 18 ≤ n) (hb : PD n f.b.d) : PD (n + 1) f.D := .tup (Nat.le_of_ble_eq_true rfl) fun x hx => by
  rcases List.mem_cons.mp hx with e | hx
  · rw [e]; exact (PD.str 0 _).mono (by omega)
  rcases List.mem_cons.mp hx with e | hx
  · rw [e]; exact h.fs.pd.mono (by omega)
  rcases List.mem_cons.mp hx with e | hx
  · rw [e]; exact h.k.pd.mono (by omega)
  rcases List.mem_cons.mp hx with e | hx
  · rw [e]; exact (PD.map (n := 1) (by have := h.wl; omega) fun w _ => .str _ w).mono (by omega)
  · rw [List.mem_singleton] at hx; rw [hx]; exact hb
theorem prog_pd {rcs : List Rc} {fns : List Fn} {n : Nat} (hn : 18 ≤ n) (h1 : rcs.length ≤ 3) (h2 : fns.length ≤ 3) (hr : ∀ r ∈ rcs, r.Ok) (hf : ∀ f ∈ fns, f.Ok ∧ PD n f.b.d) : PD (n + 3) (.tup [.tup (rcs.map Rc.D), .tup (fns.map Fn.D)]) :=
  .two ((PD.map (by omega) fun r h => (Rc.pd (hr r h)).mono (show 9 ≤ n + 1 by omega))) (.map (by omega) fun f h => Fn.pd (hf f h).1 hn (hf f h).2)
/-! the tokens -/
theorem UU_recs {rcs : List Rc} (hr : ∀ r ∈ rcs, r.Ok) : UU (((recRows rcs).map (·.2)).flatten) = flatU (rcs.map recPart) := by
  induction rcs with
  | nil => rfl
  | cons r rs ih =>
    have a := ih fun x h => hr x (List.mem_cons_of_mem _ h)
    unfold recRows at a ⊢
    rw [List.map_cons, List.map_cons, List.flatten_cons, UU_app, a, List.map_cons, flatU_cons]
    have : UU r.row = rcP r := UU_rec (hr r List.mem_cons_self)
    rw [this]; rfl
theorem UU_funs {fus : List (Fn × List U2)} (hf : ∀ f ∈ fus, f.1.Ok ∧ UU ((f.1.b.rows.map (·.2)).flatten) = f.2) : UU (((fnRows (fus.map (·.1))).map (·.2)).flatten) = flatU (fus.map funPart) := by
  induction fus with
  | nil => rfl
  | cons f fs ih =>
    have a := ih fun x h => hf x (List.mem_cons_of_mem _ h)
    obtain ⟨o, hb⟩ := hf f List.mem_cons_self
    unfold fnRows at a ⊢
    rw [List.map_cons, List.map_cons, List.flatten_cons, List.map_append, List.flatten_append, UU_app, a, List.map_cons, flatU_cons, UU_fun o hb]
    rfl
theorem UU_prog {rcs : List Rc} {fus : List (Fn × List U2)} (hr : ∀ r ∈ rcs, r.Ok) (hf : ∀ f ∈ fus, f.1.Ok ∧ UU ((f.1.b.rows.map (·.2)).flatten) = f.2) : UU (rowsOf rcs (fus.map (·.1))) = flatU (rcs.map recPart) ++ flatU (fus.map funPart) := by
  unfold rowsOf
  rw [List.map_append, List.flatten_append, UU_app, UU_recs hr, UU_funs hf]
theorem Good.flat {rs : List (List Str)} (h : ∀ r ∈ rs, Good r) : Good rs.flatten := by
  induction rs with
  | nil => exact .nil
  | cons r rs ih => rw [List.flatten_cons]; exact (h r List.mem_cons_self).app (ih fun x hx => h x (List.mem_cons_of_mem _ hx))
theorem Fn.rows_flat (f : Fn) : (f.rows.map (·.2)).flatten = f.head ++ ((f.b.rows.map (·.2)).flatten ++ [("}" : Str)]) := by
  unfold Fn.rows
  rw [List.map_cons, List.flatten_cons, List.map_append, List.flatten_append, List.map_map]
  rfl
theorem fns_flat (fns : List Fn) : ((fnRows fns).map (·.2)).flatten = (fns.map fun f => (f.rows.map (·.2)).flatten).flatten := by
  unfold fnRows
  induction fns with
  | nil => rfl
  | cons f fs ih => rw [List.map_cons, List.flatten_cons, List.map_append, List.flatten_append, ih, List.map_cons, List.flatten_cons]
theorem wt_row {r : Rc} (o : r.Ok) : r.row.length ≤ 10000 := by
  have a := fldR_wt0 o.fs
  have b := wt_len (fldR r.fs)
  unfold Rc.row
  simp only [List.length_append, List.length_cons, List.length_nil]
  omega
theorem wt_head {f : Fn} (o : f.Ok) : f.head.length ≤ 12000 := by
  have a := fldR_wt0 o.fs
  have b := wt_len (fldR f.fs)
  have c := o.k.wt
  have c2 := wt_len (kR f.k)
  have d := srcR_wt o.ws o.wl f.ws.length
  rw [List.take_length] at d
  have d2 := wt_len (srcR f.ws)
  unfold Fn.head Fn.head0
  simp only [List.length_append, List.length_cons, List.length_nil]
  omega
theorem len_flat {α : Type} {n : Nat} {f : α → List Str} {xs : List α} (h : ∀ x ∈ xs, (f x).length ≤ n) : (xs.map f).flatten.length ≤ xs.length * n := by
  rw [List.length_flatten, List.map_map]
  exact sum_le h
theorem prog_len {rcs : List Rc} {fns : List Fn} {n : Nat} (h1 : rcs.length ≤ 3) (hr : ∀ r ∈ rcs, r.Ok) (hf : ∀ f ∈ fns, f.Ok ∧ (f.b.rows.map (·.2)).flatten.length ≤ n) : (rowsOf rcs fns).length ≤ 30000 + fns.length * (12001 + n) := by
  unfold rowsOf
  rw [List.map_append, List.flatten_append, List.length_append]
  have a : ((recRows rcs).map (·.2)).flatten.length ≤ rcs.length * 10000 := by
    unfold recRows
    rw [List.map_map]
    exact len_flat fun r h => wt_row (hr r h)
  have b : ((fnRows fns).map (·.2)).flatten.length ≤ fns.length * (12001 + n) := by
    rw [fns_flat]
    refine len_flat fun f h => ?_
    rw [f.rows_flat, List.length_append, List.length_append]
    have := wt_head (hf f h).1
    have := (hf f h).2
    simp only [List.length_cons, List.length_nil]
    omega
  have c : rcs.length * 10000 ≤ 3 * 10000 := Nat.mul_le_mul_right _ h1
  omega
theorem lenB_raw {ts : List Str} (h : ∀ t ∈ ts, t.length ≤ 22) : lenB ts ≤ ts.length * 26 := sum_le fun t ht => by have := h t ht; show t.length + 4 ≤ 26; omega
theorem prog_good {rcs : List Rc} {fns : List Fn} (hr : ∀ r ∈ rcs, r.Ok) (hf : ∀ f ∈ fns, f.Ok ∧ Good ((f.b.rows.map (·.2)).flatten)) : Good (rowsOf rcs fns) := by
  unfold rowsOf
  rw [List.map_append, List.flatten_append]
  refine Good.app (Good.flat fun r h => ?_) ?_
  · unfold recRows at h
    rw [List.map_map] at h
    obtain ⟨x, hx, rfl⟩ := List.mem_map.mp h
    exact Rc.good (hr x hx)
  · rw [fns_flat]
    refine Good.flat fun r h => ?_
    obtain ⟨f, hx, rfl⟩ := List.mem_map.mp h
    rw [f.rows_flat]
    exact (Fn.goodH (hf f hx).1).app ((hf f hx).2.app (.lit (by decide +kernel) (by decide +kernel) (by decide +kernel) .nil))
theorem wt_get' {ts : List Str} {i : Nat} {t : Str} (h : ts[i]? = some t) : t.length ≤ wt ts := by
  induction ts generalizing i with
  | nil => cases h
  | cons u r ih =>
    rw [wt_cons]
    cases i with
    | zero => cases h; omega
    | succ i => have := ih h; omega
theorem rows_pos {rcs : List Rc} {fns : List Fn} (hr : ∀ r ∈ rcs, Rc.Ok r) (hf : ∀ f ∈ fns, Fn.Ok f) : ∀ t ∈ rowsOf rcs fns, 0 < t.length ∧ t.length ≤ 200000 := fun t ht => by
  unfold rowsOf at ht
  rw [List.mem_flatten] at ht
  obtain ⟨l, hl, ht⟩ := ht
  obtain ⟨r, hr2, rfl⟩ := List.mem_map.mp hl
  have o := progRowOk hr hf r hr2
  obtain ⟨j, hj⟩ := List.getElem?_of_mem ht
  have := wt_get' hj
  have := o.w
  exact ⟨o.ok t ht, by omega⟩
/-- from the text to the tokens of the tree -/
theorem prog_lex {z : Str} {rcs : List Rc} {fus : List (Fn × List U2)} (hr : ∀ r ∈ rcs, r.Ok) (hf : ∀ f ∈ fus, f.1.Ok ∧ UU ((f.1.b.rows.map (·.2)).flatten) = f.2) (hg : ∀ t ∈ rawR (rowsOf rcs (fus.map (·.1))), TokOk t ∧ t.length ≤ 22) (ha : Adj (rawR (rowsOf rcs (fus.map (·.1)))))
    (hS : Spc " " (rawR (rowsOf rcs (fus.map (·.1)))) z.cps.toList) : ∃ T, Lex z.cps.toList 1 1 T ∧ T.map Tk.p = flatU (rcs.map recPart) ++ (flatU (fus.map funPart) ++ endP) := by
  obtain ⟨T, a, b⟩ := hS.lex (fun t h => ⟨(hg t h).1, by have := (hg t h).2; omega⟩) ha 1 1
  refine ⟨T, a, ?_⟩
  rw [b, show (rawR (rowsOf rcs (fus.map (·.1)))).map lab = UU (rowsOf rcs (fus.map (·.1))) from rfl, UU_prog hr hf, List.append_assoc]

/-! ### k09: the law -/
abbrev bk0 : Bk := ⟨.tup [], [], []⟩
local macro_rules | `(tactic| lcg_sub) => `(tactic| ((with_reducible refine' use_function ?y1 ?y2 ?y3); (case y1 => lcg_src); (case y2 => first | assumption | exact S4.Ok.d (by assumption) _); intro _ _ _ _ _ _ _ _ _ _ _ _; try simp only [put_put]))
theorem rd_law09 : ∀ ds m P EX, sp_law ds m P EX → Go P (b_law sp_law_fields sp_law_pick sp_law_big sp_law_function sp_law_spaced sp_law_raw (sp_same 21) sp_parse_program) (dstart ["script", "state", "records", "k", "trees", "program", "text"] ds) m := by
  rintro ds m P EX ⟨ns, rfl, hns, hm0, q⟩
  show b_law _ _ _ _ _ _ _ _ { nx := fun _ m' => Ret P .non m', rt := Ret P } [some (.rol (List.map D.int ns)), none, none, none, none, none, none] m
  unfold b_law
  have o0 : S4.Ok ⟨0, 0, 1, 9⟩ := ⟨by decide, by decide, by decide⟩
  lcg_off
  refine s_seq ?_
  lcg_off
  rename_i st hst pr hpr1 hpr2 n s1 n0 n1 o1 d1
  refine ⟨⟨by omega, by omega⟩, fun i sd m' => ∃ (rcs : List Rc) (kk : Option D) (s' : S4), sd = [some (.rol (List.map D.int ns)), some (.ref st), some (.ref pr), kk, none, none, none] ∧ m' = put (put m pr (.lst (rcs.map Rc.D))) st s'.D ∧ s'.Ok ∧ rcs.length = i ∧ ∀ r ∈ rcs, Rc.Ok r,
    ⟨[], _, s1, rfl, ?_, o1, rfl, (fun _ h => by cases h)⟩, ?_, ?_⟩
  · rw [put_comm (Ne.symm hpr1), put_put]
    rfl
  · rintro i _ _ hi ⟨rcs, kk, s2, rfl, rfl, o2, hl, hk⟩
    lcg_off
    rename_i z s3 hz o3 d3 t s4 t0 t1 o4 d4 fs s5 hfs hfl o5 d5
    refine ⟨_, Less.refl _, rcs ++ [⟨z, fs⟩], _, s5, rfl, ?_, o5, by simp [hl], ?_⟩
    · rw [List.map_append]
      rfl
    · intro y hy
      rcases List.mem_append.mp hy with h | h
      · exact hk y h
      · rw [List.mem_singleton] at h
        subst h
        exact ⟨hz, hfs, fun e => by have e : fs = [] := e; rw [e] at hfl; simp at hfl; omega⟩
  · rintro _ _ ⟨rcs, kk, s2, rfl, rfl, o2, hl, hr⟩
    lcg_off
    refine s_seq ?_
    lcg_off
    rename_i pf hpf1 hpf2 hpf3 n2 s3 n20 n21 o3 d3
    refine ⟨⟨by omega, by omega⟩, fun i sd m' => ∃ (fns : List Fn) (kk : Option D) (s' : S4), sd = [some (.rol (List.map D.int ns)), some (.ref st), some (.ref pr), kk, some (.ref pf), none, none] ∧ m' = put (put (put m pr (.lst (rcs.map Rc.D))) pf (.lst (fns.map Fn.D))) st s'.D ∧ s'.Ok ∧ fns.length = i ∧ ∀ f ∈ fns, Fn.Ok f ∧ f.b = bk0,
      ⟨[], _, s3, rfl, ?_, o3, rfl, (fun _ h => by cases h)⟩, ?_, ?_⟩
    · funext x; simp only [put, List.map_nil]; grind
    · rintro i _ _ hi ⟨fns, kk, s4, rfl, rfl, o4, hl, hk⟩
      lcg_off
      rename_i z fs k ws s5 hz hfs hk9 hwl hws o5 d5
      refine ⟨_, Less.refl _, fns ++ [⟨z, fs, k, ws, bk0⟩], _, s5, rfl, ?_, o5, by simp [hl], ?_⟩
      · rw [List.map_append]
        rfl
      · intro y hy
        rcases List.mem_append.mp hy with h | h
        · exact hk y h
        · rw [List.mem_singleton] at h
          subst h
          exact ⟨⟨hz, hfs, hk9, hwl, hws, rfl⟩, rfl⟩
    · rintro _ _ ⟨fns, kk, s4, rfl, rfl, o4, hl2, hf⟩
      have hfo : ∀ f ∈ fns, Fn.Ok f := fun f h => (hf f h).1
      have hg := prog_good (rcs := rcs) (fns := fns) hr fun f h => ⟨(hf f h).1, by rw [(hf f h).2]; exact .nil⟩
      have hlen := prog_len (rcs := rcs) (fns := fns) (n := 0) (by omega) hr fun f h => ⟨(hf f h).1, by rw [(hf f h).2]; exact Nat.le_refl _⟩
      have hg2 : ∀ t ∈ rawR (rowsOf rcs fns), TokOk t ∧ t.length ≤ 22 := fun t h => ⟨(hg t h).1, (hg t h).2.1⟩
      have hadj := adj_ne (ts := rawR (rowsOf rcs fns)) fun t h => (hg t h).2.2
      have hlB : lenB (rawR (rowsOf rcs fns)) ≤ 15000000 := by
        have a := lenB_raw fun t h => (hg2 t h).2
        have b := rawR_len (rowsOf rcs fns)
        have c : fns.length * (12001 + 0) ≤ 3 * 12001 := Nat.mul_le_mul_right _ (by omega)
        have d : (rawR (rowsOf rcs fns)).length * 26 ≤ 140000 * 26 := Nat.mul_le_mul_right _ (by omega)
        omega
      have hpd : PD 21 (.tup [.tup (rcs.map Rc.D), .tup (fns.map Fn.D)]) := prog_pd (n := 18) (Nat.le_refl _) (by omega) (by omega) hr fun f h => ⟨(hf f h).1, by rw [(hf f h).2]; exact .tup (Nat.zero_le _) fun _ h => by cases h⟩
      have efs : (fns.map fun f => (f, ([] : List U2))).map (·.1) = fns := by rw [List.map_map]; exact List.map_id fns
      have efD : (fns.map fun f => (f, ([] : List U2))).map (fun f => Fn.D f.1) = fns.map Fn.D := by rw [List.map_map]; rfl
      have hfu : ∀ f ∈ fns.map fun f => (f, ([] : List U2)), f.1.Ok ∧ UU ((f.1.b.rows.map (·.2)).flatten) = f.2 := fun f h => by
        obtain ⟨x, hx, rfl⟩ := List.mem_map.mp h
        exact ⟨(hf x hx).1, by rw [(hf x hx).2]; rfl⟩
      have hfb : ∀ f ∈ fns.map fun f => (f, ([] : List U2)), Fn.Ok f.1 ∧ BkRd f.1.b f.2 := fun f h => by
        obtain ⟨x, hx, rfl⟩ := List.mem_map.mp h
        exact ⟨(hf x hx).1, by show x.b.d = _ ∧ _; rw [(hf x hx).2]; exact ⟨rfl, rfl⟩⟩
      lcg_off
      refine ⟨rcs, fns, rfl, by omega, by omega, hr, hfo, rows_pos hr hfo, fun tk htk => ?_⟩
      lcg_off
      refine ⟨st, ns, s4, tk, rawR (rowsOf rcs fns), rfl, ?_, o4, put_same, hg2, hlB, fun z s5 x hS hz o5 d5 => ?_⟩
      · have : tk ≠ st := fun e => by subst e; rw [put_same] at htk; cases htk
        rw [put_ne (Ne.symm this), put_same]
      · rw [← efs] at hg2 hadj hS
        obtain ⟨T, hL, hT⟩ := prog_lex hr hfu hg2 hadj hS
        have hP : ∀ (m' : M) (Q : DK), Q (.tup [.tup (rcs.map Rc.D), .tup (fns.map Fn.D)]) m' → sp_parse_program [.str z] m' Q noX := fun m' Q h => ⟨z, T, rcs, fns.map fun f => (f, ([] : List U2)), rfl, hz, hL, hr, hfb, by omega, by rw [List.length_map]; omega, hT, by rw [efD]; exact h⟩
        lcg_off
        refine hP _ _ ?_
        lcg_off
        refine use_same hpd ?_
        lcg_off
        refine hP _ _ ?_
        lcg_off
        refine use_same hpd ?_
        exact ⟨_, Less.refl _, q _⟩

theorem main {P : Program} {w : World} {K : PySem.W.Frag} {mg : Str → Option Value} (F_consists_of : FunAt K mg "consists_of" s_consists_of ["word", "characters"]) (F_is_name : FunAt K mg "is_name" s_is_name ["word"]) (F_is_record_name : FunAt K mg "is_record_name" s_is_record_name ["word"]) (F_is_number : FunAt K mg "is_number" s_is_number ["word"]) (F_label_of : FunAt K mg "label_of" s_label_of ["word"]) (F_run_end : FunAt K mg "run_end" s_run_end ["text", "at", "characters"]) (F_token_end : FunAt K mg "token_end" s_token_end ["text", "at"]) (F_split_text : FunAt K mg "split_text" s_split_text ["text"]) (F_parse_program : FunAt K mg "parse_program" s_parse_program ["text"]) (F_read_token : FunAt K mg "read_token" s_read_token ["tokens", "at", "label"]) (F_behind : FunAt K mg "behind" s_behind ["tokens", "at", "label"]) (F_read_name : FunAt K mg "read_name" s_read_name ["tokens", "at"]) (F_read_while_seen : FunAt K mg "read_while_seen" s_read_while_seen ["tokens", "at", "label", "read_part"]) (F_read_list : FunAt K mg "read_list" s_read_list ["tokens", "at", "read_part"]) (F_read_enclosed_list : FunAt K mg "read_enclosed_list" s_read_enclosed_list ["tokens", "at", "read_part"]) (F_read_declared_record : FunAt K mg "read_declared_record" s_read_declared_record ["tokens", "at"]) (F_read_field : FunAt K mg "read_field" s_read_field ["tokens", "at"]) (F_read_function : FunAt K mg "read_function" s_read_function ["tokens", "at"]) (F_read_kind : FunAt K mg "read_kind" s_read_kind ["tokens", "at"]) (F_read_mode : FunAt K mg "read_mode" s_read_mode ["tokens", "at"]) (F_read_tuple_kind : FunAt K mg "read_tuple_kind" s_read_tuple_kind ["tokens", "at"]) (F_read_block : FunAt K mg "read_block" s_read_block ["tokens", "at"]) (F_read_statement : FunAt K mg "read_statement" s_read_statement ["tokens", "at"]) (F_law_pick : FunAt K mg "_law_pick" s_law_pick ["state", "script", "many"]) (F_law_words : FunAt K mg "_law_words" s_law_words []) (F_law_name : FunAt K mg "_law_name" s_law_name ["state", "script"]) (F_law_big : FunAt K mg "_law_big" s_law_big ["state", "script"]) (F_law_same : FunAt K mg "_law_same" s_law_same ["actual", "due"]) (F_law_tree_kind : FunAt K mg "_law_tree_kind" s_law_tree_kind ["state", "script", "room"]) (F_law_fields : FunAt K mg "_law_fields" s_law_fields ["state", "script", "many"]) (F_law_function : FunAt K mg "_law_function" s_law_function ["state", "script", "block"]) (F_law_kind_row : FunAt K mg "_law_kind_row" s_law_kind_row ["kind"]) (F_law_place_row : FunAt K mg "_law_place_row" s_law_place_row ["place"]) (F_law_row : FunAt K mg "_law_row" s_law_row ["tree"]) (F_law_block_rows : FunAt K mg "_law_block_rows" s_law_block_rows ["block", "depth"]) (F_law_field_row : FunAt K mg "_law_field_row" s_law_field_row ["fields"]) (F_law_program_rows : FunAt K mg "_law_program_rows" s_law_program_rows ["program"]) (F_law_raw : FunAt K mg "_law_raw" s_law_raw ["program"]) (F_law_gap : FunAt K mg "_law_gap" s_law_gap ["state", "script", "before", "token"]) (F_law_spaced : FunAt K mg "_law_spaced" s_law_spaced ["state", "script", "tokens", "apart"]) (F_law : FunAt K mg "law" s_law ["script"]) (k_CAPITALS : ConstAt K mg "CAPITALS" c_CAPITALS) (k_DIGITS : ConstAt K mg "DIGITS" c_DIGITS) (k_LONGEST_NAME : ConstAt K mg "LONGEST_NAME" c_LONGEST_NAME) (k_LONGEST_NUMBER : ConstAt K mg "LONGEST_NUMBER" c_LONGEST_NUMBER) (k_RESERVED_WORDS : ConstAt K mg "RESERVED_WORDS" c_RESERVED_WORDS) (k_SIGNS : ConstAt K mg "SIGNS" c_SIGNS) (k_SMALL_LETTERS : ConstAt K mg "SMALL_LETTERS" c_SMALL_LETTERS) (z_abs : mg "abs" = none) (z_all : mg "all" = none) (z_bool : mg "bool" = none) (z_int : mg "int" = none) (z_isinstance : mg "isinstance" = none) (z_len : mg "len" = none) (z_min : mg "min" = none) (z_range : mg "range" = none) (z_str : mg "str" = none) (z_tuple : mg "tuple" = none) : Callee P w K mg 48 "law" ["script"] sp_law := by
  have C_law_pick : Callee P w K mg 1 "_law_pick" ["state", "script", "many"] (sp_law_pick) := ok_law_pick (k := 0) F_law_pick z_int z_len z_abs (by intro _ _ _ _ h; (try unfold sp_law_pick at h); repeat (first | (obtain ⟨rfl, _⟩ := h; rfl) | obtain ⟨_, h⟩ := h)) rd_pick
  have C_law_big : Callee P w K mg 2 "_law_big" ["state", "script"] (sp_law_big) := ok_law_big (k := 1) F_law_big (C_law_pick.mono (by decide)) z_range (by intro _ _ _ _ h; (try unfold sp_law_big at h); repeat (first | (obtain ⟨rfl, _⟩ := h; rfl) | obtain ⟨_, h⟩ := h)) rd_big
  have C_law_tree_kind := rec_tkind F_law_tree_kind C_law_pick C_law_big z_min z_range z_int z_tuple 9
  have C_law_words : Callee P w K mg 1 "_law_words" [] (sp_law_words) := ok_law_words (k := 0) F_law_words (by intro _ _ _ _ h; (try unfold sp_law_words at h); repeat (first | (obtain ⟨rfl, _⟩ := h; rfl) | obtain ⟨_, h⟩ := h)) rd_words
  have C_law_name : Callee P w K mg 2 "_law_name" ["state", "script"] (sp_law_name) := ok_law_name (k := 1) F_law_name (C_law_pick.mono (by decide)) (C_law_words.mono (by decide)) z_range (by intro _ _ _ _ h; (try unfold sp_law_name at h); repeat (first | (obtain ⟨rfl, _⟩ := h; rfl) | obtain ⟨_, h⟩ := h)) rd_name
  have C_law_fields : Callee P w K mg 12 "_law_fields" ["state", "script", "many"] (sp_law_fields) := ok_law_fields (k := 11) F_law_fields (C_law_tree_kind.mono (by decide)) (C_law_name.mono (by decide)) z_range z_tuple (by intro _ _ _ _ h; (try unfold sp_law_fields at h); repeat (first | (obtain ⟨rfl, _⟩ := h; rfl) | obtain ⟨_, h⟩ := h)) rd_fields
  have C_law_function : Callee P w K mg 13 "_law_function" ["state", "script", "block"] (sp_law_function) := ok_law_function (k := 12) F_law_function (C_law_name.mono (by decide)) (C_law_fields.mono (by decide)) (C_law_pick.mono (by decide)) (C_law_tree_kind.mono (by decide)) z_range z_tuple (by intro _ _ _ _ h; (try unfold sp_law_function at h); repeat (first | (obtain ⟨rfl, _⟩ := h; rfl) | obtain ⟨_, h⟩ := h)) rd_function
  have C_law_gap : Callee P w K mg 2 "_law_gap" ["state", "script", "before", "token"] (sp_law_gap) := ok_law_gap (k := 1) F_law_gap (C_law_pick.mono (by decide)) (by intro _ _ _ _ h; (try unfold sp_law_gap at h); repeat (first | (obtain ⟨rfl, _⟩ := h; rfl) | obtain ⟨_, h⟩ := h)) rd_gap
  have C_law_spaced : Callee P w K mg 3 "_law_spaced" ["state", "script", "tokens", "apart"] (sp_law_spaced) := ok_law_spaced (k := 2) F_law_spaced (C_law_gap.mono (by decide)) z_len z_range (by intro _ _ _ _ h; (try unfold sp_law_spaced at h); repeat (first | (obtain ⟨rfl, _⟩ := h; rfl) | obtain ⟨_, h⟩ := h)) rd_spaced
  have C_law_kind_row := rec_krow (P := P) (w := w) F_law_kind_row z_len z_range 9
  have C_law_field_row : Callee P w K mg 10 "_law_field_row" ["fields"] (sp_law_field_row) := ok_law_field_row (k := 9) F_law_field_row (C_law_kind_row.mono (by decide)) z_len z_range (by intro _ _ _ _ h; (try unfold sp_law_field_row at h); repeat (first | (obtain ⟨rfl, _⟩ := h; rfl) | obtain ⟨_, h⟩ := h)) rd_frow
  have C_law_row : Callee P w K mg 0 "_law_row" ["tree"] (fun _ _ _ _ => False) := F_law_row.none fun _ _ _ _ h => h
  have C_law_place_row : Callee P w K mg 0 "_law_place_row" ["place"] (fun _ _ _ _ => False) := F_law_place_row.none fun _ _ _ _ h => h
  have C_law_block_rows := ok_law_block_rows (d_law_block_rows := fun _ _ _ _ => False) (k := 0) F_law_block_rows C_law_row (F_law_block_rows.none fun _ _ _ _ h => h) C_law_place_row (by rintro ds m P EX ⟨_, rfl, _⟩; rfl) rd_brows
  have C_law_program_rows : Callee P w K mg 11 "_law_program_rows" ["program"] (sp_law_program_rows) := ok_law_program_rows (k := 10) F_law_program_rows (C_law_field_row.mono (by decide)) (C_law_kind_row.mono (by decide)) (C_law_block_rows.mono (by decide)) z_int z_len z_range (by intro _ _ _ _ h; (try unfold sp_law_program_rows at h); repeat (first | (obtain ⟨rfl, _⟩ := h; rfl) | obtain ⟨_, h⟩ := h)) rd_prows
  have C_law_raw : Callee P w K mg 12 "_law_raw" ["program"] (sp_law_raw) := ok_law_raw (k := 11) F_law_raw (C_law_program_rows.mono (by decide)) z_len (by intro _ _ _ _ h; (try unfold sp_law_raw at h); repeat (first | (obtain ⟨rfl, _⟩ := h; rfl) | obtain ⟨_, h⟩ := h)) rd_raw
  have C_law_same := rec_law_same (P := P) (w := w) F_law_same z_isinstance z_tuple z_len z_range z_bool z_int z_str 21
  have C_run_end : Callee P w K mg 1 "run_end" ["text", "at", "characters"] (sp_run_end) := ok_run_end (k := 0) F_run_end z_len (by intro _ _ _ _ h; (try unfold sp_run_end at h); repeat (first | (obtain ⟨rfl, _⟩ := h; rfl) | obtain ⟨_, h⟩ := h)) rd_run
  have C_token_end : Callee P w K mg 2 "token_end" ["text", "at"] (sp_token_end) := ok_token_end (k := 1) F_token_end (C_run_end.mono (by decide)) k_SMALL_LETTERS k_CAPITALS k_DIGITS (by intro _ _ _ _ h; (try unfold sp_token_end at h); repeat (first | (obtain ⟨rfl, _⟩ := h; rfl) | obtain ⟨_, h⟩ := h)) rd_tend
  have C_consists_of : Callee P w K mg 1 "consists_of" ["word", "characters"] (sp_consists_of) := ok_consists_of (k := 0) F_consists_of z_all (by intro _ _ _ _ h; (try unfold sp_consists_of at h); repeat (first | (obtain ⟨rfl, _⟩ := h; rfl) | obtain ⟨_, h⟩ := h)) rd_consists
  have C_is_name : Callee P w K mg 2 "is_name" ["word"] (sp_is_name) := ok_is_name (k := 1) F_is_name (C_consists_of.mono (by decide)) k_SMALL_LETTERS k_DIGITS k_LONGEST_NAME k_RESERVED_WORDS z_len (by intro _ _ _ _ h; (try unfold sp_is_name at h); repeat (first | (obtain ⟨rfl, _⟩ := h; rfl) | obtain ⟨_, h⟩ := h)) rd_is_name
  have C_is_record_name : Callee P w K mg 2 "is_record_name" ["word"] (sp_is_rec) := ok_is_record_name (k := 1) F_is_record_name (C_consists_of.mono (by decide)) k_CAPITALS k_SMALL_LETTERS k_DIGITS k_LONGEST_NAME z_len (by intro _ _ _ _ h; (try unfold sp_is_rec at h); repeat (first | (obtain ⟨rfl, _⟩ := h; rfl) | obtain ⟨_, h⟩ := h)) rd_is_rec
  have C_is_number : Callee P w K mg 2 "is_number" ["word"] (sp_is_num) := ok_is_number (k := 1) F_is_number (C_consists_of.mono (by decide)) k_DIGITS k_LONGEST_NUMBER z_len (by intro _ _ _ _ h; (try unfold sp_is_num at h); repeat (first | (obtain ⟨rfl, _⟩ := h; rfl) | obtain ⟨_, h⟩ := h)) rd_is_num
  have C_label_of : Callee P w K mg 3 "label_of" ["word"] (sp_label_of) := ok_label_of (k := 2) F_label_of (C_is_name.mono (by decide)) (C_is_record_name.mono (by decide)) (C_is_number.mono (by decide)) k_RESERVED_WORDS k_SIGNS (by intro _ _ _ _ h; (try unfold sp_label_of at h); repeat (first | (obtain ⟨rfl, _⟩ := h; rfl) | obtain ⟨_, h⟩ := h)) rd_label
  have C_split_text : Callee P w K mg 4 "split_text" ["text"] (sp_split_text) := ok_split_text (k := 3) F_split_text (C_token_end.mono (by decide)) (C_label_of.mono (by decide)) z_len (by intro _ _ _ _ h; (try unfold sp_split_text at h); repeat (first | (obtain ⟨rfl, _⟩ := h; rfl) | obtain ⟨_, h⟩ := h)) rd_split
  have C_read_while_seen : Callee P w K mg 46 "read_while_seen" ["tokens", "at", "label", "read_part"] (sp_rws (CalleeAt P w K mg 45)) := ok_read_while_seen (k := 45) F_read_while_seen z_tuple (by intro _ _ _ _ h; (try unfold sp_rws at h); repeat (first | (obtain ⟨rfl, _⟩ := h; rfl) | obtain ⟨_, h⟩ := h)) (rd_rws _)
  have C_read_token : Callee P w K mg 1 "read_token" ["tokens", "at", "label"] (sp_read_token) := ok_read_token (k := 0) F_read_token (by intro _ _ _ _ h; (try unfold sp_read_token at h); repeat (first | (obtain ⟨rfl, _⟩ := h; rfl) | obtain ⟨_, h⟩ := h)) rd_rtok
  have C_behind : Callee P w K mg 2 "behind" ["tokens", "at", "label"] (sp_behind) := ok_behind (k := 1) F_behind (C_read_token.mono (by decide)) (by intro _ _ _ _ h; (try unfold sp_behind at h); repeat (first | (obtain ⟨rfl, _⟩ := h; rfl) | obtain ⟨_, h⟩ := h)) rd_behind
  have C_read_list : Callee P w K mg 32 "read_list" ["tokens", "at", "read_part"] (sp_read_list (CalleeAt P w K mg 31)) := ok_read_list (k := 31) F_read_list z_tuple (by intro _ _ _ _ h; (try unfold sp_read_list at h); repeat (first | (obtain ⟨rfl, _⟩ := h; rfl) | obtain ⟨_, h⟩ := h)) (rd_rlist _)
  have C_read_name : Callee P w K mg 2 "read_name" ["tokens", "at"] (sp_read_name) := ok_read_name (k := 1) F_read_name (C_read_token.mono (by decide)) (by intro _ _ _ _ h; (try unfold sp_read_name at h); repeat (first | (obtain ⟨rfl, _⟩ := h; rfl) | obtain ⟨_, h⟩ := h)) rd_rname
  have C_read_mode : Callee P w K mg 3 "read_mode" ["tokens", "at"] (sp_read_mode) := ok_read_mode (k := 2) F_read_mode (C_behind.mono (by decide)) (by intro _ _ _ _ h; (try unfold sp_read_mode at h); repeat (first | (obtain ⟨rfl, _⟩ := h; rfl) | obtain ⟨_, h⟩ := h)) rd_rmode
  have C_read_kind := rec_rkind F_read_kind F_read_tuple_kind F_read_list (C_behind.mono (by decide)) (C_read_mode.mono (by decide)) z_tuple 9
  have C_read_field : Callee P w K mg 31 "read_field" ["tokens", "at"] (sp_read_field) := ok_read_field (k := 30) F_read_field (C_read_name.mono (by decide)) (C_behind.mono (by decide)) (C_read_kind.mono (by decide)) (by intro _ _ _ _ h; (try unfold sp_read_field at h); repeat (first | (obtain ⟨rfl, _⟩ := h; rfl) | obtain ⟨_, h⟩ := h)) (rd_rfield 6)
  have C_read_declared_record : Callee P w K mg 33 "read_declared_record" ["tokens", "at"] (sp_read_rec) := ok_read_declared_record (k := 32) (kv := 31) F_read_declared_record (C_read_token.mono (by decide)) (C_behind.mono (by decide)) (C_read_list.mono (by decide)) (C_read_field.mono (by decide)) (by intro _ _ _ _ h; (try unfold sp_read_rec at h); repeat (first | (obtain ⟨rfl, _⟩ := h; rfl) | obtain ⟨_, h⟩ := h)) (rd_rrec _)
  have C_read_enclosed_list : Callee P w K mg 33 "read_enclosed_list" ["tokens", "at", "read_part"] (sp_read_enc (CalleeAt P w K mg 31)) := ok_read_enclosed_list (k := 32) F_read_enclosed_list (C_behind.mono (by decide)) (C_read_list.mono (by decide)) (by intro _ _ _ _ h; (try unfold sp_read_enc at h); repeat (first | (obtain ⟨rfl, _⟩ := h; rfl) | obtain ⟨_, h⟩ := h)) (rd_renc _)
  have C_read_statement : Callee P w K mg 0 "read_statement" ["tokens", "at"] (fun _ _ _ _ => False) := F_read_statement.none fun _ _ _ _ h => h
  have C_read_block : Callee P w K mg 3 "read_block" ["tokens", "at"] (sp_read_block) := ok_read_block (k := 2) F_read_block (C_behind.mono (by decide)) (C_read_statement.mono (by decide)) z_tuple (by intro _ _ _ _ h; (try unfold sp_read_block at h); repeat (first | (obtain ⟨rfl, _⟩ := h; rfl) | obtain ⟨_, h⟩ := h)) rd_rblock09
  have C_read_function : Callee P w K mg 34 "read_function" ["tokens", "at"] (sp_read_fun) := ok_read_function (k := 33) (kv := 31) F_read_function (C_read_name.mono (by decide)) (C_read_enclosed_list.mono (by decide)) (C_behind.mono (by decide)) (C_read_kind.mono (by decide)) (C_read_list.mono (by decide)) (C_read_block.mono (by decide)) (C_read_field.mono (by decide)) (C_read_name.mono (by decide)) (by intro _ _ _ _ h; (try unfold sp_read_fun at h); repeat (first | (obtain ⟨rfl, _⟩ := h; rfl) | obtain ⟨_, h⟩ := h)) (rd_rfun _)
  have C_parse_program : Callee P w K mg 47 "parse_program" ["text"] (sp_parse_program) := ok_parse_program (k := 46) (kv := 45) F_parse_program (C_split_text.mono (by decide)) (C_read_while_seen.mono (by decide)) (C_read_token.mono (by decide)) (C_read_declared_record.mono (by decide)) (C_read_function.mono (by decide)) (by intro _ _ _ _ h; (try unfold sp_parse_program at h); repeat (first | (obtain ⟨rfl, _⟩ := h; rfl) | obtain ⟨_, h⟩ := h)) (rd_parse _)
  have C_law : Callee P w K mg 48 "law" ["script"] (sp_law) := ok_law (k := 47) F_law (C_law_fields.mono (by decide)) (C_law_pick.mono (by decide)) (C_law_big.mono (by decide)) (C_law_function.mono (by decide)) (C_law_spaced.mono (by decide)) (C_law_raw.mono (by decide)) (C_law_same.mono (by decide)) (C_parse_program.mono (by decide)) z_range z_tuple (by intro _ _ _ _ h; (try unfold sp_law at h); repeat (first | (obtain ⟨rfl, _⟩ := h; rfl) | obtain ⟨_, h⟩ := h)) rd_law09
  exact C_law
theorem all_mk {P : Program} {w : World} {K : PySem.W.Frag} {h : Heap} {mg : Str → Option Value} {fa : Addr} (X : K.In h) (G : h.Ns mainGlobals mg) (hfa : mg "law" = some (.ref fa)) {f0 : Addr} {od0 an0 : Option Addr} {sl0 : Array (Option Value)} {oc0 kV0 dc0 pm0 cd0 ct0 : Value} {f1 : Addr} {od1 an1 : Option Addr} {sl1 : Array (Option Value)} {oc1 kV1 dc1 pm1 cd1 ct1 : Value} {f2 : Addr} {od2 an2 : Option Addr} {sl2 : Array (Option Value)} {oc2 kV2 dc2 pm2 cd2 ct2 : Value} {f3 : Addr} {od3 an3 : Option Addr} {sl3 : Array (Option Value)} {oc3 kV3 dc3 pm3 cd3 ct3 : Value} {f4 : Addr} {od4 an4 : Option Addr} {sl4 : Array (Option Value)} {oc4 kV4 dc4 pm4 cd4 ct4 : Value} {f5 : Addr} {od5 an5 : Option Addr} {sl5 : Array (Option Value)} {oc5 kV5 dc5 pm5 cd5 ct5 : Value} {f6 : Addr} {od6 an6 : Option Addr} {sl6 : Array (Option Value)} {oc6 kV6 dc6 pm6 cd6 ct6 : Value} {f7 : Addr} {od7 an7 : Option Addr} {sl7 : Array (Option Value)} {oc7 kV7 dc7 pm7 cd7 ct7 : Value} {f8 : Addr} {od8 an8 : Option Addr} {sl8 : Array (Option Value)} {oc8 kV8 dc8 pm8 cd8 ct8 : Value} {f9 : Addr} {od9 an9 : Option Addr} {sl9 : Array (Option Value)} {oc9 kV9 dc9 pm9 cd9 ct9 : Value} {f10 : Addr} {od10 an10 : Option Addr} {sl10 : Array (Option Value)} {oc10 kV10 dc10 pm10 cd10 ct10 : Value} {f11 : Addr} {od11 an11 : Option Addr} {sl11 : Array (Option Value)} {oc11 kV11 dc11 pm11 cd11 ct11 : Value} {f12 : Addr} {od12 an12 : Option Addr} {sl12 : Array (Option Value)} {oc12 kV12 dc12 pm12 cd12 ct12 : Value} {f13 : Addr} {od13 an13 : Option Addr} {sl13 : Array (Option Value)} {oc13 kV13 dc13 pm13 cd13 ct13 : Value} {f14 : Addr} {od14 an14 : Option Addr} {sl14 : Array (Option Value)} {oc14 kV14 dc14 pm14 cd14 ct14 : Value} {f15 : Addr} {od15 an15 : Option Addr} {sl15 : Array (Option Value)} {oc15 kV15 dc15 pm15 cd15 ct15 : Value} {f16 : Addr} {od16 an16 : Option Addr} {sl16 : Array (Option Value)} {oc16 kV16 dc16 pm16 cd16 ct16 : Value} {f17 : Addr} {od17 an17 : Option Addr} {sl17 : Array (Option Value)} {oc17 kV17 dc17 pm17 cd17 ct17 : Value} {f18 : Addr} {od18 an18 : Option Addr} {sl18 : Array (Option Value)} {oc18 kV18 dc18 pm18 cd18 ct18 : Value} {f19 : Addr} {od19 an19 : Option Addr} {sl19 : Array (Option Value)} {oc19 kV19 dc19 pm19 cd19 ct19 : Value} {f20 : Addr} {od20 an20 : Option Addr} {sl20 : Array (Option Value)} {oc20 kV20 dc20 pm20 cd20 ct20 : Value} {f21 : Addr} {od21 an21 : Option Addr} {sl21 : Array (Option Value)} {oc21 kV21 dc21 pm21 cd21 ct21 : Value} {f22 : Addr} {od22 an22 : Option Addr} {sl22 : Array (Option Value)} {oc22 kV22 dc22 pm22 cd22 ct22 : Value} {f23 : Addr} {od23 an23 : Option Addr} {sl23 : Array (Option Value)} {oc23 kV23 dc23 pm23 cd23 ct23 : Value} {f24 : Addr} {od24 an24 : Option Addr} {sl24 : Array (Option Value)} {oc24 kV24 dc24 pm24 cd24 ct24 : Value} {f25 : Addr} {od25 an25 : Option Addr} {sl25 : Array (Option Value)} {oc25 kV25 dc25 pm25 cd25 ct25 : Value} {f26 : Addr} {od26 an26 : Option Addr} {sl26 : Array (Option Value)} {oc26 kV26 dc26 pm26 cd26 ct26 : Value} {f27 : Addr} {od27 an27 : Option Addr} {sl27 : Array (Option Value)} {oc27 kV27 dc27 pm27 cd27 ct27 : Value} {f28 : Addr} {od28 an28 : Option Addr} {sl28 : Array (Option Value)} {oc28 kV28 dc28 pm28 cd28 ct28 : Value} {f29 : Addr} {od29 an29 : Option Addr} {sl29 : Array (Option Value)} {oc29 kV29 dc29 pm29 cd29 ct29 : Value} {f30 : Addr} {od30 an30 : Option Addr} {sl30 : Array (Option Value)} {oc30 kV30 dc30 pm30 cd30 ct30 : Value} {f31 : Addr} {od31 an31 : Option Addr} {sl31 : Array (Option Value)} {oc31 kV31 dc31 pm31 cd31 ct31 : Value} {f32 : Addr} {od32 an32 : Option Addr} {sl32 : Array (Option Value)} {oc32 kV32 dc32 pm32 cd32 ct32 : Value} {f33 : Addr} {od33 an33 : Option Addr} {sl33 : Array (Option Value)} {oc33 kV33 dc33 pm33 cd33 ct33 : Value} {f34 : Addr} {od34 an34 : Option Addr} {sl34 : Array (Option Value)} {oc34 kV34 dc34 pm34 cd34 ct34 : Value} {f35 : Addr} {od35 an35 : Option Addr} {sl35 : Array (Option Value)} {oc35 kV35 dc35 pm35 cd35 ct35 : Value} {f36 : Addr} {od36 an36 : Option Addr} {sl36 : Array (Option Value)} {oc36 kV36 dc36 pm36 cd36 ct36 : Value} {f37 : Addr} {od37 an37 : Option Addr} {sl37 : Array (Option Value)} {oc37 kV37 dc37 pm37 cd37 ct37 : Value} {f38 : Addr} {od38 an38 : Option Addr} {sl38 : Array (Option Value)} {oc38 kV38 dc38 pm38 cd38 ct38 : Value} {f39 : Addr} {od39 an39 : Option Addr} {sl39 : Array (Option Value)} {oc39 kV39 dc39 pm39 cd39 ct39 : Value} {f40 : Addr} {od40 an40 : Option Addr} {sl40 : Array (Option Value)} {oc40 kV40 dc40 pm40 cd40 ct40 : Value} {tc0 : Tok} {tc1 : Tok} {tc2 : Tok} {tc3 : Tok} {g4 : Addr} {gd4 : Option Addr} {gn4 : Nat} {gs4 : Array (Option Value)} {t4_0 t4_1 t4_2 t4_3 t4_4 t4_5 t4_6 t4_7 t4_8 t4_9 t4_10 t4_11 t4_12 t4_13 t4_14 t4_15 t4_16 t4_17 t4_18 t4_19 t4_20 t4_21 t4_22 t4_23 t4_24 t4_25 t4_26 : Tok} {g5 : Addr} {gd5 : Option Addr} {gn5 : Nat} {gs5 : Array (Option Value)} {t5_0 t5_1 t5_2 t5_3 t5_4 t5_5 t5_6 t5_7 t5_8 t5_9 t5_10 t5_11 t5_12 t5_13 t5_14 t5_15 t5_16 t5_17 t5_18 t5_19 : Tok} {tc6 : Tok}
    (a0 : PySem.W.nsIn K mainGlobals "consists_of" = some (some (.ref f0)))
    (l0 : K.lookup f0 = some ⟨oc0, od0, .func (PySem.W.fnOf "consists_of" "consists_of" (defArgs s_consists_of) (defBody s_consists_of) (defScope s_consists_of) .none kV0 dc0 pm0 an0 cd0 ct0), sl0⟩)
    (c0 : PySem.W.codeIn K cd0 "consists_of" = true) (k0 : PySem.W.keepIn K (.ref f0) = true)
    (a1 : PySem.W.nsIn K mainGlobals "is_name" = some (some (.ref f1)))
    (l1 : K.lookup f1 = some ⟨oc1, od1, .func (PySem.W.fnOf "is_name" "is_name" (defArgs s_is_name) (defBody s_is_name) (defScope s_is_name) .none kV1 dc1 pm1 an1 cd1 ct1), sl1⟩)
    (c1 : PySem.W.codeIn K cd1 "is_name" = true) (k1 : PySem.W.keepIn K (.ref f1) = true)
    (a2 : PySem.W.nsIn K mainGlobals "is_record_name" = some (some (.ref f2)))
    (l2 : K.lookup f2 = some ⟨oc2, od2, .func (PySem.W.fnOf "is_record_name" "is_record_name" (defArgs s_is_record_name) (defBody s_is_record_name) (defScope s_is_record_name) .none kV2 dc2 pm2 an2 cd2 ct2), sl2⟩)
    (c2 : PySem.W.codeIn K cd2 "is_record_name" = true) (k2 : PySem.W.keepIn K (.ref f2) = true)
    (a3 : PySem.W.nsIn K mainGlobals "is_number" = some (some (.ref f3)))
    (l3 : K.lookup f3 = some ⟨oc3, od3, .func (PySem.W.fnOf "is_number" "is_number" (defArgs s_is_number) (defBody s_is_number) (defScope s_is_number) .none kV3 dc3 pm3 an3 cd3 ct3), sl3⟩)
    (c3 : PySem.W.codeIn K cd3 "is_number" = true) (k3 : PySem.W.keepIn K (.ref f3) = true)
    (a4 : PySem.W.nsIn K mainGlobals "label_of" = some (some (.ref f4)))
    (l4 : K.lookup f4 = some ⟨oc4, od4, .func (PySem.W.fnOf "label_of" "label_of" (defArgs s_label_of) (defBody s_label_of) (defScope s_label_of) .none kV4 dc4 pm4 an4 cd4 ct4), sl4⟩)
    (c4 : PySem.W.codeIn K cd4 "label_of" = true) (k4 : PySem.W.keepIn K (.ref f4) = true)
    (a5 : PySem.W.nsIn K mainGlobals "run_end" = some (some (.ref f5)))
    (l5 : K.lookup f5 = some ⟨oc5, od5, .func (PySem.W.fnOf "run_end" "run_end" (defArgs s_run_end) (defBody s_run_end) (defScope s_run_end) .none kV5 dc5 pm5 an5 cd5 ct5), sl5⟩)
    (c5 : PySem.W.codeIn K cd5 "run_end" = true) (k5 : PySem.W.keepIn K (.ref f5) = true)
    (a6 : PySem.W.nsIn K mainGlobals "token_end" = some (some (.ref f6)))
    (l6 : K.lookup f6 = some ⟨oc6, od6, .func (PySem.W.fnOf "token_end" "token_end" (defArgs s_token_end) (defBody s_token_end) (defScope s_token_end) .none kV6 dc6 pm6 an6 cd6 ct6), sl6⟩)
    (c6 : PySem.W.codeIn K cd6 "token_end" = true) (k6 : PySem.W.keepIn K (.ref f6) = true)
    (a7 : PySem.W.nsIn K mainGlobals "split_text" = some (some (.ref f7)))
    (l7 : K.lookup f7 = some ⟨oc7, od7, .func (PySem.W.fnOf "split_text" "split_text" (defArgs s_split_text) (defBody s_split_text) (defScope s_split_text) .none kV7 dc7 pm7 an7 cd7 ct7), sl7⟩)
    (c7 : PySem.W.codeIn K cd7 "split_text" = true) (k7 : PySem.W.keepIn K (.ref f7) = true)
    (a8 : PySem.W.nsIn K mainGlobals "parse_program" = some (some (.ref f8)))
    (l8 : K.lookup f8 = some ⟨oc8, od8, .func (PySem.W.fnOf "parse_program" "parse_program" (defArgs s_parse_program) (defBody s_parse_program) (defScope s_parse_program) .none kV8 dc8 pm8 an8 cd8 ct8), sl8⟩)
    (c8 : PySem.W.codeIn K cd8 "parse_program" = true) (k8 : PySem.W.keepIn K (.ref f8) = true)
    (a9 : PySem.W.nsIn K mainGlobals "read_token" = some (some (.ref f9)))
    (l9 : K.lookup f9 = some ⟨oc9, od9, .func (PySem.W.fnOf "read_token" "read_token" (defArgs s_read_token) (defBody s_read_token) (defScope s_read_token) .none kV9 dc9 pm9 an9 cd9 ct9), sl9⟩)
    (c9 : PySem.W.codeIn K cd9 "read_token" = true) (k9 : PySem.W.keepIn K (.ref f9) = true)
    (a10 : PySem.W.nsIn K mainGlobals "behind" = some (some (.ref f10)))
    (l10 : K.lookup f10 = some ⟨oc10, od10, .func (PySem.W.fnOf "behind" "behind" (defArgs s_behind) (defBody s_behind) (defScope s_behind) .none kV10 dc10 pm10 an10 cd10 ct10), sl10⟩)
    (c10 : PySem.W.codeIn K cd10 "behind" = true) (k10 : PySem.W.keepIn K (.ref f10) = true)
    (a11 : PySem.W.nsIn K mainGlobals "read_name" = some (some (.ref f11)))
    (l11 : K.lookup f11 = some ⟨oc11, od11, .func (PySem.W.fnOf "read_name" "read_name" (defArgs s_read_name) (defBody s_read_name) (defScope s_read_name) .none kV11 dc11 pm11 an11 cd11 ct11), sl11⟩)
    (c11 : PySem.W.codeIn K cd11 "read_name" = true) (k11 : PySem.W.keepIn K (.ref f11) = true)
    (a12 : PySem.W.nsIn K mainGlobals "read_while_seen" = some (some (.ref f12)))
    (l12 : K.lookup f12 = some ⟨oc12, od12, .func (PySem.W.fnOf "read_while_seen" "read_while_seen" (defArgs s_read_while_seen) (defBody s_read_while_seen) (defScope s_read_while_seen) .none kV12 dc12 pm12 an12 cd12 ct12), sl12⟩)
    (c12 : PySem.W.codeIn K cd12 "read_while_seen" = true) (k12 : PySem.W.keepIn K (.ref f12) = true)
    (a13 : PySem.W.nsIn K mainGlobals "read_list" = some (some (.ref f13)))
    (l13 : K.lookup f13 = some ⟨oc13, od13, .func (PySem.W.fnOf "read_list" "read_list" (defArgs s_read_list) (defBody s_read_list) (defScope s_read_list) .none kV13 dc13 pm13 an13 cd13 ct13), sl13⟩)
    (c13 : PySem.W.codeIn K cd13 "read_list" = true) (k13 : PySem.W.keepIn K (.ref f13) = true)
    (a14 : PySem.W.nsIn K mainGlobals "read_enclosed_list" = some (some (.ref f14)))
    (l14 : K.lookup f14 = some ⟨oc14, od14, .func (PySem.W.fnOf "read_enclosed_list" "read_enclosed_list" (defArgs s_read_enclosed_list) (defBody s_read_enclosed_list) (defScope s_read_enclosed_list) .none kV14 dc14 pm14 an14 cd14 ct14), sl14⟩)
    (c14 : PySem.W.codeIn K cd14 "read_enclosed_list" = true) (k14 : PySem.W.keepIn K (.ref f14) = true)
    (a15 : PySem.W.nsIn K mainGlobals "read_declared_record" = some (some (.ref f15)))
    (l15 : K.lookup f15 = some ⟨oc15, od15, .func (PySem.W.fnOf "read_declared_record" "read_declared_record" (defArgs s_read_declared_record) (defBody s_read_declared_record) (defScope s_read_declared_record) .none kV15 dc15 pm15 an15 cd15 ct15), sl15⟩)
    (c15 : PySem.W.codeIn K cd15 "read_declared_record" = true) (k15 : PySem.W.keepIn K (.ref f15) = true)
    (a16 : PySem.W.nsIn K mainGlobals "read_field" = some (some (.ref f16)))
    (l16 : K.lookup f16 = some ⟨oc16, od16, .func (PySem.W.fnOf "read_field" "read_field" (defArgs s_read_field) (defBody s_read_field) (defScope s_read_field) .none kV16 dc16 pm16 an16 cd16 ct16), sl16⟩)
    (c16 : PySem.W.codeIn K cd16 "read_field" = true) (k16 : PySem.W.keepIn K (.ref f16) = true)
    (a17 : PySem.W.nsIn K mainGlobals "read_function" = some (some (.ref f17)))
    (l17 : K.lookup f17 = some ⟨oc17, od17, .func (PySem.W.fnOf "read_function" "read_function" (defArgs s_read_function) (defBody s_read_function) (defScope s_read_function) .none kV17 dc17 pm17 an17 cd17 ct17), sl17⟩)
    (c17 : PySem.W.codeIn K cd17 "read_function" = true) (k17 : PySem.W.keepIn K (.ref f17) = true)
    (a18 : PySem.W.nsIn K mainGlobals "read_kind" = some (some (.ref f18)))
    (l18 : K.lookup f18 = some ⟨oc18, od18, .func (PySem.W.fnOf "read_kind" "read_kind" (defArgs s_read_kind) (defBody s_read_kind) (defScope s_read_kind) .none kV18 dc18 pm18 an18 cd18 ct18), sl18⟩)
    (c18 : PySem.W.codeIn K cd18 "read_kind" = true) (k18 : PySem.W.keepIn K (.ref f18) = true)
    (a19 : PySem.W.nsIn K mainGlobals "read_mode" = some (some (.ref f19)))
    (l19 : K.lookup f19 = some ⟨oc19, od19, .func (PySem.W.fnOf "read_mode" "read_mode" (defArgs s_read_mode) (defBody s_read_mode) (defScope s_read_mode) .none kV19 dc19 pm19 an19 cd19 ct19), sl19⟩)
    (c19 : PySem.W.codeIn K cd19 "read_mode" = true) (k19 : PySem.W.keepIn K (.ref f19) = true)
    (a20 : PySem.W.nsIn K mainGlobals "read_tuple_kind" = some (some (.ref f20)))
    (l20 : K.lookup f20 = some ⟨oc20, od20, .func (PySem.W.fnOf "read_tuple_kind" "read_tuple_kind" (defArgs s_read_tuple_kind) (defBody s_read_tuple_kind) (defScope s_read_tuple_kind) .none kV20 dc20 pm20 an20 cd20 ct20), sl20⟩)
    (c20 : PySem.W.codeIn K cd20 "read_tuple_kind" = true) (k20 : PySem.W.keepIn K (.ref f20) = true)
    (a21 : PySem.W.nsIn K mainGlobals "read_block" = some (some (.ref f21)))
    (l21 : K.lookup f21 = some ⟨oc21, od21, .func (PySem.W.fnOf "read_block" "read_block" (defArgs s_read_block) (defBody s_read_block) (defScope s_read_block) .none kV21 dc21 pm21 an21 cd21 ct21), sl21⟩)
    (c21 : PySem.W.codeIn K cd21 "read_block" = true) (k21 : PySem.W.keepIn K (.ref f21) = true)
    (a22 : PySem.W.nsIn K mainGlobals "read_statement" = some (some (.ref f22)))
    (l22 : K.lookup f22 = some ⟨oc22, od22, .func (PySem.W.fnOf "read_statement" "read_statement" (defArgs s_read_statement) (defBody s_read_statement) (defScope s_read_statement) .none kV22 dc22 pm22 an22 cd22 ct22), sl22⟩)
    (c22 : PySem.W.codeIn K cd22 "read_statement" = true) (k22 : PySem.W.keepIn K (.ref f22) = true)
    (a23 : PySem.W.nsIn K mainGlobals "_law_pick" = some (some (.ref f23)))
    (l23 : K.lookup f23 = some ⟨oc23, od23, .func (PySem.W.fnOf "_law_pick" "_law_pick" (defArgs s_law_pick) (defBody s_law_pick) (defScope s_law_pick) .none kV23 dc23 pm23 an23 cd23 ct23), sl23⟩)
    (c23 : PySem.W.codeIn K cd23 "_law_pick" = true) (k23 : PySem.W.keepIn K (.ref f23) = true)
    (a24 : PySem.W.nsIn K mainGlobals "_law_words" = some (some (.ref f24)))
    (l24 : K.lookup f24 = some ⟨oc24, od24, .func (PySem.W.fnOf "_law_words" "_law_words" (defArgs s_law_words) (defBody s_law_words) (defScope s_law_words) .none kV24 dc24 pm24 an24 cd24 ct24), sl24⟩)
    (c24 : PySem.W.codeIn K cd24 "_law_words" = true) (k24 : PySem.W.keepIn K (.ref f24) = true)
    (a25 : PySem.W.nsIn K mainGlobals "_law_name" = some (some (.ref f25)))
    (l25 : K.lookup f25 = some ⟨oc25, od25, .func (PySem.W.fnOf "_law_name" "_law_name" (defArgs s_law_name) (defBody s_law_name) (defScope s_law_name) .none kV25 dc25 pm25 an25 cd25 ct25), sl25⟩)
    (c25 : PySem.W.codeIn K cd25 "_law_name" = true) (k25 : PySem.W.keepIn K (.ref f25) = true)
    (a26 : PySem.W.nsIn K mainGlobals "_law_big" = some (some (.ref f26)))
    (l26 : K.lookup f26 = some ⟨oc26, od26, .func (PySem.W.fnOf "_law_big" "_law_big" (defArgs s_law_big) (defBody s_law_big) (defScope s_law_big) .none kV26 dc26 pm26 an26 cd26 ct26), sl26⟩)
    (c26 : PySem.W.codeIn K cd26 "_law_big" = true) (k26 : PySem.W.keepIn K (.ref f26) = true)
    (a27 : PySem.W.nsIn K mainGlobals "_law_same" = some (some (.ref f27)))
    (l27 : K.lookup f27 = some ⟨oc27, od27, .func (PySem.W.fnOf "_law_same" "_law_same" (defArgs s_law_same) (defBody s_law_same) (defScope s_law_same) .none kV27 dc27 pm27 an27 cd27 ct27), sl27⟩)
    (c27 : PySem.W.codeIn K cd27 "_law_same" = true) (k27 : PySem.W.keepIn K (.ref f27) = true)
    (a28 : PySem.W.nsIn K mainGlobals "_law_tree_kind" = some (some (.ref f28)))
    (l28 : K.lookup f28 = some ⟨oc28, od28, .func (PySem.W.fnOf "_law_tree_kind" "_law_tree_kind" (defArgs s_law_tree_kind) (defBody s_law_tree_kind) (defScope s_law_tree_kind) .none kV28 dc28 pm28 an28 cd28 ct28), sl28⟩)
    (c28 : PySem.W.codeIn K cd28 "_law_tree_kind" = true) (k28 : PySem.W.keepIn K (.ref f28) = true)
    (a29 : PySem.W.nsIn K mainGlobals "_law_fields" = some (some (.ref f29)))
    (l29 : K.lookup f29 = some ⟨oc29, od29, .func (PySem.W.fnOf "_law_fields" "_law_fields" (defArgs s_law_fields) (defBody s_law_fields) (defScope s_law_fields) .none kV29 dc29 pm29 an29 cd29 ct29), sl29⟩)
    (c29 : PySem.W.codeIn K cd29 "_law_fields" = true) (k29 : PySem.W.keepIn K (.ref f29) = true)
    (a30 : PySem.W.nsIn K mainGlobals "_law_function" = some (some (.ref f30)))
    (l30 : K.lookup f30 = some ⟨oc30, od30, .func (PySem.W.fnOf "_law_function" "_law_function" (defArgs s_law_function) (defBody s_law_function) (defScope s_law_function) .none kV30 dc30 pm30 an30 cd30 ct30), sl30⟩)
    (c30 : PySem.W.codeIn K cd30 "_law_function" = true) (k30 : PySem.W.keepIn K (.ref f30) = true)
    (a31 : PySem.W.nsIn K mainGlobals "_law_kind_row" = some (some (.ref f31)))
    (l31 : K.lookup f31 = some ⟨oc31, od31, .func (PySem.W.fnOf "_law_kind_row" "_law_kind_row" (defArgs s_law_kind_row) (defBody s_law_kind_row) (defScope s_law_kind_row) .none kV31 dc31 pm31 an31 cd31 ct31), sl31⟩)
    (c31 : PySem.W.codeIn K cd31 "_law_kind_row" = true) (k31 : PySem.W.keepIn K (.ref f31) = true)
    (a32 : PySem.W.nsIn K mainGlobals "_law_place_row" = some (some (.ref f32)))
    (l32 : K.lookup f32 = some ⟨oc32, od32, .func (PySem.W.fnOf "_law_place_row" "_law_place_row" (defArgs s_law_place_row) (defBody s_law_place_row) (defScope s_law_place_row) .none kV32 dc32 pm32 an32 cd32 ct32), sl32⟩)
    (c32 : PySem.W.codeIn K cd32 "_law_place_row" = true) (k32 : PySem.W.keepIn K (.ref f32) = true)
    (a33 : PySem.W.nsIn K mainGlobals "_law_row" = some (some (.ref f33)))
    (l33 : K.lookup f33 = some ⟨oc33, od33, .func (PySem.W.fnOf "_law_row" "_law_row" (defArgs s_law_row) (defBody s_law_row) (defScope s_law_row) .none kV33 dc33 pm33 an33 cd33 ct33), sl33⟩)
    (c33 : PySem.W.codeIn K cd33 "_law_row" = true) (k33 : PySem.W.keepIn K (.ref f33) = true)
    (a34 : PySem.W.nsIn K mainGlobals "_law_block_rows" = some (some (.ref f34)))
    (l34 : K.lookup f34 = some ⟨oc34, od34, .func (PySem.W.fnOf "_law_block_rows" "_law_block_rows" (defArgs s_law_block_rows) (defBody s_law_block_rows) (defScope s_law_block_rows) .none kV34 dc34 pm34 an34 cd34 ct34), sl34⟩)
    (c34 : PySem.W.codeIn K cd34 "_law_block_rows" = true) (k34 : PySem.W.keepIn K (.ref f34) = true)
    (a35 : PySem.W.nsIn K mainGlobals "_law_field_row" = some (some (.ref f35)))
    (l35 : K.lookup f35 = some ⟨oc35, od35, .func (PySem.W.fnOf "_law_field_row" "_law_field_row" (defArgs s_law_field_row) (defBody s_law_field_row) (defScope s_law_field_row) .none kV35 dc35 pm35 an35 cd35 ct35), sl35⟩)
    (c35 : PySem.W.codeIn K cd35 "_law_field_row" = true) (k35 : PySem.W.keepIn K (.ref f35) = true)
    (a36 : PySem.W.nsIn K mainGlobals "_law_program_rows" = some (some (.ref f36)))
    (l36 : K.lookup f36 = some ⟨oc36, od36, .func (PySem.W.fnOf "_law_program_rows" "_law_program_rows" (defArgs s_law_program_rows) (defBody s_law_program_rows) (defScope s_law_program_rows) .none kV36 dc36 pm36 an36 cd36 ct36), sl36⟩)
    (c36 : PySem.W.codeIn K cd36 "_law_program_rows" = true) (k36 : PySem.W.keepIn K (.ref f36) = true)
    (a37 : PySem.W.nsIn K mainGlobals "_law_raw" = some (some (.ref f37)))
    (l37 : K.lookup f37 = some ⟨oc37, od37, .func (PySem.W.fnOf "_law_raw" "_law_raw" (defArgs s_law_raw) (defBody s_law_raw) (defScope s_law_raw) .none kV37 dc37 pm37 an37 cd37 ct37), sl37⟩)
    (c37 : PySem.W.codeIn K cd37 "_law_raw" = true) (k37 : PySem.W.keepIn K (.ref f37) = true)
    (a38 : PySem.W.nsIn K mainGlobals "_law_gap" = some (some (.ref f38)))
    (l38 : K.lookup f38 = some ⟨oc38, od38, .func (PySem.W.fnOf "_law_gap" "_law_gap" (defArgs s_law_gap) (defBody s_law_gap) (defScope s_law_gap) .none kV38 dc38 pm38 an38 cd38 ct38), sl38⟩)
    (c38 : PySem.W.codeIn K cd38 "_law_gap" = true) (k38 : PySem.W.keepIn K (.ref f38) = true)
    (a39 : PySem.W.nsIn K mainGlobals "_law_spaced" = some (some (.ref f39)))
    (l39 : K.lookup f39 = some ⟨oc39, od39, .func (PySem.W.fnOf "_law_spaced" "_law_spaced" (defArgs s_law_spaced) (defBody s_law_spaced) (defScope s_law_spaced) .none kV39 dc39 pm39 an39 cd39 ct39), sl39⟩)
    (c39 : PySem.W.codeIn K cd39 "_law_spaced" = true) (k39 : PySem.W.keepIn K (.ref f39) = true)
    (a40 : PySem.W.nsIn K mainGlobals "law" = some (some (.ref f40)))
    (l40 : K.lookup f40 = some ⟨oc40, od40, .func (PySem.W.fnOf "law" "law" (defArgs s_law) (defBody s_law) (defScope s_law) .none kV40 dc40 pm40 an40 cd40 ct40), sl40⟩)
    (c40 : PySem.W.codeIn K cd40 "law" = true) (k40 : PySem.W.keepIn K (.ref f40) = true)
    (b0 : PySem.W.nsIn K mainGlobals "CAPITALS" = some (some (.str "ABCDEFGHIJKLMNOPQRSTUVWXYZ" tc0)))
    (b1 : PySem.W.nsIn K mainGlobals "DIGITS" = some (some (.str "0123456789" tc1)))
    (b2 : PySem.W.nsIn K mainGlobals "LONGEST_NAME" = some (some (.int 20 tc2)))
    (b3 : PySem.W.nsIn K mainGlobals "LONGEST_NUMBER" = some (some (.int 10 tc3)))
    (b4 : PySem.W.nsIn K mainGlobals "RESERVED_WORDS" = some (some (.ref g4)))
    (e4 : K.lookup g4 = some ⟨.type "tuple", gd4, .seq #[.str "and" t4_0, .str "bool" t4_1, .str "box" t4_2, .str "do" t4_3, .str "else" t4_4, .str "false" t4_5, .str "fn" t4_6, .str "from" t4_7, .str "if" t4_8, .str "int" t4_9, .str "is" t4_10, .str "let" t4_11, .str "maybe" t4_12, .str "mut" t4_13, .str "none" t4_14, .str "not" t4_15, .str "or" t4_16, .str "print" t4_17, .str "record" t4_18, .str "return" t4_19, .str "some" t4_20, .str "swap" t4_21, .str "true" t4_22, .str "unbox" t4_23, .str "unit" t4_24, .str "while" t4_25, .str "with" t4_26] gn4, gs4⟩)
    (b5 : PySem.W.nsIn K mainGlobals "SIGNS" = some (some (.ref g5)))
    (e5 : K.lookup g5 = some ⟨.type "tuple", gd5, .seq #[.str "->" t5_0, .str "==" t5_1, .str "{" t5_2, .str "}" t5_3, .str "(" t5_4, .str ")" t5_5, .str "[" t5_6, .str "]" t5_7, .str "," t5_8, .str ";" t5_9, .str ":" t5_10, .str "." t5_11, .str "?" t5_12, .str "^" t5_13, .str "&" t5_14, .str "+" t5_15, .str "-" t5_16, .str "*" t5_17, .str "<" t5_18, .str "=" t5_19] gn5, gs5⟩)
    (b6 : PySem.W.nsIn K mainGlobals "SMALL_LETTERS" = some (some (.str "abcdefghijklmnopqrstuvwxyz" tc6)))
    (z0 : PySem.W.nsIn K mainGlobals "abs" = some none)
    (z1 : PySem.W.nsIn K mainGlobals "all" = some none)
    (z2 : PySem.W.nsIn K mainGlobals "bool" = some none)
    (z3 : PySem.W.nsIn K mainGlobals "int" = some none)
    (z4 : PySem.W.nsIn K mainGlobals "isinstance" = some none)
    (z5 : PySem.W.nsIn K mainGlobals "len" = some none)
    (z6 : PySem.W.nsIn K mainGlobals "min" = some none)
    (z7 : PySem.W.nsIn K mainGlobals "range" = some none)
    (z8 : PySem.W.nsIn K mainGlobals "str" = some none)
    (z9 : PySem.W.nsIn K mainGlobals "tuple" = some none) :
    ∃ fd : FuncData, (∀ (s : Shared) (v : Value), BindsTo s fd ⟨[v], []⟩ [("script", v)]) ∧ ∀ base : Heap, K.In base → base.Ns mainGlobals mg → FnOk P w K mg base CX0 48 fa fd ["script"] (lSp K sp_law) :=
  law_end (main (FunAt.of X G a0 l0 c0 k0 fun _ _ _ _ _ _ us hl => match us, hl with | [_, _], _ => rfl)
    (FunAt.of X G a1 l1 c1 k1 fun _ _ _ _ _ _ us hl => match us, hl with | [_], _ => rfl)
    (FunAt.of X G a2 l2 c2 k2 fun _ _ _ _ _ _ us hl => match us, hl with | [_], _ => rfl)
    (FunAt.of X G a3 l3 c3 k3 fun _ _ _ _ _ _ us hl => match us, hl with | [_], _ => rfl)
    (FunAt.of X G a4 l4 c4 k4 fun _ _ _ _ _ _ us hl => match us, hl with | [_], _ => rfl)
    (FunAt.of X G a5 l5 c5 k5 fun _ _ _ _ _ _ us hl => match us, hl with | [_, _, _], _ => rfl)
    (FunAt.of X G a6 l6 c6 k6 fun _ _ _ _ _ _ us hl => match us, hl with | [_, _], _ => rfl)
    (FunAt.of X G a7 l7 c7 k7 fun _ _ _ _ _ _ us hl => match us, hl with | [_], _ => rfl)
    (FunAt.of X G a8 l8 c8 k8 fun _ _ _ _ _ _ us hl => match us, hl with | [_], _ => rfl)
    (FunAt.of X G a9 l9 c9 k9 fun _ _ _ _ _ _ us hl => match us, hl with | [_, _, _], _ => rfl)
    (FunAt.of X G a10 l10 c10 k10 fun _ _ _ _ _ _ us hl => match us, hl with | [_, _, _], _ => rfl)
    (FunAt.of X G a11 l11 c11 k11 fun _ _ _ _ _ _ us hl => match us, hl with | [_, _], _ => rfl)
    (FunAt.of X G a12 l12 c12 k12 fun _ _ _ _ _ _ us hl => match us, hl with | [_, _, _, _], _ => rfl)
    (FunAt.of X G a13 l13 c13 k13 fun _ _ _ _ _ _ us hl => match us, hl with | [_, _, _], _ => rfl)
    (FunAt.of X G a14 l14 c14 k14 fun _ _ _ _ _ _ us hl => match us, hl with | [_, _, _], _ => rfl)
    (FunAt.of X G a15 l15 c15 k15 fun _ _ _ _ _ _ us hl => match us, hl with | [_, _], _ => rfl)
    (FunAt.of X G a16 l16 c16 k16 fun _ _ _ _ _ _ us hl => match us, hl with | [_, _], _ => rfl)
    (FunAt.of X G a17 l17 c17 k17 fun _ _ _ _ _ _ us hl => match us, hl with | [_, _], _ => rfl)
    (FunAt.of X G a18 l18 c18 k18 fun _ _ _ _ _ _ us hl => match us, hl with | [_, _], _ => rfl)
    (FunAt.of X G a19 l19 c19 k19 fun _ _ _ _ _ _ us hl => match us, hl with | [_, _], _ => rfl)
    (FunAt.of X G a20 l20 c20 k20 fun _ _ _ _ _ _ us hl => match us, hl with | [_, _], _ => rfl)
    (FunAt.of X G a21 l21 c21 k21 fun _ _ _ _ _ _ us hl => match us, hl with | [_, _], _ => rfl)
    (FunAt.of X G a22 l22 c22 k22 fun _ _ _ _ _ _ us hl => match us, hl with | [_, _], _ => rfl)
    (FunAt.of X G a23 l23 c23 k23 fun _ _ _ _ _ _ us hl => match us, hl with | [_, _, _], _ => rfl)
    (FunAt.of X G a24 l24 c24 k24 fun _ _ _ _ _ _ us hl => match us, hl with | [], _ => rfl)
    (FunAt.of X G a25 l25 c25 k25 fun _ _ _ _ _ _ us hl => match us, hl with | [_, _], _ => rfl)
    (FunAt.of X G a26 l26 c26 k26 fun _ _ _ _ _ _ us hl => match us, hl with | [_, _], _ => rfl)
    (FunAt.of X G a27 l27 c27 k27 fun _ _ _ _ _ _ us hl => match us, hl with | [_, _], _ => rfl)
    (FunAt.of X G a28 l28 c28 k28 fun _ _ _ _ _ _ us hl => match us, hl with | [_, _, _], _ => rfl)
    (FunAt.of X G a29 l29 c29 k29 fun _ _ _ _ _ _ us hl => match us, hl with | [_, _, _], _ => rfl)
    (FunAt.of X G a30 l30 c30 k30 fun _ _ _ _ _ _ us hl => match us, hl with | [_, _, _], _ => rfl)
    (FunAt.of X G a31 l31 c31 k31 fun _ _ _ _ _ _ us hl => match us, hl with | [_], _ => rfl)
    (FunAt.of X G a32 l32 c32 k32 fun _ _ _ _ _ _ us hl => match us, hl with | [_], _ => rfl)
    (FunAt.of X G a33 l33 c33 k33 fun _ _ _ _ _ _ us hl => match us, hl with | [_], _ => rfl)
    (FunAt.of X G a34 l34 c34 k34 fun _ _ _ _ _ _ us hl => match us, hl with | [_, _], _ => rfl)
    (FunAt.of X G a35 l35 c35 k35 fun _ _ _ _ _ _ us hl => match us, hl with | [_], _ => rfl)
    (FunAt.of X G a36 l36 c36 k36 fun _ _ _ _ _ _ us hl => match us, hl with | [_], _ => rfl)
    (FunAt.of X G a37 l37 c37 k37 fun _ _ _ _ _ _ us hl => match us, hl with | [_], _ => rfl)
    (FunAt.of X G a38 l38 c38 k38 fun _ _ _ _ _ _ us hl => match us, hl with | [_, _, _, _], _ => rfl)
    (FunAt.of X G a39 l39 c39 k39 fun _ _ _ _ _ _ us hl => match us, hl with | [_, _, _, _], _ => rfl)
    (FunAt.of X G a40 l40 c40 k40 fun _ _ _ _ _ _ us hl => match us, hl with | [_], _ => rfl)
    ⟨.str "ABCDEFGHIJKLMNOPQRSTUVWXYZ", .str "ABCDEFGHIJKLMNOPQRSTUVWXYZ" tc0, PySem.W.mg_of X G b0, ⟨tc0, rfl⟩, fun _ => .str _⟩
    ⟨.str "0123456789", .str "0123456789" tc1, PySem.W.mg_of X G b1, ⟨tc1, rfl⟩, fun _ => .str _⟩
    ⟨.int 20, .int 20 tc2, PySem.W.mg_of X G b2, ⟨tc2, rfl⟩, fun _ => .int _⟩
    ⟨.int 10, .int 10 tc3, PySem.W.mg_of X G b3, ⟨tc3, rfl⟩, fun _ => .int _⟩
    (ConstAt.tup (vs := [.str "and", .str "bool", .str "box", .str "do", .str "else", .str "false", .str "fn", .str "from", .str "if", .str "int", .str "is", .str "let", .str "maybe", .str "mut", .str "none", .str "not", .str "or", .str "print", .str "record", .str "return", .str "some", .str "swap", .str "true", .str "unbox", .str "unit", .str "while", .str "with"]) X G b4 e4 rfl rfl (by rw [PySem.sizeLine_eq]; exact Nat.le_of_ble_eq_true rfl) (.cons ⟨_, rfl⟩ (.cons ⟨_, rfl⟩ (.cons ⟨_, rfl⟩ (.cons ⟨_, rfl⟩ (.cons ⟨_, rfl⟩ (.cons ⟨_, rfl⟩ (.cons ⟨_, rfl⟩ (.cons ⟨_, rfl⟩ (.cons ⟨_, rfl⟩ (.cons ⟨_, rfl⟩ (.cons ⟨_, rfl⟩ (.cons ⟨_, rfl⟩ (.cons ⟨_, rfl⟩ (.cons ⟨_, rfl⟩ (.cons ⟨_, rfl⟩ (.cons ⟨_, rfl⟩ (.cons ⟨_, rfl⟩ (.cons ⟨_, rfl⟩ (.cons ⟨_, rfl⟩ (.cons ⟨_, rfl⟩ (.cons ⟨_, rfl⟩ (.cons ⟨_, rfl⟩ (.cons ⟨_, rfl⟩ (.cons ⟨_, rfl⟩ (.cons ⟨_, rfl⟩ (.cons ⟨_, rfl⟩ (.cons ⟨_, rfl⟩ (.nil)))))))))))))))))))))))))))) fun _ => .cons (.str _) (.cons (.str _) (.cons (.str _) (.cons (.str _) (.cons (.str _) (.cons (.str _) (.cons (.str _) (.cons (.str _) (.cons (.str _) (.cons (.str _) (.cons (.str _) (.cons (.str _) (.cons (.str _) (.cons (.str _) (.cons (.str _) (.cons (.str _) (.cons (.str _) (.cons (.str _) (.cons (.str _) (.cons (.str _) (.cons (.str _) (.cons (.str _) (.cons (.str _) (.cons (.str _) (.cons (.str _) (.cons (.str _) (.cons (.str _) (.nil))))))))))))))))))))))))))))
    (ConstAt.tup (vs := [.str "->", .str "==", .str "{", .str "}", .str "(", .str ")", .str "[", .str "]", .str ",", .str ";", .str ":", .str ".", .str "?", .str "^", .str "&", .str "+", .str "-", .str "*", .str "<", .str "="]) X G b5 e5 rfl rfl (by rw [PySem.sizeLine_eq]; exact Nat.le_of_ble_eq_true rfl) (.cons ⟨_, rfl⟩ (.cons ⟨_, rfl⟩ (.cons ⟨_, rfl⟩ (.cons ⟨_, rfl⟩ (.cons ⟨_, rfl⟩ (.cons ⟨_, rfl⟩ (.cons ⟨_, rfl⟩ (.cons ⟨_, rfl⟩ (.cons ⟨_, rfl⟩ (.cons ⟨_, rfl⟩ (.cons ⟨_, rfl⟩ (.cons ⟨_, rfl⟩ (.cons ⟨_, rfl⟩ (.cons ⟨_, rfl⟩ (.cons ⟨_, rfl⟩ (.cons ⟨_, rfl⟩ (.cons ⟨_, rfl⟩ (.cons ⟨_, rfl⟩ (.cons ⟨_, rfl⟩ (.cons ⟨_, rfl⟩ (.nil))))))))))))))))))))) fun _ => .cons (.str _) (.cons (.str _) (.cons (.str _) (.cons (.str _) (.cons (.str _) (.cons (.str _) (.cons (.str _) (.cons (.str _) (.cons (.str _) (.cons (.str _) (.cons (.str _) (.cons (.str _) (.cons (.str _) (.cons (.str _) (.cons (.str _) (.cons (.str _) (.cons (.str _) (.cons (.str _) (.cons (.str _) (.cons (.str _) (.nil)))))))))))))))))))))
    ⟨.str "abcdefghijklmnopqrstuvwxyz", .str "abcdefghijklmnopqrstuvwxyz" tc6, PySem.W.mg_of X G b6, ⟨tc6, rfl⟩, fun _ => .str _⟩
    (PySem.W.mg_none_of X G z0)
    (PySem.W.mg_none_of X G z1)
    (PySem.W.mg_none_of X G z2)
    (PySem.W.mg_none_of X G z3)
    (PySem.W.mg_none_of X G z4)
    (PySem.W.mg_none_of X G z5)
    (PySem.W.mg_none_of X G z6)
    (PySem.W.mg_none_of X G z7)
    (PySem.W.mg_none_of X G z8)
    (PySem.W.mg_none_of X G z9)) hfa
end Q4
open PySem PySem.W PyProof.Rows in
set_option maxRecDepth 100000 in
set_option maxHeartbeats 0 in
theorem PySem.Challenge.cw_lendback_k09_parse_declarations_holds : PySem.Challenge.rw_lendback_k09_parse_declarations.Holds := by
  w_on; o_law; k_head; (case hw => w_witness2)
  k_fill
  refine L2.walk_ofK (l := PySem.Challenge.rw_lendback_k09_parse_declarations) (n := 63) (k := 48) (x := "script") (CX := L2.CX0) (sp := fun K => Q4.lSp K Q4.sp_law) rfl (by decide) rfl ⟨rfl, by decide, by decide⟩ (fun w h Y => PySem.W.kIn_of Y) ?F (fun _ _ _ _ hl ho hS => Q4.law_ask hl ho hS) (fun _ _ _ _ h => h)
  case F =>
    intro w mg fa h KX G hmg
    refine' Q4.all_mk KX G hmg ?a0 ?l0 ?c0 ?k0 ?a1 ?l1 ?c1 ?k1 ?a2 ?l2 ?c2 ?k2 ?a3 ?l3 ?c3 ?k3 ?a4 ?l4 ?c4 ?k4 ?a5 ?l5 ?c5 ?k5 ?a6 ?l6 ?c6 ?k6 ?a7 ?l7 ?c7 ?k7 ?a8 ?l8 ?c8 ?k8 ?a9 ?l9 ?c9 ?k9 ?a10 ?l10 ?c10 ?k10 ?a11 ?l11 ?c11 ?k11 ?a12 ?l12 ?c12 ?k12 ?a13 ?l13 ?c13 ?k13 ?a14 ?l14 ?c14 ?k14 ?a15 ?l15 ?c15 ?k15 ?a16 ?l16 ?c16 ?k16 ?a17 ?l17 ?c17 ?k17 ?a18 ?l18 ?c18 ?k18 ?a19 ?l19 ?c19 ?k19 ?a20 ?l20 ?c20 ?k20 ?a21 ?l21 ?c21 ?k21 ?a22 ?l22 ?c22 ?k22 ?a23 ?l23 ?c23 ?k23 ?a24 ?l24 ?c24 ?k24 ?a25 ?l25 ?c25 ?k25 ?a26 ?l26 ?c26 ?k26 ?a27 ?l27 ?c27 ?k27 ?a28 ?l28 ?c28 ?k28 ?a29 ?l29 ?c29 ?k29 ?a30 ?l30 ?c30 ?k30 ?a31 ?l31 ?c31 ?k31 ?a32 ?l32 ?c32 ?k32 ?a33 ?l33 ?c33 ?k33 ?a34 ?l34 ?c34 ?k34 ?a35 ?l35 ?c35 ?k35 ?a36 ?l36 ?c36 ?k36 ?a37 ?l37 ?c37 ?k37 ?a38 ?l38 ?c38 ?k38 ?a39 ?l39 ?c39 ?k39 ?a40 ?l40 ?c40 ?k40 ?b0 ?b1 ?b2 ?b3 ?b4 ?e4 ?b5 ?e5 ?b6 ?z0 ?z1 ?z2 ?z3 ?z4 ?z5 ?z6 ?z7 ?z8 ?z9
    (case a0 => k_is)
    (case l0 => k_is)
    (case c0 => k_is)
    (case k0 => k_is)
    (case a1 => k_is)
    (case l1 => k_is)
    (case c1 => k_is)
    (case k1 => k_is)
    (case a2 => k_is)
    (case l2 => k_is)
    (case c2 => k_is)
    (case k2 => k_is)
    (case a3 => k_is)
    (case l3 => k_is)
    (case c3 => k_is)
    (case k3 => k_is)
    (case a4 => k_is)
    (case l4 => k_is)
    (case c4 => k_is)
    (case k4 => k_is)
    (case a5 => k_is)
    (case l5 => k_is)
    (case c5 => k_is)
    (case k5 => k_is)
    (case a6 => k_is)
    (case l6 => k_is)
    (case c6 => k_is)
    (case k6 => k_is)
    (case a7 => k_is)
    (case l7 => k_is)
    (case c7 => k_is)
    (case k7 => k_is)
    (case a8 => k_is)
    (case l8 => k_is)
    (case c8 => k_is)
    (case k8 => k_is)
    (case a9 => k_is)
    (case l9 => k_is)
    (case c9 => k_is)
    (case k9 => k_is)
    (case a10 => k_is)
    (case l10 => k_is)
    (case c10 => k_is)
    (case k10 => k_is)
    (case a11 => k_is)
    (case l11 => k_is)
    (case c11 => k_is)
    (case k11 => k_is)
    (case a12 => k_is)
    (case l12 => k_is)
    (case c12 => k_is)
    (case k12 => k_is)
    (case a13 => k_is)
    (case l13 => k_is)
    (case c13 => k_is)
    (case k13 => k_is)
    (case a14 => k_is)
    (case l14 => k_is)
    (case c14 => k_is)
    (case k14 => k_is)
    (case a15 => k_is)
    (case l15 => k_is)
    (case c15 => k_is)
    (case k15 => k_is)
    (case a16 => k_is)
    (case l16 => k_is)
    (case c16 => k_is)
    (case k16 => k_is)
    (case a17 => k_is)
    (case l17 => k_is)
    (case c17 => k_is)
    (case k17 => k_is)
    (case a18 => k_is)
    (case l18 => k_is)
    (case c18 => k_is)
    (case k18 => k_is)
    (case a19 => k_is)
    (case l19 => k_is)
    (case c19 => k_is)
    (case k19 => k_is)
    (case a20 => k_is)
    (case l20 => k_is)
    (case c20 => k_is)
    (case k20 => k_is)
    (case a21 => k_is)
    (case l21 => k_is)
    (case c21 => k_is)
    (case k21 => k_is)
    (case a22 => k_is)
    (case l22 => k_is)
    (case c22 => k_is)
    (case k22 => k_is)
    (case a23 => k_is)
    (case l23 => k_is)
    (case c23 => k_is)
    (case k23 => k_is)
    (case a24 => k_is)
    (case l24 => k_is)
    (case c24 => k_is)
    (case k24 => k_is)
    (case a25 => k_is)
    (case l25 => k_is)
    (case c25 => k_is)
    (case k25 => k_is)
    (case a26 => k_is)
    (case l26 => k_is)
    (case c26 => k_is)
    (case k26 => k_is)
    (case a27 => k_is)
    (case l27 => k_is)
    (case c27 => k_is)
    (case k27 => k_is)
    (case a28 => k_is)
    (case l28 => k_is)
    (case c28 => k_is)
    (case k28 => k_is)
    (case a29 => k_is)
    (case l29 => k_is)
    (case c29 => k_is)
    (case k29 => k_is)
    (case a30 => k_is)
    (case l30 => k_is)
    (case c30 => k_is)
    (case k30 => k_is)
    (case a31 => k_is)
    (case l31 => k_is)
    (case c31 => k_is)
    (case k31 => k_is)
    (case a32 => k_is)
    (case l32 => k_is)
    (case c32 => k_is)
    (case k32 => k_is)
    (case a33 => k_is)
    (case l33 => k_is)
    (case c33 => k_is)
    (case k33 => k_is)
    (case a34 => k_is)
    (case l34 => k_is)
    (case c34 => k_is)
    (case k34 => k_is)
    (case a35 => k_is)
    (case l35 => k_is)
    (case c35 => k_is)
    (case k35 => k_is)
    (case a36 => k_is)
    (case l36 => k_is)
    (case c36 => k_is)
    (case k36 => k_is)
    (case a37 => k_is)
    (case l37 => k_is)
    (case c37 => k_is)
    (case k37 => k_is)
    (case a38 => k_is)
    (case l38 => k_is)
    (case c38 => k_is)
    (case k38 => k_is)
    (case a39 => k_is)
    (case l39 => k_is)
    (case c39 => k_is)
    (case k39 => k_is)
    (case a40 => k_is)
    (case l40 => k_is)
    (case c40 => k_is)
    (case k40 => k_is)
    (case b0 => k_is)
    (case b1 => k_is)
    (case b2 => k_is)
    (case b3 => k_is)
    (case b4 => k_is)
    (case e4 => k_is)
    (case b5 => k_is)
    (case e5 => k_is)
    (case b6 => k_is)
    (case z0 => k_is)
    (case z1 => k_is)
    (case z2 => k_is)
    (case z3 => k_is)
    (case z4 => k_is)
    (case z5 => k_is)
    (case z6 => k_is)
    (case z7 => k_is)
    (case z8 => k_is)
    (case z9 => k_is)
