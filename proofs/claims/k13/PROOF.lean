import PyProof.Rows.All
import Wide.All
import OpenK.AllK
import Wide.FinOn
import HandS.ForMost
import HandS.TupAny
import HandS.Wide
import HandS.IsInst
import HandS.SortKw
import KE.DataMinMax
import KE.GoesEnum
import HandS.Dict
import HandS.ListItems
import HandS.More
import HandS.Deep
import HandS.Small
import HandS.FStr
import HandS.ExcOwn
import HandS.WordsExc
import HandS.TryOnly
import HandS.ExcIs
import HandS.Style
import HandS.RaiseMore
import PyProof.StrBlock2
import PySem.Challenge.RW_lendback_k13_write_expressions
set_option Elab.async false
set_option linter.all false
set_option maxRecDepth 100000
/-! Values without the heap: tuples are data, only what may change has an address. -/
namespace Q4
open PySem L2

inductive D where
  | non | bl (b : Bool) | int (i : Int) | str (x : Str) | tup (xs : List D) | rol (xs : List D) | ref (a : Addr) | ty (n : String)
inductive DO where
  | lst (xs : List D)
  | ins (C dx : Addr) (fs : List (Str × D))
  | dct (kvs : List (Key × D))
abbrev M := Addr → Option DO
def put (m : M) (a : Addr) (o : DO) : M := fun b => if b = a then some o else m b
theorem put_same {m : M} {a : Addr} {o : DO} : put m a o a = some o := if_pos rfl
theorem put_ne {m : M} {a b : Addr} {o : DO} (h : b ≠ a) : put m a o b = m b := if_neg h
theorem put_put {m : M} {a : Addr} {o u : DO} : put (put m a o) a u = put m a u := by
  funext b; unfold put; split <;> rfl
theorem put_comm {m : M} {a b : Addr} {o u : DO} (h : a ≠ b) : put (put m a o) b u = put (put m b u) a o := by
  funext c; unfold put
  by_cases h1 : c = b
  · have : ¬ c = a := fun e => h (e.symm.trans h1)
    simp [h1, this]
    intro e; exact absurd e.symm h
  · simp [h1]

/-- a list that nobody changes: locked, or one of the module's -/
def FrzL (K : PySem.W.Frag) (H : Hp) (a : Addr) (xs : List V) : Prop :=
  (∃ o, H a = some (.frz o (.lst xs))) ∨
    ∃ (o : Obj) (its : Array Value) (n : Nat), K.lookup a = some o ∧ o.cls = .type "list" ∧ o.dict = none ∧ o.data = .seq its n ∧ its.size ≤ sizeLine ∧ Vals xs its.toList
theorem FrzL.sq {K : PySem.W.Frag} {H : Hp} {a : Addr} {xs : List V} (h : FrzL K H a xs) : SqL K H a xs := by
  rcases h with ⟨o, h⟩ | h
  · exact .inl (.inr ⟨o, h⟩)
  · exact .inr h
mutual
inductive RD (K : PySem.W.Frag) (H : Hp) : D → V → Prop
  | non : RD K H .non .non
  | bl (b : Bool) : RD K H (.bl b) (.bl b)
  | int (i : Int) : RD K H (.int i) (.int i)
  | str (x : Str) : RD K H (.str x) (.str x)
  | ref (a : Addr) : RD K H (.ref a) (.ref a)
  | ty (n : String) : RD K H (.ty n) (.ty n)
  | tup {a : Addr} {xs : List V} {ds : List D} : SqT K H a xs → RDs K H ds xs → RD K H (.tup ds) (.ref a)
  | rol {a : Addr} {xs : List V} {ds : List D} : FrzL K H a xs → RDs K H ds xs → RD K H (.rol ds) (.ref a)
inductive RDs (K : PySem.W.Frag) (H : Hp) : List D → List V → Prop
  | nil : RDs K H [] []
  | cons {v : V} {vs : List V} {d : D} {ds : List D} : RD K H d v → RDs K H ds vs → RDs K H (d :: ds) (v :: vs)
end
structure Keep (K : PySem.W.Frag) (H H' : Hp) : Prop where
  t : ∀ a xs, SqT K H a xs → SqT K H' a xs
  f : ∀ a xs, FrzL K H a xs → FrzL K H' a xs
section
variable {K : PySem.W.Frag} {H H' H'' : Hp}
theorem Keep.refl (H : Hp) : Keep K H H := ⟨fun _ _ h => h, fun _ _ h => h⟩
theorem Keep.trans (a : Keep K H H') (b : Keep K H' H'') : Keep K H H'' := ⟨fun _ _ h => b.t _ _ (a.t _ _ h), fun _ _ h => b.f _ _ (a.f _ _ h)⟩
mutual
theorem RD.mono (k : Keep K H H') : ∀ {d : D} {v : V}, RD K H d v → RD K H' d v
  | _, _, .non => .non
  | _, _, .bl b => .bl b
  | _, _, .int b => .int b
  | _, _, .str b => .str b
  | _, _, .ref b => .ref b
  | _, _, .ty b => .ty b
  | _, _, .tup h r => .tup (k.t _ _ h) (RDs.mono k r)
  | _, _, .rol h r => .rol (k.f _ _ h) (RDs.mono k r)
theorem RDs.mono (k : Keep K H H') : ∀ {d : List D} {v : List V}, RDs K H d v → RDs K H' d v
  | _, _, .nil => .nil
  | _, _, .cons h r => .cons (h.mono k) (RDs.mono k r)
end
theorem RDs.length : ∀ {ds : List D} {vs : List V}, RDs K H ds vs → ds.length = vs.length
  | _, _, .nil => rfl
  | _, _, .cons _ r => congrArg (· + 1) r.length
theorem RDs.get : ∀ {ds : List D} {vs : List V} {i : Nat} {d : D}, RDs K H ds vs → ds[i]? = some d → ∃ v, vs[i]? = some v ∧ RD K H d v
  | _, _, _, _, .nil, e => by simp at e
  | _, _, 0, _, .cons h _, e => by simp at e; subst e; exact ⟨_, rfl, h⟩
  | _, _, i + 1, d, .cons _ r, e => by
    obtain ⟨v, h1, h2⟩ := RDs.get (i := i) (d := d) r (by simpa using e)
    exact ⟨v, by simpa using h1, h2⟩
theorem RDs.getV : ∀ {ds : List D} {vs : List V} {i : Nat} {v : V}, RDs K H ds vs → vs[i]? = some v → ∃ d, ds[i]? = some d ∧ RD K H d v
  | _, _, _, _, .nil, e => by simp at e
  | _, _, 0, _, .cons h _, e => by simp at e; subst e; exact ⟨_, rfl, h⟩
  | _, _, i + 1, d, .cons _ r, e => by
    obtain ⟨v, h1, h2⟩ := RDs.getV (i := i) (v := d) r (by simpa using e)
    exact ⟨v, by simpa using h1, h2⟩
theorem RDs.append : ∀ {ds es : List D} {vs us : List V}, RDs K H ds vs → RDs K H es us → RDs K H (ds ++ es) (vs ++ us)
  | _, _, _, _, .nil, s => s
  | _, _, _, _, .cons h r, s => .cons h (r.append s)
theorem RDs.set {d : D} {v : V} (h : RD K H d v) : ∀ {ds : List D} {vs : List V} (i : Nat), RDs K H ds vs → RDs K H (ds.set i d) (vs.set i v)
  | _, _, _, .nil => .nil
  | _, _, 0, .cons _ r => .cons h r
  | _, _, i + 1, .cons q r => .cons q (RDs.set h i r)
theorem RDs.take : ∀ {ds : List D} {vs : List V} (n : Nat), RDs K H ds vs → RDs K H (ds.take n) (vs.take n)
  | _, _, 0, _ => .nil
  | _, _, _ + 1, .nil => .nil
  | _, _, n + 1, .cons r t => .cons r (RDs.take n t)
theorem RDs.drop : ∀ {ds : List D} {vs : List V} (n : Nat), RDs K H ds vs → RDs K H (ds.drop n) (vs.drop n)
  | _, _, 0, r => r
  | _, _, _ + 1, .nil => .nil
  | _, _, n + 1, .cons _ t => RDs.drop n t
/-- a new object keeps every tuple -/
theorem Keep.new {p : Addr} {o : HO} (h : H p = none) : Keep K H (upd H p o) := by
  refine ⟨fun a xs q => ?_, fun a xs q => ?_⟩
  · rcases q with (q | ⟨o', q⟩) | q
    · exact .inl (.inl (by rw [upd_ne (ne_of_none q h)]; exact q))
    · exact .inl (.inr ⟨o', by rw [upd_ne (ne_of_none q h)]; exact q⟩)
    · exact .inr q
  · rcases q with ⟨o', q⟩ | q
    · exact .inl ⟨o', by rw [upd_ne (ne_of_none q h)]; exact q⟩
    · exact .inr q
/-- a list that changes keeps every tuple -/
theorem Keep.lst {p : Addr} {vs : List V} {o : HO} (h : H p = some (.lst vs)) : Keep K H (upd H p o) := by
  refine ⟨fun a xs q => ?_, fun a xs q => ?_⟩
  · rcases q with (q | ⟨o', q⟩) | q
    · exact .inl (.inl (by rw [upd_ne (ne_of q h (by simp))]; exact q))
    · exact .inl (.inr ⟨o', by rw [upd_ne (ne_of q h (by simp))]; exact q⟩)
    · exact .inr q
  · rcases q with ⟨o', q⟩ | q
    · exact .inl ⟨o', by rw [upd_ne (ne_of q h (by simp))]; exact q⟩
    · exact .inr q

/-- what stands at a changeable address -/
def RO (K : PySem.W.Frag) (H : Hp) (a : Addr) : DO → Prop
  | .lst xs => ∃ vs, H a = some (.lst vs) ∧ RDs K H xs vs
  | .ins C dx fs => ∃ gs, H a = some (.ins C dx gs) ∧ RDs K H (fs.map (·.2)) (gs.map (·.2)) ∧ fs.map (·.1) = gs.map (·.1)
  | .dct kvs => ∃ gs, H a = some (.dK gs) ∧ RDs K H (kvs.map (·.2)) (gs.map (·.2)) ∧ kvs.map (·.1) = gs.map (·.1)
def RM (K : PySem.W.Frag) (H : Hp) (m : M) : Prop := ∀ a o, m a = some o → RO K H a o
theorem RM.free {m : M} (r : RM K H m) {p : Addr} (h : H p = none) : m p = none := by
  cases e : m p with
  | none => rfl
  | some o =>
    have q := r p o e
    cases o with
    | lst xs => obtain ⟨vs, e1, _⟩ := q; rw [h] at e1; cases e1
    | ins C dx fs => obtain ⟨vs, e1, _⟩ := q; rw [h] at e1; cases e1
    | dct kvs => obtain ⟨vs, e1, _⟩ := q; rw [h] at e1; cases e1
/-- objects that stay as they are -/
theorem RO.stay {a : Addr} {o : DO} (q : RO K H a o) (k : Keep K H H') (e : H' a = H a) : RO K H' a o := by
  cases o with
  | lst xs => obtain ⟨vs, e1, r⟩ := q; exact ⟨vs, e.trans e1, r.mono k⟩
  | ins C dx fs => obtain ⟨vs, e1, r⟩ := q; exact ⟨vs, e.trans e1, r.1.mono k, r.2⟩
  | dct kvs => obtain ⟨vs, e1, r⟩ := q; exact ⟨vs, e.trans e1, r.1.mono k, r.2⟩
theorem RM.new {m : M} (r : RM K H m) {p : Addr} {o : HO} (h : H p = none) : RM K (upd H p o) m := fun a u e => by
  have n : a ≠ p := fun z => by rw [z, r.free h] at e; cases e
  exact (r a u e).stay (Keep.new h) (upd_ne n)
theorem RM.newPut {m : M} (r : RM K H m) {p : Addr} {vs : List V} {xs : List D} (h : H p = none) (q : RDs K H xs vs) : RM K (upd H p (.lst vs)) (put m p (.lst xs)) := fun a u e => by
  by_cases n : a = p
  · subst n
    rw [put_same] at e; cases e
    exact ⟨vs, upd_same, q.mono (Keep.new h)⟩
  · rw [put_ne n] at e
    exact (r a u e).stay (Keep.new h) (upd_ne n)
theorem RM.setPut {m : M} (r : RM K H m) {p : Addr} {ws vs : List V} {xs : List D} (h : H p = some (.lst ws)) (q : RDs K H xs vs) : RM K (upd H p (.lst vs)) (put m p (.lst xs)) := fun a u e => by
  by_cases n : a = p
  · subst n
    rw [put_same] at e; cases e
    exact ⟨vs, upd_same, q.mono (Keep.lst h)⟩
  · rw [put_ne n] at e
    exact (r a u e).stay (Keep.lst h) (upd_ne n)
/-- forgetting -/
theorem RM.less {m m' : M} (r : RM K H m) (h : ∀ a o, m' a = some o → m a = some o) : RM K H m' := fun a o e => r a o (h a o e)

abbrev DS := List (Option D)
structure RS (K : PySem.W.Frag) (H : Hp) (sd : DS) (σ : St) : Prop where
  len : sd.length = σ.length
  get : ∀ (i : Nat) (d : D), sd[i]? = some (some d) → ∃ v, σ[i]? = some (some v) ∧ RD K H d v
theorem RS.mono {sd : DS} {σ : St} (r : RS K H sd σ) (k : Keep K H H') : RS K H' sd σ :=
  ⟨r.len, fun i d e => let ⟨v, e1, q⟩ := r.get i d e; ⟨v, e1, q.mono k⟩⟩
theorem RS.set {sd : DS} {σ : St} (r : RS K H sd σ) (i : Nat) {d : D} {v : V} (q : RD K H d v) : RS K H (sd.set i (some d)) (σ.set i (some v)) :=
  ⟨by rw [List.length_set, List.length_set, r.len], fun j e h => by
    by_cases hj : i = j
    · subst hj
      by_cases hi : i < sd.length
      · rw [List.getElem?_set_self hi] at h
        cases h
        exact ⟨v, List.getElem?_set_self (by rw [← r.len]; exact hi), q⟩
      · rw [List.getElem?_eq_none (by rw [List.length_set]; omega)] at h
        cases h
    · rw [List.getElem?_set_ne hj] at h
      obtain ⟨u, e1, q1⟩ := r.get j e h
      exact ⟨u, by rw [List.getElem?_set_ne hj]; exact e1, q1⟩⟩
theorem RS.start {N : List Str} {ds : List D} {vs : List V} (r : RDs K H ds vs) : RS K H (ds.map some ++ List.replicate (N.length - ds.length) none) (L2.start N vs) := by
  refine ⟨?_, fun i d e => ?_⟩
  · unfold L2.start
    simp [r.length]
  · unfold L2.start
    by_cases hi : i < ds.length
    · rw [List.getElem?_append_left (by simpa using hi), List.getElem?_map] at e
      cases q : ds[i]? with
      | none => rw [q] at e; cases e
      | some d' =>
        rw [q] at e
        have e' : d' = d := by simpa using e
        subst e'
        obtain ⟨v, h1, h2⟩ := r.get q
        exact ⟨v, by rw [List.getElem?_append_left (by simp; rw [← r.length]; exact hi), List.getElem?_map, h1]; rfl, h2⟩
    · rw [List.getElem?_append_right (by simpa using Nat.le_of_not_lt hi), List.getElem?_replicate] at e
      split at e <;> cases e
end
def Less (m' m : M) : Prop := ∀ a o, m' a = some o → m a = some o
theorem Less.refl (m : M) : Less m m := fun _ _ h => h
theorem Less.trans {a b c : M} (h : Less a b) (h' : Less b c) : Less a c := fun x o e => h' x o (h x o e)
theorem Less.new {m : M} {p : Addr} {o : DO} (h : m p = none) : Less m (put m p o) := fun a u e => by
  rw [put_ne (fun z => by rw [z, h] at e; cases e)]
  exact e
theorem Less.put {m m' : M} {p : Addr} {o : DO} (h : Less m m') : Less (Q4.put m p o) (Q4.put m' p o) := fun a u e => by
  by_cases n : a = p
  · subst n; rw [put_same] at e ⊢; exact e
  · rw [put_ne n] at e ⊢; exact h a u e
/-- less may be known -/
def Fg (J : List (Option D) → M → Prop) : List (Option D) → M → Prop := fun sd m => ∃ m', Less m' m ∧ J sd m'
end Q4

set_option Elab.async false
set_option linter.all false
set_option maxRecDepth 100000
namespace Q4
open PySem L2
abbrev DK := D → M → Prop
abbrev DXK := Value → Option (List (Str × D)) → M → Prop
abbrev TDE := DS → M → DK → Prop
abbrev TDT := DS → M → (Bool → M → Prop) → Prop
abbrev TDA := DS → M → (List D → M → Prop) → Prop
structure DEnds where
  nx : DS → M → Prop
  rt : DK
  bk : DS → M → Prop := fun _ _ => False
  ct : DS → M → Prop := fun _ _ => False
abbrev TDS := DEnds → DS → M → Prop
structure At (K : PySem.W.Frag) (H0 : Hp) (sd : DS) (m : M) (σ : St) (H : Hp) : Prop where
  s : RS K H sd σ
  m : RM K H m
  k : Keep K H0 H
section
variable (K : PySem.W.Frag) (H0 : Hp)
def lE (t : TDE) : TE := fun σ H Q => ∃ sd m P, At K H0 sd m σ H ∧ t sd m P ∧ ∀ d m' v H', Keep K H H' → RM K H' m' → RD K H' d v → P d m' → Q v H'
def lT (t : TDT) : TT := fun σ H Q => ∃ sd m P, At K H0 sd m σ H ∧ t sd m P ∧ ∀ b m' H', Keep K H H' → RM K H' m' → P b m' → Q b H'
def lA (t : TDA) : TA := fun σ H Q => ∃ sd m P, At K H0 sd m σ H ∧ t sd m P ∧ ∀ ds m' vs H', Keep K H H' → RM K H' m' → RDs K H' ds vs → P ds m' → Q vs H'
def lS (t : TDS) : TS := fun D σ H => ∃ sd m DD, At K H0 sd m σ H ∧ t DD sd m ∧
  (∀ sd' m' σ' H', Keep K H H' → RS K H' sd' σ' → RM K H' m' → DD.nx sd' m' → D.nx σ' H') ∧
  (∀ d m' v H', Keep K H H' → RM K H' m' → RD K H' d v → DD.rt d m' → D.rt v H') ∧
  (∀ sd' m' σ' H', Keep K H H' → RS K H' sd' σ' → RM K H' m' → DD.bk sd' m' → D.bk σ' H') ∧
  (∀ sd' m' σ' H', Keep K H H' → RS K H' sd' σ' → RM K H' m' → DD.ct sd' m' → D.ct σ' H')
end
section
variable {K : PySem.W.Frag} {H0 H H' : Hp} {sd : DS} {m m' : M} {σ : St}
theorem At.to (a : At K H0 sd m σ H) (k : Keep K H H') (r : RM K H' m') : At K H0 sd m' σ H' := ⟨a.s.mono k, r, a.k.trans k⟩
theorem At.toS {sd' : DS} {σ' : St} (a : At K H0 sd m σ H) (k : Keep K H H') (s : RS K H' sd' σ') (r : RM K H' m') : At K H0 sd' m' σ' H' := ⟨s, r, a.k.trans k⟩
end
section
variable {X : Cx} {H0 : Hp}
theorem peL {e : Expr} {t t' : TE} (h : PE X e t) (i : ∀ σ H Q, t' σ H Q → t σ H Q) : PE X e t' := ⟨fun pins s σ H Q I ht => h.run pins s σ H Q I (i _ _ _ ht)⟩
theorem ptL {e : Expr} {t t' : TT} (h : PT X e t) (i : ∀ σ H Q, t' σ H Q → t σ H Q) : PT X e t' := ⟨fun pins s σ H Q I ht => h.run pins s σ H Q I (i _ _ _ ht)⟩
theorem pwL {e : Expr} {t t' : TT} (h : PW X e t) (i : ∀ σ H Q, t' σ H Q → t σ H Q) : PW X e t' := ⟨fun wh pins s σ H Q I ht => h.run wh pins s σ H Q I (i _ _ _ ht)⟩
theorem paL {e : List Expr} {t t' : TA} (h : PA X e t) (i : ∀ σ H Q, t' σ H Q → t σ H Q) : PA X e t' := ⟨fun p pins s σ H Q I ht => h.run p pins s σ H Q I (i _ _ _ ht)⟩
theorem psL {e : Stmt} {t t' : TS} (h : PS X e t) (i : ∀ D σ H, t' D σ H → t D σ H) : PS X e t' := ⟨fun pins s σ H Q I ht => h.run pins s σ H Q I (i _ _ _ ht)⟩
theorem pssL {e : List Stmt} {t t' : TS} (h : PSs X e t) (i : ∀ D σ H, t' D σ H → t D σ H) : PSs X e t' := ⟨fun pins s σ H Q I ht => h.run pins s σ H Q I (i _ _ _ ht)⟩

/-! ### names, constants -/
def dVar (i : Nat) : TDE := fun sd m P => ∃ d, sd[i]? = some (some d) ∧ P d m
def dC (d : D) : TDE := fun _ m P => P d m
theorem l_var {K : PySem.W.Frag} {i : Nat} {σ : St} {H : Hp} {Q : VK} (h : lE K H0 (dVar i) σ H Q) : tVar i σ H Q := by
  obtain ⟨sd, m, P, a, ⟨d, e, p⟩, q⟩ := h
  obtain ⟨v, e1, r⟩ := a.s.get i d e
  exact ⟨v, e1, q d m v H (Keep.refl _) a.m r p⟩
theorem qv (i : Nat) {x : Str} {pos : Pos} (hN : X.N[i]? = some x := by rfl) (hv : Vis X.env.scope x := by first | exact Or.inl rfl | exact Or.inr (Or.inl rfl) | exact Or.inr (Or.inr rfl)) (hd : (x == ("__debug__" : Str)) = false := by decide)
    (hcd : (x == ("__classdict__" : Str)) = false := by decide) : PE X (.Name x pos) (lE X.K H0 (dVar i)) := peL (pv i hN hv hd hcd) fun _ _ _ => l_var
theorem l_c {K : PySem.W.Frag} {d : D} {v : V} {σ : St} {H : Hp} {Q : VK} (r : ∀ H, RD K H d v) (h : lE K H0 (dC d) σ H Q) : tC v σ H Q := by
  obtain ⟨sd, m, P, a, p, q⟩ := h
  exact q d m v H (Keep.refl _) a.m (r H) p
theorem qe_int {i : Int} {j pos} : PE X (.Constant (.int i) j pos) (lE X.K H0 (dC (.int i))) := peL pe_int fun _ _ _ => l_c fun _ => .int i
theorem qe_bl {i : Bool} {j pos} : PE X (.Constant (.bool i) j pos) (lE X.K H0 (dC (.bl i))) := peL pe_bl fun _ _ _ => l_c fun _ => .bl i
theorem qe_str {i : Str} {j pos} : PE X (.Constant (.str i) j pos) (lE X.K H0 (dC (.str i))) := peL pe_str fun _ _ _ => l_c fun _ => .str i
theorem qe_non {j pos} : PE X (.Constant .none j pos) (lE X.K H0 (dC .non)) := peL pe_non fun _ _ _ => l_c fun _ => .non
/-- a module's constant -/
theorem qe_glob {x : Str} {v : V} {d : D} {u : Value} {pos : Pos} (hg : Gl X x) (hm : X.mg x = some u) (r : RelV v u) (rd : ∀ H, RD X.K H d v) (hd : (x == ("__debug__" : Str)) = false := by decide) : PE X (.Name x pos) (lE X.K H0 (dC d)) :=
  peL (pe_glob hg hm r hd) fun _ _ _ => l_c rd
theorem qe_bltn {x : Str} {v : V} {d : D} {u : Value} {pos : Pos} (hg : Gl X x) (hm : X.mg x = none) (hv : bootBuiltins x = some u) (r : RelV v u) (rd : ∀ H, RD X.K H d v) (hn : x ≠ "__name__" := by decide) (hd : (x == ("__debug__" : Str)) = false := by decide) : PE X (.Name x pos) (lE X.K H0 (dC d)) :=
  peL (pe_bltn hg hm hv r hn hd) fun _ _ _ => l_c rd

/-! ### operators by values -/
abbrev R2D := D → D → M → DK → Prop
abbrev R1D := D → M → DK → Prop
abbrev RnD := List D → M → DK → Prop
def Wants (K : PySem.W.Frag) (H : Hp) (P : DK) (Q : VK) : Prop := ∀ d m' w H', Keep K H H' → RM K H' m' → RD K H' d w → P d m' → Q w H'
theorem Wants.mono {K : PySem.W.Frag} {H H' : Hp} {P : DK} {Q : VK} (h : Wants K H P Q) (k : Keep K H H') : Wants K H' P Q := fun d m' w H2 k2 => h d m' w H2 (k.trans k2)
def Lift2 (K : PySem.W.Frag) (r' : R2D) (r : R2) : Prop := ∀ H m x y u v P Q, RM K H m → RD K H x u → RD K H y v → r' x y m P → Wants K H P Q → r u v H Q
def Lift1 (K : PySem.W.Frag) (r' : R1D) (r : V → Hp → VK → Prop) : Prop := ∀ H m x u P Q, RM K H m → RD K H x u → r' x m P → Wants K H P Q → r u H Q
def LiftN (K : PySem.W.Frag) (r' : RnD) (r : List V → Hp → VK → Prop) : Prop := ∀ H m xs us P Q, RM K H m → RDs K H xs us → r' xs m P → Wants K H P Q → r us H Q
def dOp (r : R2D) (ta tb : TDE) : TDE := fun sd m P => ta sd m fun x m1 => tb sd m1 fun y m2 => r x y m2 P
def dUn (r : R1D) (ta : TDE) : TDE := fun sd m P => ta sd m fun x m1 => r x m1 P
theorem l_op {K : PySem.W.Frag} {r' : R2D} {r : R2} {ta tb : TDE} {σ : St} {H : Hp} {Q : VK} (l : Lift2 K r' r) (h : lE K H0 (dOp r' ta tb) σ H Q) : tOp r (lE K H0 ta) (lE K H0 tb) σ H Q := by
  obtain ⟨sd, m, P, a, p, q⟩ := h
  refine ⟨sd, m, _, a, p, fun x m1 u H1 k1 r1 d1 p1 => ?_⟩
  refine ⟨sd, m1, _, a.to k1 r1, p1, fun y m2 v H2 k2 r2 d2 p2 => ?_⟩
  exact l H2 m2 x y u v P Q r2 (d1.mono k2) d2 p2 fun d m' w H' k => q d m' w H' ((k1.trans k2).trans k)
theorem l_un {K : PySem.W.Frag} {r' : R1D} {r : V → Hp → VK → Prop} {ta : TDE} {σ : St} {H : Hp} {Q : VK} (l : Lift1 K r' r) (h : lE K H0 (dUn r' ta) σ H Q) : tUn r (lE K H0 ta) σ H Q := by
  obtain ⟨sd, m, P, a, p, q⟩ := h
  refine ⟨sd, m, _, a, p, fun x m1 u H1 k1 r1 d1 p1 => ?_⟩
  exact l H1 m1 x u P Q r1 d1 p1 fun d m' w H' k => q d m' w H' (k1.trans k)
structure OpD (X : Cx) (f : Value → Value → Sem Value) (r' : R2D) : Prop where
  ex : ∃ r, OpR X f r ∧ Lift2 X.K r' r
theorem qe_op {a b : Expr} {op : Operator} {pos : Pos} {r' : R2D} {ta tb : TDE} (o : OpD X (binaryOp op) r') (ha : PE X a (lE X.K H0 ta)) (hb : PE X b (lE X.K H0 tb)) : PE X (.BinOp a op b pos) (lE X.K H0 (dOp r' ta tb)) := by
  obtain ⟨r, h1, h2⟩ := o.ex
  exact peL (pe_op h1 ha hb) fun _ _ _ => l_op h2
theorem qe_cmp {a b : Expr} {op : CmpOp} {pos : Pos} {r' : R2D} {ta tb : TDE} (o : OpD X (compareOp op) r') (ha : PE X a (lE X.K H0 ta)) (hb : PE X b (lE X.K H0 tb)) (hm : behindInMarks op b = false) : PE X (.Compare a [op] [b] pos) (lE X.K H0 (dOp r' ta tb)) := by
  obtain ⟨r, h1, h2⟩ := o.ex
  exact peL (pe_cmpR h1 ha hb hm) fun _ _ _ => l_op h2
theorem OpD.or {f : Value → Value → Sem Value} {r r' : R2D} (h : OpD X f r) (h' : OpD X f r') : OpD X f (fun x y m P => r x y m P ∨ r' x y m P) := by
  obtain ⟨r1, h1, h2⟩ := h.ex
  obtain ⟨r3, h3, h4⟩ := h'.ex
  refine ⟨fun x y H Q => r1 x y H Q ∨ r3 x y H Q, ?_, ?_⟩
  · intro pins s σ H x y v u Q I rx ry q
    rcases q with q | q
    · exact h1 pins s σ H x y v u Q I rx ry q
    · exact h3 pins s σ H x y v u Q I rx ry q
  · intro H m x y u v P Q a b c d e
    exact d.imp (fun d => h2 H m x y u v P Q a b c d e) fun d => h4 H m x y u v P Q a b c d e
theorem OpD.imp {f : Value → Value → Sem Value} {r r' : R2D} (h : OpD X f r) (i : ∀ x y m P, r' x y m P → r x y m P) : OpD X f r' := by
  obtain ⟨r1, h1, h2⟩ := h.ex
  exact ⟨r1, h1, fun H m x y u v P Q a b c d e => h2 H m x y u v P Q a b c (i _ _ _ _ d) e⟩
end
end Q4

set_option Elab.async false
set_option linter.all false
set_option maxRecDepth 100000
namespace Q4
open PySem L2
section
variable {K : PySem.W.Frag} {H : Hp}
theorem RD.int_ {i : Int} {u : V} (h : RD K H (.int i) u) : u = .int i := by cases h; rfl
theorem RD.str_ {i : Str} {u : V} (h : RD K H (.str i) u) : u = .str i := by cases h; rfl
theorem RD.bl_ {i : Bool} {u : V} (h : RD K H (.bl i) u) : u = .bl i := by cases h; rfl
theorem RD.non_ {u : V} (h : RD K H .non u) : u = .non := by cases h; rfl
theorem RD.ref_ {a : Addr} {u : V} (h : RD K H (.ref a) u) : u = .ref a := by cases h; rfl
theorem RD.ty_ {n : String} {u : V} (h : RD K H (.ty n) u) : u = .ty n := by cases h; rfl
theorem RD.tup_ {xs : List D} {u : V} (h : RD K H (.tup xs) u) : ∃ a vs, u = .ref a ∧ SqT K H a vs ∧ RDs K H xs vs := by cases h; exact ⟨_, _, rfl, by assumption, by assumption⟩
theorem RD.rol_ {xs : List D} {u : V} (h : RD K H (.rol xs) u) : ∃ a vs, u = .ref a ∧ FrzL K H a vs ∧ RDs K H xs vs := by cases h; exact ⟨_, _, rfl, by assumption, by assumption⟩
theorem RDs.one_ {x : D} {us : List V} (h : RDs K H [x] us) : ∃ u, us = [u] ∧ RD K H x u := by
  cases h with | cons a b => cases b; exact ⟨_, rfl, a⟩
theorem RDs.two_ {x y : D} {us : List V} (h : RDs K H [x, y] us) : ∃ u v, us = [u, v] ∧ RD K H x u ∧ RD K H y v := by
  cases h with | cons a b => cases b with | cons c d => cases d; exact ⟨_, _, rfl, a, c⟩
theorem RDs.three_ {x y z : D} {us : List V} (h : RDs K H [x, y, z] us) : ∃ u v w, us = [u, v, w] ∧ RD K H x u ∧ RD K H y v ∧ RD K H z w := by
  cases h with | cons a b => cases b with | cons c d => cases d with | cons e f => cases f; exact ⟨_, _, _, rfl, a, c, e⟩
theorem RDs.nil_ {us : List V} (h : RDs K H [] us) : us = [] := by cases h; rfl
end
/-- ints in, one scalar out -/
def rI2 (C : Int → Int → Prop) (g : Int → Int → D) : R2D := fun x y m P => match x, y with
  | .int i, .int j => C i j ∧ P (g i j) m
  | _, _ => False
section
variable {X : Cx} {f : Value → Value → Sem Value}
theorem opd_I {C : Int → Int → Prop} {g : Int → Int → V} {gd : Int → Int → D} (h : OpR X f (rI C g)) (r : ∀ H i j, RD X.K H (gd i j) (g i j)) : OpD X f (rI2 C gd) := by
  refine ⟨_, h, fun H m x y u v P Q rm rx ry p q => ?_⟩
  unfold rI2 at p
  split at p
  · obtain ⟨c, p⟩ := p
    cases rx.int_
    cases ry.int_
    exact ⟨_, _, rfl, rfl, c, q _ m _ H (Keep.refl _) rm (r H _ _) p⟩
  · exact p.elim
theorem opd_I0 {g : Int → Int → V} {gd : Int → Int → D} (h : OpR X f (rI0 g)) (r : ∀ H i j, RD X.K H (gd i j) (g i j)) : OpD X f (rI2 (fun _ _ => True) gd) := by
  refine ⟨_, h, fun H m x y u v P Q rm rx ry p q => ?_⟩
  unfold rI2 at p
  split at p
  · obtain ⟨c, p⟩ := p
    cases rx.int_
    cases ry.int_
    exact ⟨_, _, rfl, rfl, q _ m _ H (Keep.refl _) rm (r H _ _) p⟩
  · exact p.elim
/-! ### + -/
def rAdd : R2D := fun x y m P => match x, y with
  | .int i, .int j => P (.int (i + j)) m
  | .str a, .str b => a.length + b.length ≤ sizeLine ∧ P (.str (a ++ b)) m
  | .tup xs, .tup ys => xs.length + ys.length ≤ sizeLine ∧ P (.tup (xs ++ ys)) m
  | .ref a, .ref b => ∃ xs ys, m a = some (.lst xs) ∧ m b = some (.lst ys) ∧ xs.length + ys.length ≤ sizeLine ∧ ∀ p, m p = none → P (.ref p) (put m p (.lst (xs ++ ys)))
  | _, _ => False
theorem od_add : OpD X (binaryOp .Add) rAdd := by
  have h1 : OpD X (binaryOp .Add) (rI2 (fun _ _ => True) fun i j => .int (i + j)) := opd_I0 op_add fun _ _ _ => .int _
  have h2 : OpD X (binaryOp .Add) (fun x y m P => ∃ a b, x = .str a ∧ y = .str b ∧ a.length + b.length ≤ sizeLine ∧ P (.str (a ++ b)) m) := by
    refine ⟨_, op_add_str, fun H m x y u v P Q rm rx ry p q => ?_⟩
    obtain ⟨a, b, rfl, rfl, z, p⟩ := p
    cases rx.str_
    cases ry.str_
    exact ⟨_, _, rfl, rfl, z, q _ m _ H (Keep.refl _) rm (.str _) p⟩
  have h3 : OpD X (binaryOp .Add) (fun x y m P => ∃ xs ys, x = .tup xs ∧ y = .tup ys ∧ xs.length + ys.length ≤ sizeLine ∧ P (.tup (xs ++ ys)) m) := by
    refine ⟨_, op_catA, fun H m x y u v P Q rm rx ry p q => ?_⟩
    obtain ⟨xs, ys, rfl, rfl, z, p⟩ := p
    obtain ⟨a, vs, rfl, ha, r1⟩ := rx.tup_
    obtain ⟨b, us, rfl, hb, r2⟩ := ry.tup_
    refine ⟨a, b, vs, us, rfl, rfl, ha, hb, by rw [← r1.length, ← r2.length]; exact z, fun e => ?_, fun e e2 => ?_, fun e e2 p' hp => ?_⟩
    · subst e
      have : xs = [] := List.length_eq_zero_iff.mp r1.length
      subst this
      exact q _ m _ H (Keep.refl _) rm (.tup hb r2) p
    · subst e2
      have : ys = [] := List.length_eq_zero_iff.mp r2.length
      subst this
      exact q _ m _ H (Keep.refl _) rm (.tup ha (by simpa using r1)) p
    · exact q _ m _ _ (Keep.new hp) (rm.new hp) (.tup (.inl (.inl upd_same)) ((r1.append r2).mono (Keep.new hp))) p
  have h4 : OpD X (binaryOp .Add) (fun x y m P => ∃ a b xs ys, x = .ref a ∧ y = .ref b ∧ m a = some (.lst xs) ∧ m b = some (.lst ys) ∧ xs.length + ys.length ≤ sizeLine ∧ ∀ p, m p = none → P (.ref p) (put m p (.lst (xs ++ ys)))) := by
    refine ⟨_, op_cat, fun H m x y u v P Q rm rx ry p q => ?_⟩
    obtain ⟨a, b, xs, ys, rfl, rfl, ha, hb, z, p⟩ := p
    cases rx.ref_
    cases ry.ref_
    obtain ⟨vs, e1, r1⟩ := rm a _ ha
    obtain ⟨us, e2, r2⟩ := rm b _ hb
    refine ⟨a, b, vs, us, rfl, rfl, e1, e2, by rw [← r1.length, ← r2.length]; exact z, fun p' hp => ?_⟩
    exact q _ _ _ _ (Keep.new hp) (rm.newPut hp (r1.append r2)) (.ref p') (p p' (rm.free hp))
  refine (h1.or (h2.or (h3.or h4))).imp fun x y m P p => ?_
  unfold rAdd at p
  split at p
  · exact .inl ⟨trivial, p⟩
  · exact .inr (.inl ⟨_, _, rfl, rfl, p⟩)
  · exact .inr (.inr (.inl ⟨_, _, rfl, rfl, p⟩))
  · obtain ⟨xs, ys, p⟩ := p
    exact .inr (.inr (.inr ⟨_, _, xs, ys, rfl, rfl, p⟩))
  · exact p.elim
/-! ### other arithmetic -/
abbrev rSub : R2D := rI2 (fun _ _ => True) fun i j => .int (i - j)
theorem od_sub : OpD X (binaryOp .Sub) rSub := opd_I0 op_sub fun _ _ _ => .int _
abbrev rFdiv : R2D := rI2 CDivW fun i j => .int (i / j)
theorem od_fdiv : OpD X (binaryOp .FloorDiv) rFdiv := opd_I op_fdivW fun _ _ _ => .int _
abbrev rMod : R2D := rI2 (fun _ j => 0 < j) fun i j => .int (i % j)
theorem od_mod : OpD X (binaryOp .Mod) rMod := opd_I op_mod fun _ _ _ => .int _
abbrev rPow : R2D := rI2 CPow fun i j => .int (i ^ j.toNat)
theorem od_pow : OpD X (binaryOp .Pow) rPow := opd_I op_pow fun _ _ _ => .int _
def rMul : R2D := fun x y m P => match x, y with
  | .int i, .int j => CMul i j ∧ P (.int (i * j)) m
  | .ref a, .int k => ∃ xs, m a = some (.lst xs) ∧ -(2 ^ 63) ≤ k ∧ k < 2 ^ 63 ∧ xs.length * k.toNat ≤ sizeLine ∧ ∀ p, m p = none → P (.ref p) (put m p (.lst (List.replicate k.toNat xs).flatten))
  | _, _ => False
theorem RDs.flat {K : PySem.W.Frag} {H : Hp} {xs : List D} {vs : List V} (r : RDs K H xs vs) : ∀ n : Nat, RDs K H (List.replicate n xs).flatten (List.replicate n vs).flatten
  | 0 => .nil
  | n + 1 => by
    rw [List.replicate_succ, List.replicate_succ, List.flatten_cons, List.flatten_cons]
    exact r.append (r.flat n)
theorem od_mul : OpD X (binaryOp .Mult) rMul := by
  have h1 : OpD X (binaryOp .Mult) (rI2 CMul fun i j => .int (i * j)) := opd_I op_mul fun _ _ _ => .int _
  have h2 : OpD X (binaryOp .Mult) (fun x y m P => ∃ a k xs, x = .ref a ∧ y = .int k ∧ m a = some (.lst xs) ∧ -(2 ^ 63) ≤ k ∧ k < 2 ^ 63 ∧ xs.length * k.toNat ≤ sizeLine ∧ ∀ p, m p = none → P (.ref p) (put m p (.lst (List.replicate k.toNat xs).flatten))) := by
    refine ⟨_, op_rep, fun H m x y u v P Q rm rx ry p q => ?_⟩
    obtain ⟨a, k, xs, rfl, rfl, ha, h1, h2, z, p⟩ := p
    cases rx.ref_
    cases ry.int_
    obtain ⟨vs, e1, r1⟩ := rm a _ ha
    refine ⟨a, k, vs, rfl, rfl, e1, h1, h2, by rw [← r1.length]; exact z, fun p' hp => ?_⟩
    exact q _ _ _ _ (Keep.new hp) (rm.newPut hp (r1.flat _)) (.ref p') (p p' (rm.free hp))
  refine (h1.or h2).imp fun x y m P p => ?_
  unfold rMul at p
  split at p
  · exact .inl p
  · obtain ⟨xs, p⟩ := p
    exact .inr ⟨_, _, xs, rfl, rfl, p⟩
  · exact p.elim
/-! ### order -/
def rLtD : R2D := rI2 (fun _ _ => True) fun i j => .bl (decide (i < j))
def rLeD : R2D := rI2 (fun _ _ => True) fun i j => .bl (decide (i ≤ j))
def rGtD : R2D := rI2 (fun _ _ => True) fun i j => .bl (decide (j < i))
def rGeD : R2D := rI2 (fun _ _ => True) fun i j => .bl (decide (j ≤ i))
theorem od_lt : OpD X (compareOp .Lt) rLtD := opd_I0 op_lt fun _ _ _ => .bl _
theorem od_le : OpD X (compareOp .LtE) rLeD := opd_I0 op_le fun _ _ _ => .bl _
theorem od_gt : OpD X (compareOp .Gt) rGtD := opd_I0 op_gt fun _ _ _ => .bl _
theorem od_ge : OpD X (compareOp .GtE) rGeD := opd_I0 op_ge fun _ _ _ => .bl _
end
/-! ### == -/
mutual
def D.py : D → PyData
  | .non => .none
  | .bl b => .bool b
  | .int i => .int i
  | .str x => .str x
  | .tup xs => .tuple (D.pys xs)
  | .rol _ => .dict []
  | .ref _ => .dict []
  | .ty _ => .dict []
def D.pys : List D → List PyData
  | [] => []
  | x :: xs => x.py :: D.pys xs
end
mutual
theorem dp_of {K : PySem.W.Frag} {H : Hp} : ∀ {d : D} {v : V}, RD K H d v → d.py.canLay0 = true → Dp K H v d.py
  | _, _, .non, _ => .non
  | _, _, .bl b, _ => .bl b
  | _, _, .int b, _ => .int b
  | _, _, .str b, _ => .str b
  | _, _, .ref b, h => by simp [D.py, PyData.canLay0] at h
  | _, _, .ty b, h => by simp [D.py, PyData.canLay0] at h
  | _, _, .rol _ _, h => by simp [D.py, PyData.canLay0] at h
  | _, _, .tup (ds := ds) hs r, h => .tup hs (dps_of r (by simpa [D.py, PyData.canLay0] using h))
theorem dps_of {K : PySem.W.Frag} {H : Hp} : ∀ {d : List D} {v : List V}, RDs K H d v → PyData.canLayAll0 (D.pys d) = true → DpAll K H v (D.pys d)
  | _, _, .nil, _ => .nil
  | _, _, .cons (d := d) (ds := ds) h r, z => by
    have z' : d.py.canLay0 = true ∧ PyData.canLayAll0 (D.pys ds) = true := by simpa [D.pys, PyData.canLayAll0] using z
    exact .cons (dp_of h z'.1) (dps_of r z'.2)
end
def okD (d : D) : Prop := SeqAt.shaped d.py = true
def eqD (x y : D) : Bool := PyData.eqv x.py y.py
def rEqD : R2D := fun x y m P => match x, y with
  | .int i, .int j => P (.bl (decide (i = j))) m
  | .str i, .str j => P (.bl (decide (i = j))) m
  | .bl i, .bl j => P (.bl (decide (i = j))) m
  | .int _, .str _ => P (.bl false) m
  | .str _, .int _ => P (.bl false) m
  | x, y => okD x ∧ okD y ∧ P (.bl (eqD x y)) m
def rNeD : R2D := fun x y m P => match x, y with
  | .int i, .int j => P (.bl (!decide (i = j))) m
  | .str i, .str j => P (.bl (!decide (i = j))) m
  | .bl i, .bl j => P (.bl (!decide (i = j))) m
  | .int _, .str _ => P (.bl true) m
  | .str _, .int _ => P (.bl true) m
  | x, y => okD x ∧ okD y ∧ P (.bl (!eqD x y)) m
section
variable {X : Cx}
theorem od_eq (hu : X.A.units + 64 < cLine) : OpD X (compareOp .Eq) rEqD := by
  have h1 : OpD X (compareOp .Eq) (fun x y m P => ∃ u v, (∀ H, RD X.K H x u → True) ∧ (∀ H w, RD X.K H x w → w = u) ∧ (∀ H w, RD X.K H y w → w = v) ∧ scal u v = true ∧ P (.bl (decide (u = v))) m) := by
    refine ⟨_, op_eq, fun H m x y u v P Q rm rx ry p q => ?_⟩
    obtain ⟨u', v', _, e1, e2, s, p⟩ := p
    cases e1 _ _ rx
    cases e2 _ _ ry
    exact ⟨s, q _ m _ H (Keep.refl _) rm (.bl _) p⟩
  have h2 : OpD X (compareOp .Eq) (fun x y m P => okD x ∧ okD y ∧ P (.bl (eqD x y)) m) := by
    refine ⟨_, op_eqD hu, fun H m x y u v P Q rm rx ry p q => ?_⟩
    obtain ⟨o1, o2, p⟩ := p
    exact ⟨_, _, dp_of rx (SeqAt.canLay_of_shaped o1), dp_of ry (SeqAt.canLay_of_shaped o2), o1, o2, q _ m _ H (Keep.refl _) rm (.bl _) p⟩
  refine (h1.or h2).imp fun x y m P p => ?_
  unfold rEqD at p
  split at p
  · exact .inl ⟨_, _, fun _ _ => trivial, fun _ _ r => r.int_, fun _ _ r => r.int_, rfl, by rw [dec_int, ← Bool.beq_eq_decide_eq] at *; simpa [Bool.beq_eq_decide_eq] using p⟩
  · exact .inl ⟨_, _, fun _ _ => trivial, fun _ _ r => r.str_, fun _ _ r => r.str_, rfl, by simpa using p⟩
  · exact .inl ⟨_, _, fun _ _ => trivial, fun _ _ r => r.bl_, fun _ _ r => r.bl_, rfl, by simpa using p⟩
  · exact .inl ⟨_, _, fun _ _ => trivial, fun _ _ r => r.int_, fun _ _ r => r.str_, rfl, by simpa using p⟩
  · exact .inl ⟨_, _, fun _ _ => trivial, fun _ _ r => r.str_, fun _ _ r => r.int_, rfl, by simpa using p⟩
  · exact .inr p
theorem od_ne (hu : X.A.units + 64 < cLine) : OpD X (compareOp .NotEq) rNeD := by
  have h1 : OpD X (compareOp .NotEq) (fun x y m P => ∃ u v, (∀ H w, RD X.K H x w → w = u) ∧ (∀ H w, RD X.K H y w → w = v) ∧ scal u v = true ∧ P (.bl (!decide (u = v))) m) := by
    refine ⟨_, op_ne, fun H m x y u v P Q rm rx ry p q => ?_⟩
    obtain ⟨u', v', e1, e2, s, p⟩ := p
    cases e1 _ _ rx
    cases e2 _ _ ry
    exact ⟨s, q _ m _ H (Keep.refl _) rm (.bl _) p⟩
  have h2 : OpD X (compareOp .NotEq) (fun x y m P => okD x ∧ okD y ∧ P (.bl (!eqD x y)) m) := by
    refine ⟨_, op_neD hu, fun H m x y u v P Q rm rx ry p q => ?_⟩
    obtain ⟨o1, o2, p⟩ := p
    exact ⟨_, _, dp_of rx (SeqAt.canLay_of_shaped o1), dp_of ry (SeqAt.canLay_of_shaped o2), o1, o2, q _ m _ H (Keep.refl _) rm (.bl _) p⟩
  refine (h1.or h2).imp fun x y m P p => ?_
  unfold rNeD at p
  split at p
  · exact .inl ⟨_, _, fun _ _ r => r.int_, fun _ _ r => r.int_, rfl, by simpa using p⟩
  · exact .inl ⟨_, _, fun _ _ r => r.str_, fun _ _ r => r.str_, rfl, by simpa using p⟩
  · exact .inl ⟨_, _, fun _ _ r => r.bl_, fun _ _ r => r.bl_, rfl, by simpa using p⟩
  · exact .inl ⟨_, _, fun _ _ r => r.int_, fun _ _ r => r.str_, rfl, by simpa using p⟩
  · exact .inl ⟨_, _, fun _ _ r => r.str_, fun _ _ r => r.int_, rfl, by simpa using p⟩
  · exact .inr p
end
end Q4

set_option Elab.async false
set_option linter.all false
set_option maxRecDepth 100000
namespace Q4
open PySem L2
section
variable {X : Cx} {H0 : Hp}
/-! ### tests -/
def dB (t : TDE) : TDT := fun sd m P => t sd m fun x m1 => match x with | .bl b => P b m1 | _ => False
def dAnd (t u : TDT) : TDT := fun sd m P => t sd m fun c m1 => if c = true then u sd m1 P else P false m1
def dOr (t u : TDT) : TDT := fun sd m P => t sd m fun c m1 => if c = true then P true m1 else u sd m1 P
def dNot (t : TDT) : TDT := fun sd m P => t sd m fun c m1 => P (!c) m1
section
variable {K : PySem.W.Frag} {σ : St} {H : Hp}
theorem l_B {t : TDE} {Q : Bool → Hp → Prop} (h : lT K H0 (dB t) σ H Q) : tB (lE K H0 t) σ H Q := by
  obtain ⟨sd, m, P, a, p, q⟩ := h
  refine ⟨sd, m, _, a, p, fun d m' v H' k r rd p' => ?_⟩
  cases d with
  | bl b => cases rd.bl_; exact ⟨b, rfl, q b m' H' k r p'⟩
  | _ => exact p'.elim
theorem l_and {t u : TDT} {Q : Bool → Hp → Prop} (h : lT K H0 (dAnd t u) σ H Q) : tAnd (lT K H0 t) (lT K H0 u) σ H Q := by
  obtain ⟨sd, m, P, a, p, q⟩ := h
  refine ⟨sd, m, _, a, p, fun b m' H' k r p' => ?_⟩
  cases b with
  | true => exact ⟨sd, m', P, a.to k r, p', fun b m2 H2 k2 => q b m2 H2 (k.trans k2)⟩
  | false => exact q _ m' H' k r p'
theorem l_or {t u : TDT} {Q : Bool → Hp → Prop} (h : lT K H0 (dOr t u) σ H Q) : tOr (lT K H0 t) (lT K H0 u) σ H Q := by
  obtain ⟨sd, m, P, a, p, q⟩ := h
  refine ⟨sd, m, _, a, p, fun b m' H' k r p' => ?_⟩
  cases b with
  | true => exact q _ m' H' k r p'
  | false => exact ⟨sd, m', P, a.to k r, p', fun b m2 H2 k2 => q b m2 H2 (k.trans k2)⟩
theorem l_not {t : TDT} {Q : Bool → Hp → Prop} (h : lT K H0 (dNot t) σ H Q) : tNot (lT K H0 t) σ H Q := by
  obtain ⟨sd, m, P, a, p, q⟩ := h
  exact ⟨sd, m, _, a, p, fun b m' H' k r p' => q _ m' H' k r p'⟩
end
theorem qt_val {e : Expr} {t : TDE} (h : PE X e (lE X.K H0 t)) (he : ∀ whole, isTrue e X.env whole = (do let v ← whole; standAt e.pos; holding [v] (truthy v)) := by intro _; rfl) : PT X e (lT X.K H0 (dB t)) := ptL (pt_val h he) fun _ _ _ => l_B
theorem l_tst {K : PySem.W.Frag} {σ : St} {H : Hp} {r' : R2D} {r : R2} {ta tb : TDE} {Q : Bool → Hp → Prop} (l : Lift2 K r' r) (h : lT K H0 (dB (dOp r' ta tb)) σ H Q) : tTest (tOp r (lE K H0 ta) (lE K H0 tb)) σ H Q := by
  refine l_op (K := K) (H0 := H0) l ?_
  obtain ⟨sd, m, P, a, p, q⟩ := h
  refine ⟨sd, m, _, a, p, fun d m' v H' k r rd p' => ?_⟩
  cases d with
  | bl b => cases rd.bl_; exact ⟨b, rfl, q b m' H' k r p'⟩
  | _ => exact p'.elim
theorem qt_cmp {a b : Expr} {op : CmpOp} {pos : Pos} {r' : R2D} {ta tb : TDE} (o : OpD X (compareOp op) r') (ha : PE X a (lE X.K H0 ta)) (hb : PE X b (lE X.K H0 tb)) (hm : behindInMarks op b = false) : PT X (.Compare a [op] [b] pos) (lT X.K H0 (dB (dOp r' ta tb))) := by
  obtain ⟨r, h1, h2⟩ := o.ex
  exact ptL (pt_cmpR h1 ha hb hm) fun _ _ _ => l_tst h2
theorem qw_and1 {a : Expr} {t : TDT} {pos : Pos} (h : PT X a (lT X.K H0 t)) : PW X (.BoolOp .And [a] pos) (lT X.K H0 t) := pw_and1 h
theorem qw_or1 {a : Expr} {t : TDT} {pos : Pos} (h : PT X a (lT X.K H0 t)) : PW X (.BoolOp .Or [a] pos) (lT X.K H0 t) := pw_or1 h
theorem qw_and {a b : Expr} {rest : List Expr} {t u : TDT} {pos : Pos} (ha : PT X a (lT X.K H0 t)) (hb : PW X (.BoolOp .And (b :: rest) pos) (lT X.K H0 u)) : PW X (.BoolOp .And (a :: b :: rest) pos) (lT X.K H0 (dAnd t u)) := pwL (pw_and ha hb) fun _ _ _ => l_and
theorem qw_or {a b : Expr} {rest : List Expr} {t u : TDT} {pos : Pos} (ha : PT X a (lT X.K H0 t)) (hb : PW X (.BoolOp .Or (b :: rest) pos) (lT X.K H0 u)) : PW X (.BoolOp .Or (a :: b :: rest) pos) (lT X.K H0 (dOr t u)) := pwL (pw_or ha hb) fun _ _ _ => l_or
theorem qt_not {a : Expr} {t : TDT} {pos : Pos} (ha : PT X a (lT X.K H0 t)) : PT X (.UnaryOp .Not a pos) (lT X.K H0 (dNot t)) := ptL (pt_not ha) fun _ _ _ => l_not
/-! ### and, or, not as values (bools) -/
def dAndV (ta tb : TDE) : TDE := fun sd m P => ta sd m fun x m1 => match x with | .bl c => if c = true then tb sd m1 P else P (.bl false) m1 | _ => False
def dOrV (ta tb : TDE) : TDE := fun sd m P => ta sd m fun x m1 => match x with | .bl c => if c = true then P (.bl true) m1 else tb sd m1 P | _ => False
def dNotV (ta : TDE) : TDE := fun sd m P => ta sd m fun x m1 => match x with | .bl c => P (.bl (!c)) m1 | _ => False
theorem qe_one {a : Expr} {op} {t : TDE} {pos : Pos} (h : PE X a (lE X.K H0 t)) : PE X (.BoolOp op [a] pos) (lE X.K H0 t) := pe_one h
theorem qe_and {a b : Expr} {rest : List Expr} {ta tb : TDE} {pos : Pos} (ha : PE X a (lE X.K H0 ta)) (hb : PE X (.BoolOp .And (b :: rest) pos) (lE X.K H0 tb)) : PE X (.BoolOp .And (a :: b :: rest) pos) (lE X.K H0 (dAndV ta tb)) := peL (pe_and ha hb) fun σ H Q h => by
  obtain ⟨sd, m, P, a, p, q⟩ := h
  refine ⟨sd, m, _, a, p, fun d m' v H' k r rd p' => ?_⟩
  cases d with
  | bl b =>
    cases rd.bl_
    refine ⟨b, rfl, ?_⟩
    cases b with
    | true => exact ⟨sd, m', P, a.to k r, p', fun b m2 v H2 k2 => q b m2 v H2 (k.trans k2)⟩
    | false => exact q _ m' _ H' k r (.bl _) p'
  | _ => exact p'.elim
theorem qe_or {a b : Expr} {rest : List Expr} {ta tb : TDE} {pos : Pos} (ha : PE X a (lE X.K H0 ta)) (hb : PE X (.BoolOp .Or (b :: rest) pos) (lE X.K H0 tb)) : PE X (.BoolOp .Or (a :: b :: rest) pos) (lE X.K H0 (dOrV ta tb)) := peL (pe_or ha hb) fun σ H Q h => by
  obtain ⟨sd, m, P, a, p, q⟩ := h
  refine ⟨sd, m, _, a, p, fun d m' v H' k r rd p' => ?_⟩
  cases d with
  | bl b =>
    cases rd.bl_
    refine ⟨b, rfl, ?_⟩
    cases b with
    | false => exact ⟨sd, m', P, a.to k r, p', fun b m2 v H2 k2 => q b m2 v H2 (k.trans k2)⟩
    | true => exact q _ m' _ H' k r (.bl _) p'
  | _ => exact p'.elim
theorem qe_not {a : Expr} {ta : TDE} {pos : Pos} (ha : PE X a (lE X.K H0 ta)) : PE X (.UnaryOp .Not a pos) (lE X.K H0 (dNotV ta)) := peL (pe_not ha) fun σ H Q h => by
  obtain ⟨sd, m, P, a, p, q⟩ := h
  refine ⟨sd, m, _, a, p, fun d m' v H' k r rd p' => ?_⟩
  cases d with
  | bl b => cases rd.bl_; exact ⟨b, rfl, q _ m' _ H' k r (.bl _) p'⟩
  | _ => exact p'.elim
def dIfE (t : TDT) (ta tb : TDE) : TDE := fun sd m P => t sd m fun c m1 => if c = true then ta sd m1 P else tb sd m1 P
theorem qe_if {c a b : Expr} {t : TDT} {ta tb : TDE} {pos : Pos} (hc : PT X c (lT X.K H0 t)) (ha : PE X a (lE X.K H0 ta)) (hb : PE X b (lE X.K H0 tb)) : PE X (.IfExp c a b pos) (lE X.K H0 (dIfE t ta tb)) := peL (pe_ifExp hc ha hb) fun σ H Q h => by
  obtain ⟨sd, m, P, a, p, q⟩ := h
  refine ⟨sd, m, _, a, p, fun b m' H' k r p' => ?_⟩
  cases b with
  | true => exact ⟨sd, m', P, a.to k r, p', fun b m2 v H2 k2 => q b m2 v H2 (k.trans k2)⟩
  | false => exact ⟨sd, m', P, a.to k r, p', fun b m2 v H2 k2 => q b m2 v H2 (k.trans k2)⟩
/-- a op b op' c -/
def dChain (r r' : R2D) (ta tb tc : TDE) : TDE := fun sd m P => ta sd m fun x m1 => tb sd m1 fun y m2 => r x y m2 fun z m3 => match z with
  | .bl k => if k = true then tc sd m3 fun w m4 => r' y w m4 P else P (.bl false) m3
  | _ => False
theorem l_chain {K : PySem.W.Frag} {r r' : R2D} {s s' : R2} {ta tb tc : TDE} {σ : St} {H : Hp} {Q : VK} (l : Lift2 K r s) (l' : Lift2 K r' s') (h : lE K H0 (dChain r r' ta tb tc) σ H Q) : tChain s s' (lE K H0 ta) (lE K H0 tb) (lE K H0 tc) σ H Q := by
  obtain ⟨sd, m, P, a, p, q⟩ := h
  refine ⟨sd, m, _, a, p, fun x m1 u H1 k1 r1 d1 p1 => ?_⟩
  refine ⟨sd, m1, _, a.to k1 r1, p1, fun y m2 v H2 k2 r2 d2 p2 => ?_⟩
  refine l H2 m2 x y u v _ _ r2 (d1.mono k2) d2 p2 fun d m3 w H3 k3 r3 d3 p3 => ?_
  cases d with
  | bl b =>
    cases d3.bl_
    refine ⟨b, rfl, ?_⟩
    cases b with
    | true =>
      refine ⟨sd, m3, _, a.to ((k1.trans k2).trans k3) r3, p3, fun z m4 w H4 k4 r4 d4 p4 => ?_⟩
      exact l' H4 m4 y z v w P Q r4 (d2.mono (k3.trans k4)) d4 p4 fun d m' w H' k => q d m' w H' ((((k1.trans k2).trans k3).trans k4).trans k)
    | false => exact q _ m3 _ H3 ((k1.trans k2).trans k3) r3 (.bl _) p3
  | _ => exact p3.elim
theorem qe_chain {a b c : Expr} {op op' : CmpOp} {r r' : R2D} {ta tb tc : TDE} {pos : Pos} (o : OpD X (compareOp op) r) (o' : OpD X (compareOp op') r') (ha : PE X a (lE X.K H0 ta)) (hb : PE X b (lE X.K H0 tb)) (hc : PE X c (lE X.K H0 tc))
    (hm : lastMarks [op, op'] [b, c] = false := by with_unfolding_all rfl) : PE X (.Compare a [op, op'] [b, c] pos) (lE X.K H0 (dChain r r' ta tb tc)) := by
  obtain ⟨s, h1, h2⟩ := o.ex
  obtain ⟨s', h1', h2'⟩ := o'.ex
  exact peL (pe_chain h1 h1' ha hb hc hm) fun _ _ _ => l_chain h2 h2'
theorem qt_chain {a b c : Expr} {op op' : CmpOp} {r r' : R2D} {ta tb tc : TDE} {pos : Pos} (o : OpD X (compareOp op) r) (o' : OpD X (compareOp op') r') (ha : PE X a (lE X.K H0 ta)) (hb : PE X b (lE X.K H0 tb)) (hc : PE X c (lE X.K H0 tc))
    (hm : lastMarks [op, op'] [b, c] = false := by with_unfolding_all rfl) : PT X (.Compare a [op, op'] [b, c] pos) (lT X.K H0 (dB (dChain r r' ta tb tc))) := by
  obtain ⟨s, h1, h2⟩ := o.ex
  obtain ⟨s', h1', h2'⟩ := o'.ex
  refine ptL (pt_chain h1 h1' ha hb hc hm) fun σ H Q h => ?_
  refine l_chain (K := X.K) (H0 := H0) h2 h2' ?_
  obtain ⟨sd, m, P, a, p, q⟩ := h
  refine ⟨sd, m, _, a, p, fun d m' v H' k r rd p' => ?_⟩
  cases d with
  | bl b => cases rd.bl_; exact ⟨b, rfl, q b m' H' k r p'⟩
  | _ => exact p'.elim
/-! ### truth of lists, tuples, texts, ints -/
def truD : D → M → (Bool → M → Prop) → Prop := fun x m P => match x with
  | .bl b => P b m
  | .int i => P (i != 0) m
  | .str y => y.length ≤ sizeLine ∧ P ((y.length : Int) != 0) m
  | .tup xs => P (!xs.isEmpty) m
  | .non => P false m
  | .rol xs => P (!xs.isEmpty) m
  | .ref a => ∃ xs, m a = some (.lst xs) ∧ P (!xs.isEmpty) m
  | _ => False
def dTru (t : TDE) : TDT := fun sd m P => t sd m fun x m1 => truD x m1 P
theorem RDs.isEmpty {K : PySem.W.Frag} {H : Hp} : ∀ {xs : List D} {vs : List V}, RDs K H xs vs → xs.isEmpty = vs.isEmpty
  | _, _, .nil => rfl
  | _, _, .cons _ _ => rfl
theorem qt_tru {a : Expr} {t : TDE} (ha : PE X a (lE X.K H0 t)) (he : ∀ whole, isTrue a X.env whole = (do let v ← whole; standAt a.pos; holding [v] (truthy v)) := by intro _; rfl) : PT X a (lT X.K H0 (dTru t)) := ptL (pt_truth ha he) fun σ H Q h => by
  obtain ⟨sd, m, P, a, p, q⟩ := h
  refine ⟨sd, m, _, a, p, fun d m' v H' k r rd p' => ?_⟩
  cases d with
  | bl b => cases rd.bl_; exact ⟨b, rfl, q b m' H' k r p'⟩
  | int b => cases rd.int_; exact ⟨_, rfl, q _ m' H' k r p'⟩
  | non => cases rd.non_; exact ⟨_, rfl, q _ m' H' k r p'⟩
  | str b => cases rd.str_; exact ⟨_, ⟨p'.1, rfl⟩, q _ m' H' k r p'.2⟩
  | tup xs =>
    obtain ⟨a, vs, rfl, h1, h2⟩ := rd.tup_
    exact ⟨_, .inr (.inl ⟨vs, h1, rfl⟩), q _ m' H' k r (by rw [← h2.isEmpty]; exact p')⟩
  | ref a =>
    cases rd.ref_
    obtain ⟨xs, h1, p'⟩ := p'
    obtain ⟨vs, e1, r1⟩ := r a _ h1
    exact ⟨_, .inl ⟨vs, .inl (.inl e1), rfl⟩, q _ m' H' k r (by rw [← r1.isEmpty]; exact p')⟩
  | rol xs =>
    obtain ⟨a, vs, rfl, h1, h2⟩ := rd.rol_
    exact ⟨_, .inl ⟨vs, h1.sq, rfl⟩, q _ m' H' k r (by rw [← h2.isEmpty]; exact p')⟩
  | ty n => exact p'.elim
/-! ### argument lists, displays -/
def dNil : TDA := fun _ m P => P [] m
def dCons (ta : TDE) (tr : TDA) : TDA := fun sd m P => ta sd m fun x m1 => tr sd m1 fun xs m2 => P (x :: xs) m2
theorem qa_nil : PA X [] (lA X.K H0 dNil) := paL pa_nil fun σ H Q h => by
  obtain ⟨sd, m, P, a, p, q⟩ := h
  exact q [] m [] H (Keep.refl _) a.m .nil p
theorem l_cons {K : PySem.W.Frag} {ta : TDE} {tr : TDA} {σ : St} {H : Hp} {Q : List V → Hp → Prop} (h : lA K H0 (dCons ta tr) σ H Q) : tCons (lE K H0 ta) (lA K H0 tr) σ H Q := by
  obtain ⟨sd, m, P, a, p, q⟩ := h
  refine ⟨sd, m, _, a, p, fun x m1 u H1 k1 r1 d1 p1 => ?_⟩
  exact ⟨sd, m1, _, a.to k1 r1, p1, fun xs m2 us H2 k2 r2 d2 p2 => q _ m2 _ H2 (k1.trans k2) r2 (.cons (d1.mono k2) d2) p2⟩
theorem qa_cons {e : Expr} {es : List Expr} {te : TDE} {t : TDA} (ha : PE X e (lE X.K H0 te)) (hr : PA X es (lA X.K H0 t)) (hs : starEach (e :: es) X.env = (false, eval e X.env) :: starEach es X.env := by rfl) : PA X (e :: es) (lA X.K H0 (dCons te t)) :=
  paL (pa_cons ha hr hs) fun _ _ _ => l_cons
def dTup (t : TDA) : TDE := fun sd m P => t sd m fun xs m1 => xs.length ≤ sizeLine ∧ P (.tup xs) m1
def dLst (t : TDA) : TDE := fun sd m P => t sd m fun xs m1 => xs.length ≤ sizeLine ∧ ∀ p, m1 p = none → P (.ref p) (put m1 p (.lst xs))
theorem qe_tup {es : List Expr} {x1} {pos : Pos} {t : TDA} (h : PA X es (lA X.K H0 t)) : PE X (.Tuple es x1 pos) (lE X.K H0 (dTup t)) := peL (pe_tup h) fun σ H Q h => by
  obtain ⟨sd, m, P, a, p, q⟩ := h
  refine ⟨sd, m, _, a, p, fun xs m1 us H1 k1 r1 d1 p1 => ⟨by rw [← d1.length]; exact p1.1, fun z hz => ?_⟩⟩
  exact q _ m1 _ _ (k1.trans (Keep.new hz)) (r1.new hz) (.tup (.inl (.inl upd_same)) (d1.mono (Keep.new hz))) p1.2
theorem qe_lst {es : List Expr} {pos : Pos} {t : TDA} (h : PA X es (lA X.K H0 t)) : PE X (.List es pos) (lE X.K H0 (dLst t)) := peL (pe_lst h) fun σ H Q h => by
  obtain ⟨sd, m, P, a, p, q⟩ := h
  refine ⟨sd, m, _, a, p, fun xs m1 us H1 k1 r1 d1 p1 => ⟨by rw [← d1.length]; exact p1.1, fun z hz => ?_⟩⟩
  exact q _ _ _ _ (k1.trans (Keep.new hz)) (r1.newPut hz d1) (.ref z) (p1.2 z (r1.free hz))
/-! ### subscripts -/
def rIxD : R2D := fun x y m P => match x, y with
  | .tup xs, .int i => ∃ d, atI xs i = some d ∧ P d m
  | .str z, .int i => z.length ≤ sizeLine ∧ ∃ c, atI z.cps.toList i = some c ∧ P (.str ⟨#[c]⟩) m
  | .rol xs, .int i => ∃ d, atI xs i = some d ∧ P d m
  | .ref a, .int i => ∃ xs d, m a = some (.lst xs) ∧ atI xs i = some d ∧ P d m
  | _, _ => False
theorem RDs.atI {K : PySem.W.Frag} {H : Hp} {xs : List D} {vs : List V} {i : Int} {d : D} (r : RDs K H xs vs) (h : L2.atI xs i = some d) : ∃ v, L2.atI vs i = some v ∧ RD K H d v := by
  unfold L2.atI at h ⊢
  rw [← r.length]
  cases e : ixN xs.length i with
  | none => rw [e] at h; cases h
  | some j => rw [e] at h; exact r.get (by simpa using h)
theorem lift_ix {K : PySem.W.Frag} : Lift2 K rIxD (rIx K) := fun H m x y u v P Q rm rx ry p q => by
  unfold rIxD at p
  split at p
  · obtain ⟨d, h, p⟩ := p
    obtain ⟨a, vs, rfl, h1, h2⟩ := rx.tup_
    cases ry.int_
    obtain ⟨w, e, rd⟩ := h2.atI h
    exact .inr (.inl ⟨a, vs, _, w, rfl, rfl, h1, e, q _ m _ H (Keep.refl _) rm rd p⟩)
  · obtain ⟨z, c, h, p⟩ := p
    cases rx.str_
    cases ry.int_
    exact .inr (.inr ⟨_, _, c, rfl, rfl, z, h, q _ m _ H (Keep.refl _) rm (.str _) p⟩)
  · obtain ⟨d, h, p⟩ := p
    obtain ⟨a, vs, rfl, h1, h2⟩ := rx.rol_
    cases ry.int_
    obtain ⟨w, e, rd⟩ := h2.atI h
    exact .inl ⟨a, vs, _, w, rfl, rfl, h1.sq, e, q _ m _ H (Keep.refl _) rm rd p⟩
  · obtain ⟨xs, d, h, e, p⟩ := p
    cases rx.ref_
    cases ry.int_
    obtain ⟨vs, e1, r1⟩ := rm _ _ h
    obtain ⟨w, e', rd⟩ := r1.atI e
    exact .inl ⟨_, vs, _, w, rfl, rfl, .inl (.inl e1), e', q _ m _ H (Keep.refl _) rm rd p⟩
  · exact p.elim
theorem qe_ix {a b : Expr} {ta tb : TDE} {pos : Pos} (ha : PE X a (lE X.K H0 ta)) (hb : PE X b (lE X.K H0 tb)) (hs : PlainIx b) : PE X (.Subscript a b pos) (lE X.K H0 (dOp rIxD ta tb)) := peL (pe_ix ix_seq ha hb hs) fun _ _ _ => l_op lift_ix
/-! ### built-ins by name -/
def dCB (r : RnD) (t : TDA) : TDE := fun sd m P => t sd m fun xs m1 => r xs m1 P
structure CallD (X : Cx) (f : Value) (r' : RnD) : Prop where
  ex : ∃ r, CallR X f r ∧ LiftN X.K r' r
theorem CallD.or {f : Value} {r r' : RnD} (h : CallD X f r) (h' : CallD X f r') : CallD X f (fun x m P => r x m P ∨ r' x m P) := by
  obtain ⟨r1, h1, h2⟩ := h.ex
  obtain ⟨r3, h3, h4⟩ := h'.ex
  refine ⟨fun x H Q => r1 x H Q ∨ r3 x H Q, ?_, ?_⟩
  · intro pins s σ H xs us Q I r q
    rcases q with q | q
    · exact h1 pins s σ H xs us Q I r q
    · exact h3 pins s σ H xs us Q I r q
  · intro H m x u P Q a b d e
    exact d.imp (fun d => h2 H m x u P Q a b d e) fun d => h4 H m x u P Q a b d e
theorem CallD.imp {f : Value} {r r' : RnD} (h : CallD X f r) (i : ∀ x m P, r' x m P → r x m P) : CallD X f r' := by
  obtain ⟨r1, h1, h2⟩ := h.ex
  exact ⟨r1, h1, fun H m x u P Q a b d e => h2 H m x u P Q a b (i _ _ _ d) e⟩
theorem l_cb {K : PySem.W.Frag} {r' : RnD} {r : List V → Hp → VK → Prop} {t : TDA} {σ : St} {H : Hp} {Q : VK} (l : LiftN K r' r) (h : lE K H0 (dCB r' t) σ H Q) : tCB r (lA K H0 t) σ H Q := by
  obtain ⟨sd, m, P, a, p, q⟩ := h
  exact ⟨sd, m, _, a, p, fun xs m1 us H1 k1 r1 d1 p1 => l H1 m1 xs us P Q r1 d1 p1 fun d m' w H' k => q d m' w H' (k1.trans k)⟩
theorem qe_callB {e : Expr} {es : List Expr} {x : Str} {p pos : Pos} {id : String} {r : RnD} {t : TDA} (hc : CallD X (.builtin id) r) (hg : Gl X x) (hm : X.mg x = none) (hv : bootBuiltins x = some (.builtin id)) (ha : PA X (e :: es) (lA X.K H0 t)) (hn : x ≠ "__name__" := by decide) (hdb : (x == ("__debug__" : Str)) = false := by decide)
    (he : starEach (e :: es) X.env = (false, eval e X.env) :: starEach es X.env := by rfl) (hpl : (backTo pos (starEach es X.env)).any (·.1) = false := by rfl) : PE X (.Call (.Name x p) (e :: es) [] pos) (lE X.K H0 (dCB r t)) := by
  obtain ⟨r, h1, h2⟩ := hc.ex
  exact peL (pe_callB h1 hg hm hv ha hn hdb he hpl) fun _ _ _ => l_cb h2
theorem qe_callTy {e : Expr} {es : List Expr} {x : Str} {p pos : Pos} {T : String} {r : RnD} {t : TDA} (hc : CallD X (.type T) r) (hg : Gl X x) (hm : X.mg x = none) (hv : bootBuiltins x = some (.type T)) (ha : PA X (e :: es) (lA X.K H0 t)) (hn : x ≠ "__name__" := by decide) (hdb : (x == ("__debug__" : Str)) = false := by decide)
    (he : starEach (e :: es) X.env = (false, eval e X.env) :: starEach es X.env := by rfl) (hpl : (backTo pos (starEach es X.env)).any (·.1) = false := by rfl) : PE X (.Call (.Name x p) (e :: es) [] pos) (lE X.K H0 (dCB r t)) := by
  obtain ⟨r, h1, h2⟩ := hc.ex
  exact peL (pe_callTy h1 hg hm hv ha hn hdb he hpl) fun _ _ _ => l_cb h2
end
end Q4

set_option Elab.async false
set_option linter.all false
set_option maxRecDepth 100000
namespace Q4
open PySem L2
/-! ### statements -/
def dNext : TDS := fun D sd m => D.nx sd m
def dSeq (t u : TDS) : TDS := fun D sd m => ∃ J : DS → M → Prop, t { D with nx := J } sd m ∧ ∀ sd' m', J sd' m' → Fg (u D) sd' m'
def dBreak : TDS := fun D sd m => D.bk sd m
def dCont : TDS := fun D sd m => D.ct sd m
def dDrop (t : TDE) : TDS := fun D sd m => t sd m fun _ m1 => D.nx sd m1
def dRet (t : TDE) : TDS := fun D sd m => t sd m D.rt
def dRetN : TDS := fun D _ m => D.rt .non m
def dIf (c : TDT) (t u : TDS) : TDS := fun D sd m => c sd m fun b m1 => if b = true then t D sd m1 else u D sd m1
def dNever : TDS := fun _ _ _ => False
abbrev TDG := D → DS → M → (DS → M → Prop) → Prop
def lG (K : PySem.W.Frag) (H0 : Hp) (vs : List Nat) (g : TDG) : TG := fun v σ H Q => ∃ d sd m P, At K H0 sd m σ H ∧ RD K H d v ∧ g d sd m P ∧
  ∀ sd' m' σ' H', Keep K H H' → RS K H' sd' σ' → RM K H' m' → wipe σ' vs = wipe σ vs → P sd' m' → Q σ' H'
abbrev TDGs := List D → DS → M → (DS → M → Prop) → Prop
def lGs (K : PySem.W.Frag) (H0 : Hp) (vs : List Nat) (g : TDGs) : TGs := fun v σ H Q => ∃ d sd m P, At K H0 sd m σ H ∧ RDs K H d v ∧ g d sd m P ∧
  ∀ sd' m' σ' H', Keep K H H' → RS K H' sd' σ' → RM K H' m' → wipe σ' vs = wipe σ vs → P sd' m' → Q σ' H'
def dName (i : Nat) : TDG := fun d sd m P => P (sd.set i (some d)) m
def dGNil : TDGs := fun ds sd m P => ds = [] ∧ P sd m
def dGCons (t : TDG) (u : TDGs) : TDGs := fun ds sd m P => ∃ d r, ds = d :: r ∧ t d sd m fun sd' m' => u r sd' m' P
def dGTup (n : Nat) (t : TDGs) : TDG := fun d sd m P => ∃ xs, d = .tup xs ∧ xs.length = n ∧ t xs sd m P
def dAsg (t : TDE) (g : TDG) : TDS := fun D sd m => t sd m fun x m1 => g x sd m1 D.nx
theorem wipe_set {σ : St} {i : Nat} {x : Option V} : ∀ {vs : List Nat}, i ∈ vs → wipe (σ.set i x) vs = wipe σ vs
  | [], h => absurd h (by simp)
  | v :: vs, h => by
    unfold wipe
    by_cases e : i ∈ vs
    · rw [wipe_set e]
    · have : i = v := by simpa [e] using h
      subst this
      have : ∀ ws : List Nat, i ∉ ws → wipe (σ.set i x) ws = (wipe σ ws).set i x := by
        intro ws
        induction ws with
        | nil => intro _; rfl
        | cons w ws ih =>
          intro hw
          unfold wipe
          rw [ih fun z => hw (List.mem_cons_of_mem _ z), List.set_comm _ _ (fun z => hw (by rw [z]; exact List.mem_cons_self))]
      rw [this vs e, List.set_set]
theorem wipe_wipe {σ : St} : ∀ {vs : List Nat}, wipe (wipe σ vs) vs = wipe σ vs := by
  intro vs
  refine List.ext_getElem? fun j => ?_
  by_cases hj : j ∈ vs
  · have : ∀ (τ : St) (ws : List Nat), j ∈ ws → (wipe τ ws)[j]? = if j < τ.length then some none else none := by
      intro τ ws
      induction ws with
      | nil => intro h; simp at h
      | cons w ws ih =>
        intro h
        unfold wipe
        by_cases e : w = j
        · subst e
          rw [List.getElem?_set]
          simp [wipe_length]
        · rw [List.getElem?_set_ne e]
          exact ih ((List.mem_cons.mp h).resolve_left fun z => e z.symm)
    rw [this _ _ hj, this _ _ hj, wipe_length]
  · rw [wipe_out hj]
section
variable {X : Cx} {H0 : Hp}
theorem qss_nil : PSs X [] (lS X.K H0 dNext) := pssL pss_nil fun D σ H h => by
  obtain ⟨sd, m, DD, a, p, q⟩ := h
  exact q.1 sd m σ H (Keep.refl _) a.s a.m p
theorem l_seq {K : PySem.W.Frag} {t u : TDS} {D : Ends} {σ : St} {H : Hp} (h : lS K H0 (dSeq t u) D σ H) : tSeq (lS K H0 t) (lS K H0 u) D σ H := by
  obtain ⟨sd, m, DD, a, ⟨J, p, hJ⟩, q1, q2, q3, q4⟩ := h
  refine ⟨sd, m, _, a, p, fun sd' m' σ' H' k s r p' => ?_, q2, q3, q4⟩
  obtain ⟨m2, hl, p2⟩ := hJ sd' m' p'
  exact ⟨sd', m2, DD, a.toS k s (r.less hl), p2, fun a b c d k2 => q1 a b c d (k.trans k2), fun a b c d k2 => q2 a b c d (k.trans k2), fun a b c d k2 => q3 a b c d (k.trans k2), fun a b c d k2 => q4 a b c d (k.trans k2)⟩
theorem qss_cons {st : Stmt} {rest : List Stmt} {t u : TDS} (h1 : PS X st (lS X.K H0 t)) (h2 : PSs X rest (lS X.K H0 u)) : PSs X (st :: rest) (lS X.K H0 (dSeq t u)) := pssL (pss_cons h1 h2) fun _ _ _ => l_seq
theorem qss_one {st : Stmt} {t : TDS} (h1 : PS X st (lS X.K H0 t)) : PSs X [st] (lS X.K H0 t) := pss_one h1
theorem qs_pass {pos : Pos} : PS X (.Pass pos) (lS X.K H0 dNext) := psL ps_pass fun D σ H h => by
  obtain ⟨sd, m, DD, a, p, q⟩ := h
  exact q.1 sd m σ H (Keep.refl _) a.s a.m p
theorem qs_break {pos : Pos} : PS X (.Break pos) (lS X.K H0 dBreak) := psL ps_break fun D σ H h => by
  obtain ⟨sd, m, DD, a, p, q⟩ := h
  exact q.2.2.1 sd m σ H (Keep.refl _) a.s a.m p
theorem qs_continue {pos : Pos} : PS X (.Continue pos) (lS X.K H0 dCont) := psL ps_continue fun D σ H h => by
  obtain ⟨sd, m, DD, a, p, q⟩ := h
  exact q.2.2.2 sd m σ H (Keep.refl _) a.s a.m p
theorem qs_expr {e : Expr} {pos : Pos} {t : TDE} (he : PE X e (lE X.K H0 t)) (hs : swapsWith e none pos.line X.env = pure false := by rfl) : PS X (.Expr e pos) (lS X.K H0 (dDrop t)) := psL (ps_expr he hs) fun D σ H h => by
  obtain ⟨sd, m, DD, a, p, q⟩ := h
  exact ⟨sd, m, _, a, p, fun d m' v H' k r _ p' => q.1 sd m' σ H' k (a.s.mono k) r p'⟩
theorem qs_ret {e : Expr} {pos : Pos} {t : TDE} (he : PE X e (lE X.K H0 t)) : PS X (.Return (some e) pos) (lS X.K H0 (dRet t)) := psL (ps_ret he) fun D σ H h => by
  obtain ⟨sd, m, DD, a, p, q⟩ := h
  exact ⟨sd, m, _, a, p, q.2.1⟩
theorem qs_retN {pos : Pos} : PS X (.Return none pos) (lS X.K H0 dRetN) := psL ps_retN fun D σ H h => by
  obtain ⟨sd, m, DD, a, p, q⟩ := h
  exact q.2.1 .non m .non H (Keep.refl _) a.m .non p
theorem qs_if {c : Expr} {a b : List Stmt} {pos : Pos} {tc : TDT} {t u : TDS} (hc : PT X c (lT X.K H0 tc)) (ha : PSs X a (lS X.K H0 t)) (hb : PSs X b (lS X.K H0 u)) : PS X (.If c a b pos) (lS X.K H0 (dIf tc t u)) := psL (ps_if hc ha hb) fun D σ H h => by
  obtain ⟨sd, m, DD, a, p, q1, q2, q3, q4⟩ := h
  refine ⟨sd, m, _, a, p, fun b m' H' k r p' => ?_⟩
  cases b with
  | true => exact ⟨sd, m', DD, a.to k r, p', fun a b c d k2 => q1 a b c d (k.trans k2), fun a b c d k2 => q2 a b c d (k.trans k2), fun a b c d k2 => q3 a b c d (k.trans k2), fun a b c d k2 => q4 a b c d (k.trans k2)⟩
  | false => exact ⟨sd, m', DD, a.to k r, p', fun a b c d k2 => q1 a b c d (k.trans k2), fun a b c d k2 => q2 a b c d (k.trans k2), fun a b c d k2 => q3 a b c d (k.trans k2), fun a b c d k2 => q4 a b c d (k.trans k2)⟩
theorem qs_never {st : Stmt} : PS X st (lS X.K H0 dNever) := psL ps_never fun D σ H h => by
  obtain ⟨sd, m, DD, a, p, q⟩ := h
  exact p.elim
/-! ### targets -/
theorem qg_name {i : Nat} {x : Str} {pos : Pos} {vs : List Nat} (hN : X.N.Nodup) (hi : X.N[i]? = some x) (hx : Loc X.env.scope x) (hv : i ∈ vs) (hf : X.fn x = true ∨ X.env.scope.names.lookup x = some .local := by first | exact .inl rfl | exact .inr rfl | assumption) : PG X (.Name x pos) (lG X.K H0 vs (dName i)) := by
  refine ⟨fun pins s σ H v u Q I r h => (pg_name hN hi hx hf).run pins s σ H v u Q I r ?_⟩
  obtain ⟨d, sd, m, P, a, rd, p, q⟩ := h
  exact q _ m _ H (Keep.refl _) (a.s.set i rd) a.m (wipe_set hv) p
theorem qgs_nil {vs : List Nat} : PGs X [] (lGs X.K H0 vs dGNil) := by
  refine ⟨fun pins s σ H v us Q I r h => pgs_nil.run pins s σ H v us Q I r ?_⟩
  obtain ⟨d, sd, m, P, a, rd, ⟨e, p⟩, q⟩ := h
  subst e
  exact ⟨rd.nil_, q sd m σ H (Keep.refl _) a.s a.m rfl p⟩
theorem qgs_cons {e : Expr} {es : List Expr} {vs : List Nat} {t : TDG} {u : TDGs} (h1 : PG X e (lG X.K H0 vs t)) (h2 : PGs X es (lGs X.K H0 vs u)) (hs : (assignEach (e :: es) X.env).map (·.2) = assign e X.env :: (assignEach es X.env).map (·.2) := by rfl) : PGs X (e :: es) (lGs X.K H0 vs (dGCons t u)) := by
  refine ⟨fun pins s σ H v us Q I r h => (pgs_cons h1 h2 hs).run pins s σ H v us Q I r ?_⟩
  obtain ⟨d, sd, m, P, a, rd, ⟨x, xs, e, p⟩, q⟩ := h
  subst e
  cases rd with
  | cons r1 r2 =>
    refine ⟨_, _, rfl, x, sd, m, _, a, r1, p, fun sd' m' σ' H' k s r w p' => ?_⟩
    exact ⟨xs, sd', m', P, a.toS k s r, r2.mono k, p', fun sd2 m2 σ2 H2 k2 s2 r2 w2 => q sd2 m2 σ2 H2 (k.trans k2) s2 r2 (w2.trans w)⟩
theorem qg_tup {es : List Expr} {k : Nat} {pos : Pos} {vs : List Nat} {t : TDGs} {n : Nat} (hc : X.calm = true) (h : PGs X es (lGs X.K H0 vs t)) (hn : (assignEach es X.env).length = n := by rfl) (hst : (assignEach es X.env).findIdx? (·.1) = none := by rfl) : PG X (.Tuple es k pos) (lG X.K H0 vs (dGTup n t)) := by
  refine ⟨fun pins s σ H v u Q I r h' => (pg_tup hc h hn hst).run pins s σ H v u Q I r ?_⟩
  obtain ⟨d, sd, m, P, a, rd, ⟨xs, e, hl, p⟩, q⟩ := h'
  subst e
  obtain ⟨b, ws, rfl, h1, h2⟩ := rd.tup_
  exact ⟨b, ws, rfl, h1, by rw [← h2.length]; exact hl, xs, sd, m, P, a, h2, p, q⟩
theorem l_asg {K : PySem.W.Frag} {t : TDE} {g : TDG} {vs : List Nat} {D : Ends} {σ : St} {H : Hp} (h : lS K H0 (dAsg t g) D σ H) : tAsg (lE K H0 t) (lG K H0 vs g) D σ H := by
  obtain ⟨sd, m, DD, a, p, q⟩ := h
  refine ⟨sd, m, _, a, p, fun d m' v H' k r rd p' => ?_⟩
  exact ⟨d, sd, m', _, a.to k r, rd, p', fun sd2 m2 σ2 H2 k2 s2 r2 _ => q.1 sd2 m2 σ2 H2 (k.trans k2) s2 r2⟩
theorem qs_asg {tg e : Expr} {pos : Pos} {t : TDE} {g : TDG} {vs : List Nat} (he : PE X e (lE X.K H0 t)) (hg : PG X tg (lG X.K H0 vs g)) (hs : swapsWithSole [tg] e pos.line X.env = pure false := by rfl) (hw : swappedStores [tg] e X.env = pure none := by rfl)
    (h1 : (assignEach [tg] X.env).map (·.2) = [assign tg X.env] := by rfl) : PS X (.Assign [tg] e pos) (lS X.K H0 (dAsg t g)) := psL (ps_asg he hg hs hw h1) fun _ _ _ => l_asg
theorem qs_set {i : Nat} {x : Str} {e : Expr} {t : TDE} {pos pos' : Pos} (hN : X.N.Nodup) (hi : X.N[i]? = some x) (hx : Loc X.env.scope x) (he : PE X e (lE X.K H0 t)) (hs : swapsWith e (some (.Name x pos')) pos.line X.env = pure false := by rfl) (hf : X.fn x = true ∨ X.env.scope.names.lookup x = some .local := by first | exact .inl rfl | exact .inr rfl | assumption) :
    PS X (.Assign [.Name x pos'] e pos) (lS X.K H0 (dAsg t (dName i))) := psL (ps_set hN hi hx he hs hf) fun D σ H h => by
  obtain ⟨sd, m, DD, a, p, q⟩ := h
  exact ⟨sd, m, _, a, p, fun d m' v H' k r rd p' => q.1 _ m' _ H' k ((a.s.mono k).set i rd) r p'⟩
/-- o[i] = e of a list -/
def dGSub (to ti : TDE) : TDG := fun v sd m P => to sd m fun o m1 => ti sd m1 fun i m2 => match o, i with
  | .ref a, .int k => ∃ xs j, m2 a = some (.lst xs) ∧ ixN xs.length k = some j ∧ P sd (put m2 a (.lst (xs.set j v)))
  | _, _ => False
theorem qg_sub {o i : Expr} {to ti : TDE} {pos : Pos} {vs : List Nat} (ho : PE X o (lE X.K H0 to)) (hi : PE X i (lE X.K H0 ti)) (ha : ∀ v, assign (.Subscript o i pos) X.env v = (do
      let ov ← holding [v] (eval o X.env)
      let iv ← holding [v, ov] (eval i X.env)
      standAt pos
      holding [v, ov, iv] (setItem ov iv v)
      release [v, ov, iv] []) := by intro _; rfl) : PG X (.Subscript o i pos) (lG X.K H0 vs (dGSub to ti)) := by
  refine ⟨fun pins s σ H v u Q I r h => (pg_sub ho hi set_list ha).run pins s σ H v u Q I r ?_⟩
  obtain ⟨d, sd, m, P, a, rd, p, q⟩ := h
  refine ⟨sd, m, _, a, p, fun x m1 w H1 k1 r1 d1 p1 => ?_⟩
  refine ⟨sd, m1, _, a.to k1 r1, p1, fun y m2 w2 H2 k2 r2 d2 p2 => ?_⟩
  split at p2
  · obtain ⟨xs, j, e, hj, p2⟩ := p2
    cases d1.ref_
    cases d2.int_
    obtain ⟨ws, e1, rr⟩ := r2 _ _ e
    exact ⟨_, ws, _, j, rfl, rfl, e1, by rw [← rr.length]; exact hj, q sd _ σ _ ((k1.trans k2).trans (Keep.lst e1)) (a.s.mono ((k1.trans k2).trans (Keep.lst e1))) (r2.setPut e1 (RDs.set (rd.mono (k1.trans k2)) j rr)) rfl p2⟩
  · exact p2.elim
/-- name op= e: the operator's own rule (ints) -/
def rInp (f : Int → Int → Int) : R2D := fun x y m P => match x, y with | .int i, .int j => P (.int (f i j)) m | _, _ => False
def dAug (i : Nat) (t : TDE) (r : R2D) : TDS := fun D sd m => ∃ x, sd[i]? = some (some x) ∧ t sd m fun y m1 => r x y m1 fun z m2 => D.nx (sd.set i (some z)) m2
theorem qs_augI {f : Int → Int → Int} {i : Nat} {x : Str} {e : Expr} {t : TDE} {op : Operator} {pos pos' : Pos} (hN : X.N.Nodup) (hi : X.N[i]? = some x) (hx : Loc X.env.scope x) (he : PE X e (lE X.K H0 t)) (ho : PIp X op (ipI f)) (hf : X.fn x = true ∨ X.env.scope.names.lookup x = some .local := by first | exact .inl rfl | exact .inr rfl | assumption) :
    PS X (.AugAssign (.Name x pos') op e pos) (lS X.K H0 (dAug i t (rInp f))) := psL (ps_aug hN hi hx he ho hf) fun D σ H h => by
  obtain ⟨sd, m, DD, a, ⟨d, e1, p⟩, q⟩ := h
  obtain ⟨v, e2, rd⟩ := a.s.get i d e1
  refine ⟨v, e2, sd, m, _, a, p, fun y m1 w H1 k1 r1 d1 p1 => ?_⟩
  unfold rInp at p1
  split at p1
  · cases rd.int_
    cases d1.int_
    exact ⟨_, _, rfl, rfl, q.1 _ m1 _ H1 k1 ((a.s.mono k1).set i (.int _)) r1 p1⟩
  · exact p1.elim
/-! ### while -/
def dWhile (c : TDT) (tb : TDS) : TDS := fun D sd m => ∃ W : Nat → DS → M → Prop, (∃ n, W n sd m) ∧ ∀ n sd m, W n sd m →
  c sd m fun b m1 => if b = true then tb { D with nx := Fg fun sd' m' => ∃ n', n' < n ∧ W n' sd' m', ct := Fg fun sd' m' => ∃ n', n' < n ∧ W n' sd' m', bk := D.nx } sd m1 else D.nx sd m1
theorem qs_while {c : Expr} {body : List Stmt} {tc : TDT} {tb : TDS} {pos : Pos} (hp : PassesOwn (model X.prog X.w) X.A X.env X.xe) (hc : PT X c (lT X.K H0 tc)) (hb : PSs X body (lS X.K H0 tb)) : PS X (.While c body [] pos) (lS X.K H0 (dWhile tc tb)) := psL (ps_while hp hc hb) fun D σ H h => by
  obtain ⟨sd, m, DD, a, ⟨W, ⟨n0, w0⟩, turn⟩, q1, q2, q3, q4⟩ := h
  refine ⟨fun n σ' H' => ∃ sd' m', Keep X.K H H' ∧ RS X.K H' sd' σ' ∧ RM X.K H' m' ∧ W n sd' m', ⟨n0, sd, m, Keep.refl _, a.s, a.m, w0⟩, ?_⟩
  rintro n σ1 H1 ⟨sd1, m1, k1, s1, r1, w1⟩
  refine ⟨sd1, m1, _, a.toS k1 s1 r1, turn n sd1 m1 w1, fun b m2 H2 k2 r2 p2 => ?_⟩
  cases b with
  | true =>
    refine ⟨fun σ' H' => ∃ n', n' < n ∧ ∃ sd' m', Keep X.K H H' ∧ RS X.K H' sd' σ' ∧ RM X.K H' m' ∧ W n' sd' m', fun σ' H' z => z, ?_⟩
    refine ⟨sd1, m2, _, a.toS (k1.trans k2) (s1.mono k2) r2, p2, ?_, ?_, ?_, ?_⟩
    · rintro sd3 m3 σ3 H3 k3 s3 r3 ⟨m4, hl, n', hn, w⟩
      exact ⟨n', hn, sd3, m4, (k1.trans k2).trans k3, s3, r3.less hl, w⟩
    · exact fun a b c d k3 => q2 a b c d ((k1.trans k2).trans k3)
    · exact fun a b c d k3 => q1 a b c d ((k1.trans k2).trans k3)
    · rintro sd3 m3 σ3 H3 k3 s3 r3 ⟨m4, hl, n', hn, w⟩
      exact ⟨n', hn, sd3, m4, (k1.trans k2).trans k3, s3, r3.less hl, w⟩
  | false => exact q1 sd1 m2 σ1 H2 (k1.trans k2) (s1.mono k2) r2 p2
/-! ### what is walked -/
abbrev DIt := Nat → M → Option D → Prop
def LiftIt (K : PySem.W.Frag) (H1 : Hp) (J : DIt) (J' : It) : Prop := ∀ H, Keep K H1 H → ∀ i m, RM K H m → ∀ o, J i m o → match o with
  | none => J'.stop i H
  | some x => J'.go i H ∧ ∀ v H', J'.yld i H v H' → Keep K H H' ∧ RM K H' m ∧ RD K H' x v
abbrev TDI := DS → M → (DIt → M → Prop) → Prop
def lI (K : PySem.W.Frag) (H0 : Hp) (wi : TDI) : TI := fun σ H R => ∃ sd m P, At K H0 sd m σ H ∧ wi sd m P ∧ ∀ J m' J' H', Keep K H H' → RM K H' m' → LiftIt K H' J J' → P J m' → R J' H'
theorem piL {tg e : Expr} {t t' : TI} (h : PI X tg e t) (i : ∀ σ H Q, t' σ H Q → t σ H Q) : PI X tg e t' := ⟨fun pins s σ H Q I ht => h.run pins s σ H Q I (i _ _ _ ht)⟩
def jTup (xs : List D) : DIt := fun i _ o => o = xs[i]?
def jLst (a : Addr) : DIt := fun i m o => ∃ xs, m a = some (.lst xs) ∧ o = xs[i]?
def jRng (lo : Int) (n : Nat) : DIt := fun i _ o => o = if i < n then some (.int (lo + i)) else none
/-- a tuple -/
def iT (t : TDE) : TDI := fun sd m P => t sd m fun x m1 => match x with | .tup xs => P (jTup xs) m1 | _ => False
/-- a list -/
def iL (t : TDE) : TDI := fun sd m P => t sd m fun x m1 => match x with | .rol xs => P (jTup xs) m1 | .ref a => (∃ xs, m1 a = some (.lst xs)) ∧ P (jLst a) m1 | _ => False
theorem lift_tup {K : PySem.W.Frag} {H : Hp} {b : Addr} {xs : List D} {vs : List V} (h1 : SqT K H b vs) (h2 : RDs K H xs vs) : LiftIt K H (jTup xs) (Itt K b) := fun H2 k2 i m2 r2 o e => by
  have e : o = xs[i]? := e
  cases e2 : xs[i]? with
  | none =>
    rw [e2] at e
    subst e
    exact ⟨vs, k2.t _ _ h1, by rw [← h2.length]; exact List.getElem?_eq_none_iff.mp e2⟩
  | some x =>
    rw [e2] at e
    subst e
    obtain ⟨u, e3, r3⟩ := h2.get e2
    refine ⟨⟨vs, u, k2.t _ _ h1, e3⟩, fun v H3 y => ?_⟩
    obtain ⟨e4, y⟩ := y
    have e5 := y vs (k2.t _ _ h1)
    rw [e3] at e5
    cases e5
    subst e4
    exact ⟨Keep.refl _, r2, r3.mono k2⟩
theorem lift_rol {K : PySem.W.Frag} {H : Hp} {b : Addr} {xs : List D} {vs : List V} (h1 : FrzL K H b vs) (h2 : RDs K H xs vs) : LiftIt K H (jTup xs) (Itl K b) := fun H2 k2 i m2 r2 o e => by
  have e : o = xs[i]? := e
  have g1 := (k2.f _ _ h1).sq
  cases e2 : xs[i]? with
  | none =>
    rw [e2] at e
    subst e
    exact ⟨vs, g1, by rw [← h2.length]; exact List.getElem?_eq_none_iff.mp e2⟩
  | some x =>
    rw [e2] at e
    subst e
    obtain ⟨u, e3, r3⟩ := h2.get e2
    refine ⟨⟨vs, u, g1, e3⟩, fun v H3 y => ?_⟩
    obtain ⟨e4, y⟩ := y
    have e5 := y vs g1
    rw [e3] at e5
    cases e5
    subst e4
    exact ⟨Keep.refl _, r2, r3.mono k2⟩
theorem lift_lst {K : PySem.W.Frag} {H : Hp} {b : Addr} : LiftIt K H (jLst b) (Itl K b) := fun H2 k2 i m2 r2 o e => by
  obtain ⟨ys, hy, e⟩ := e
  obtain ⟨ws, e1, g2⟩ := r2 _ _ hy
  have g1 : SqL K H2 b ws := .inl (.inl e1)
  cases e2 : ys[i]? with
  | none =>
    rw [e2] at e
    subst e
    exact ⟨ws, g1, by rw [← g2.length]; exact List.getElem?_eq_none_iff.mp e2⟩
  | some x =>
    rw [e2] at e
    subst e
    obtain ⟨u, e3, r3⟩ := g2.get e2
    refine ⟨⟨ws, u, g1, e3⟩, fun v H3 y => ?_⟩
    obtain ⟨e4, y⟩ := y
    have e5 := y ws g1
    rw [e3] at e5
    cases e5
    subst e4
    exact ⟨Keep.refl _, r2, r3⟩
theorem qi_tup {tg l : Expr} {t : TDE} (hl : PE X l (lE X.K H0 t)) : PI X tg l (lI X.K H0 (iT t)) := piL (pi_tup hl) fun σ H Q h => by
  obtain ⟨sd, m, P, a, p, q⟩ := h
  refine ⟨sd, m, _, a, p, fun d m' v H' k r rd p' => ?_⟩
  cases d with
  | tup xs =>
    obtain ⟨b, vs, rfl, h1, h2⟩ := rd.tup_
    refine ⟨b, rfl, ⟨vs, h1⟩, q _ m' _ H' k r (fun H2 k2 i m2 r2 o e => ?_) p'⟩
    have e : o = xs[i]? := e
    cases e2 : xs[i]? with
    | none =>
      rw [e2] at e
      subst e
      exact ⟨vs, k2.t _ _ h1, by rw [← h2.length]; exact List.getElem?_eq_none_iff.mp e2⟩
    | some x =>
      rw [e2] at e
      subst e
      obtain ⟨u, e3, r3⟩ := h2.get e2
      refine ⟨⟨vs, u, k2.t _ _ h1, e3⟩, fun v H3 y => ?_⟩
      obtain ⟨e4, y⟩ := y
      have e5 := y vs (k2.t _ _ h1)
      rw [e3] at e5
      cases e5
      subst e4
      exact ⟨Keep.refl _, r2, r3.mono k2⟩
  | _ => exact p'.elim
theorem qi_list {tg l : Expr} {t : TDE} (hl : PE X l (lE X.K H0 t)) : PI X tg l (lI X.K H0 (iL t)) := piL (pi_list hl) fun σ H Q h => by
  obtain ⟨sd, m, P, a, p, q⟩ := h
  refine ⟨sd, m, _, a, p, fun d m' v H' k r rd p' => ?_⟩
  cases d with
  | ref b =>
    cases rd.ref_
    obtain ⟨⟨xs, hx⟩, p'⟩ := p'
    have sq : ∀ {H2 : Hp} {m2 : M} {ys : List D}, RM X.K H2 m2 → m2 b = some (.lst ys) → ∃ vs, SqL X.K H2 b vs ∧ RDs X.K H2 ys vs := fun r2 h2 => by
      obtain ⟨vs, e1, r1⟩ := r2 _ _ h2; exact ⟨vs, .inl (.inl e1), r1⟩
    obtain ⟨vs, h1, h2⟩ := sq r hx
    refine ⟨b, rfl, ⟨vs, h1⟩, q _ m' _ H' k r (fun H2 k2 i m2 r2 o e => ?_) p'⟩
    obtain ⟨ys, hy, e⟩ := e
    obtain ⟨ws, g1, g2⟩ := sq r2 hy
    cases e2 : ys[i]? with
    | none =>
      rw [e2] at e
      subst e
      exact ⟨ws, g1, by rw [← g2.length]; exact List.getElem?_eq_none_iff.mp e2⟩
    | some x =>
      rw [e2] at e
      subst e
      obtain ⟨u, e3, r3⟩ := g2.get e2
      refine ⟨⟨ws, u, g1, e3⟩, fun v H3 y => ?_⟩
      obtain ⟨e4, y⟩ := y
      have e5 := y ws g1
      rw [e3] at e5
      cases e5
      subst e4
      exact ⟨Keep.refl _, r2, r3⟩
  | rol xs =>
    obtain ⟨b, vs, rfl, h1, h2⟩ := rd.rol_
    refine ⟨b, rfl, ⟨vs, h1.sq⟩, q _ m' _ H' k r (fun H2 k2 i m2 r2 o e => ?_) p'⟩
    have e : o = xs[i]? := e
    have g1 := (k2.f _ _ h1).sq
    cases e2 : xs[i]? with
    | none =>
      rw [e2] at e
      subst e
      exact ⟨vs, g1, by rw [← h2.length]; exact List.getElem?_eq_none_iff.mp e2⟩
    | some x =>
      rw [e2] at e
      subst e
      obtain ⟨u, e3, r3⟩ := h2.get e2
      refine ⟨⟨vs, u, g1, e3⟩, fun v H3 y => ?_⟩
      obtain ⟨e4, y⟩ := y
      have e5 := y vs g1
      rw [e3] at e5
      cases e5
      subst e4
      exact ⟨Keep.refl _, r2, r3.mono k2⟩
  | _ => exact p'.elim
theorem lift_rng {K : PySem.W.Frag} {H : Hp} {lo : Int} {n : Nat} : LiftIt K H (jRng lo n) (Itr lo n) := fun H2 k2 i m2 r2 o e => by
  have e : o = if i < n then some (.int (lo + i)) else none := e
  by_cases h : i < n
  · rw [if_pos h] at e
    subst e
    refine ⟨h, fun v H3 y => ?_⟩
    obtain ⟨e4, y⟩ := y
    subst e4 y
    exact ⟨Keep.refl _, r2, .int _⟩
  · rw [if_neg h] at e
    subst e
    exact Nat.le_of_not_lt h
def iR1 (t : TDA) : TDI := fun sd m P => t sd m fun xs m1 => match xs with | [.int j] => -(2 ^ 62) ≤ j ∧ j < 2 ^ 62 ∧ P (jRng 0 j.toNat) m1 | _ => False
def iR2 (t : TDA) : TDI := fun sd m P => t sd m fun xs m1 => match xs with | [.int i, .int j] => (-(2 ^ 62) ≤ i ∧ i < 2 ^ 62 ∧ -(2 ^ 62) ≤ j ∧ j < 2 ^ 62) ∧ P (jRng i (j - i).toNat) m1 | _ => False
theorem qi_range1 {tg a : Expr} {t : TDA} {p pos : Pos} (hg : Gl X "range") (hm : X.mg "range" = none) (ha : PA X [a] (lA X.K H0 t)) (hs : starEach [a] X.env = [(false, eval a X.env)] := by rfl) : PI X tg (.Call (.Name "range" p) [a] [] pos) (lI X.K H0 (iR1 t)) := piL (pi_range1 hg hm ha hs) fun σ H Q h => by
  obtain ⟨sd, m, P, a, p, q⟩ := h
  refine ⟨sd, m, _, a, p, fun d m' v H' k r rd p' => ?_⟩
  split at p'
  · obtain ⟨u, rfl, r1⟩ := rd.one_
    cases r1.int_
    exact ⟨_, rfl, p'.1, p'.2.1, q _ m' _ H' k r lift_rng p'.2.2⟩
  · exact p'.elim
theorem qi_range2 {tg a b : Expr} {t : TDA} {p pos : Pos} (hg : Gl X "range") (hm : X.mg "range" = none) (ha : PA X [a, b] (lA X.K H0 t)) (hs : starEach [a, b] X.env = [(false, eval a X.env), (false, eval b X.env)] := by rfl) (hs2 : starEach [b] X.env = [(false, eval b X.env)] := by rfl) :
    PI X tg (.Call (.Name "range" p) [a, b] [] pos) (lI X.K H0 (iR2 t)) := piL (pi_range2 hg hm ha hs hs2) fun σ H Q h => by
  obtain ⟨sd, m, P, a, p, q⟩ := h
  refine ⟨sd, m, _, a, p, fun d m' v H' k r rd p' => ?_⟩
  split at p'
  · obtain ⟨u, w, rfl, r1, r2⟩ := rd.two_
    cases r1.int_
    cases r2.int_
    exact ⟨_, _, rfl, p'.1, q _ m' _ H' k r lift_rng p'.2⟩
  · exact p'.elim
/-! ### for -/
def dFor (wi : TDI) (g : TDG) (tb : TDS) : TDS := fun D sd m => wi sd m fun J m1 => ∃ (N : Nat) (W : Nat → DS → M → Prop), W 0 sd m1 ∧ ∀ i sd m, W i sd m → i ≤ N ∧ ∃ o, J i m o ∧ match o with
  | none => D.nx sd m
  | some x => g x sd m fun sd2 m2 => tb { D with nx := Fg (W (i + 1)), ct := Fg (W (i + 1)), bk := D.nx } sd2 m2
/-- a loop's reading over any lifted iterable -/
theorem for_core {K : PySem.W.Frag} {g : TDG} {tb : TDS} {vs : List Nat} {J : DIt} {J' : It} {H H1 : Hp} {sd : DS} {m1 : M} {σ : St} {DD : DEnds} {D : Ends} (k0 : Keep K H0 H) (k1 : Keep K H H1) (s1 : RS K H1 sd σ) (r1 : RM K H1 m1) (l1 : LiftIt K H1 J J')
    (q1 : ∀ sd' m' σ' H', Keep K H H' → RS K H' sd' σ' → RM K H' m' → DD.nx sd' m' → D.nx σ' H') (q2 : ∀ d m' v H', Keep K H H' → RM K H' m' → RD K H' d v → DD.rt d m' → D.rt v H')
    (p : ∃ (N : Nat) (W : Nat → DS → M → Prop), W 0 sd m1 ∧ ∀ i sd m, W i sd m → i ≤ N ∧ ∃ o, J i m o ∧ match o with
      | none => DD.nx sd m
      | some x => g x sd m fun sd2 m2 => tb { DD with nx := Fg (W (i + 1)), ct := Fg (W (i + 1)), bk := DD.nx } sd2 m2) :
    ∃ W : Nat → Nat → St → Hp → Prop, (∃ m, W 0 m σ H1) ∧ ∀ i m σ H, W i m σ H →
      (J'.stop i H ∧ D.nx σ H) ∨ (J'.go i H ∧ ∃ N : St → Hp → Prop, (∀ σ' H', N σ' H' → ∃ m', m' < m ∧ W (i + 1) m' σ' H') ∧ ∀ x H', J'.yld i H x H' → lG K H0 vs g x σ H' fun σ2 H2 => lS K H0 tb { D with nx := N, ct := N, bk := D.nx } σ2 H2) := by
  obtain ⟨N, W, w0, turn⟩ := p
  refine ⟨fun i n σ' H' => n = N - i ∧ ∃ sd' m', Keep K H1 H' ∧ RS K H' sd' σ' ∧ RM K H' m' ∧ W i sd' m', ⟨N, rfl, sd, m1, Keep.refl _, s1, r1, w0⟩, ?_⟩
  rintro i n σ2 H2 ⟨rfl, sd2, m2, k2, s2, r2, w2⟩
  obtain ⟨hi, o, jo, rest⟩ := turn i sd2 m2 w2
  have L := l1 H2 k2 i m2 r2 o jo
  cases o with
  | none => exact .inl ⟨L, q1 sd2 m2 σ2 H2 (k1.trans k2) s2 r2 rest⟩
  | some x =>
    refine .inr ⟨L.1, fun σ3 H3 => ∃ sd' m', Keep K H1 H3 ∧ RS K H3 sd' σ3 ∧ RM K H3 m' ∧ W (i + 1) sd' m', ?_, fun v H3 y => ?_⟩
    · rintro σ3 H3 ⟨sd3, m3, k3, s3, r3, w3⟩
      have := (turn (i + 1) sd3 m3 w3).1
      exact ⟨N - (i + 1), by omega, rfl, sd3, m3, k3, s3, r3, w3⟩
    · obtain ⟨k3, r3, d3⟩ := L.2 v H3 y
      refine ⟨x, sd2, m2, _, ⟨s2.mono k3, r3, k0.trans (k1.trans (k2.trans k3))⟩, d3, rest, fun sd4 m4 σ4 H4 k4 s4 r4 _ p4 => ?_⟩
      have K4 : Keep K H1 H4 := k2.trans (k3.trans k4)
      refine ⟨sd4, m4, _, ⟨s4, r4, k0.trans (k1.trans K4)⟩, p4, ?_, ?_, ?_, ?_⟩
      · exact fun sd5 m5 σ5 H5 k5 s5 r5 ⟨m6, hl, w5⟩ => ⟨sd5, m6, K4.trans k5, s5, r5.less hl, w5⟩
      · exact fun a b c d k5 => q2 a b c d ((k1.trans K4).trans k5)
      · exact fun a b c d k5 => q1 a b c d ((k1.trans K4).trans k5)
      · exact fun sd5 m5 σ5 H5 k5 s5 r5 ⟨m6, hl, w5⟩ => ⟨sd5, m6, K4.trans k5, s5, r5.less hl, w5⟩
theorem qs_for {tg iter : Expr} {body : List Stmt} {wi : TDI} {g : TDG} {tb : TDS} {pos : Pos} {vs : List Nat} (hp : PassesOwn (model X.prog X.w) X.A X.env X.xe) (hc : X.calm = true) (hi : PI X tg iter (lI X.K H0 wi)) (hg : PG X tg (lG X.K H0 vs g)) (hb : PSs X body (lS X.K H0 tb))
    (hs : ∀ x, foldedSetIterable iter X.env x = pure x := by intro _; rfl) : PS X (.For tg iter body [] pos) (lS X.K H0 (dFor wi g tb)) := psL (ps_for hp hc hi hg hb hs) fun D σ H h => by
  obtain ⟨sd, m, DD, a, p, q1, q2, q3, q4⟩ := h
  exact ⟨sd, m, _, a, p, fun J m1 J' H1 k1 r1 l1 p1 => for_core a.k k1 (a.s.mono k1) r1 l1 q1 q2 p1⟩
end
end Q4

set_option Elab.async false
set_option linter.all false
set_option maxRecDepth 100000
namespace Q4
open PySem L2
section
variable {X : Cx} {H0 : Hp}
/-- a list: one that may change, or a locked one -/
def isL (m : M) (x : D) (ys : List D) : Prop := match x with | .rol xs => xs = ys | .ref a => m a = some (.lst ys) | _ => False
theorem RM.list {K : PySem.W.Frag} {H : Hp} {m : M} {x : D} {u : V} (r : RM K H m) (rd : RD K H x u) {ys : List D} (h : isL m x ys) : ∃ a vs, u = .ref a ∧ SqL K H a vs ∧ RDs K H ys vs := by
  unfold isL at h
  split at h
  · subst h
    obtain ⟨a, vs, rfl, h1, h2⟩ := rd.rol_
    exact ⟨a, vs, rfl, h1.sq, h2⟩
  · cases rd.ref_
    obtain ⟨vs, e1, r1⟩ := r _ _ h
    exact ⟨_, vs, rfl, .inl (.inl e1), r1⟩
  · exact h.elim
theorem rds_ints {K : PySem.W.Frag} {H : Hp} : ∀ {ns : List Int} {vs : List V}, RDs K H (ns.map D.int) vs → vs = ns.map V.int
  | [], _, .nil => rfl
  | n :: ns, _, .cons h r => by cases h.int_; rw [rds_ints r]; rfl
theorem rds_bls {K : PySem.W.Frag} {H : Hp} : ∀ {ns : List Bool} {vs : List V}, RDs K H (ns.map D.bl) vs → vs = ns.map V.bl
  | [], _, .nil => rfl
  | n :: ns, _, .cons h r => by cases h.bl_; rw [rds_bls r]; rfl
theorem rds_strs {K : PySem.W.Frag} {H : Hp} : ∀ {ns : List Str} {vs : List V}, RDs K H (ns.map D.str) vs → vs = ns.map V.str
  | [], _, .nil => rfl
  | n :: ns, _, .cons h r => by cases h.str_; rw [rds_strs r]; rfl
/-! ### len -/
def rLen : RnD := fun xs m P => match xs with
  | [.tup ys] => P (.int ys.length) m
  | [.str z] => z.length ≤ sizeLine ∧ P (.int z.length) m
  | [x] => ∃ ys, isL m x ys ∧ P (.int ys.length) m
  | _ => False
theorem cd_len : CallD X (.builtin "len") rLen := by
  have h1 : CallD X (.builtin "len") (fun xs m P => (∃ ys, xs = [.tup ys] ∧ P (.int ys.length) m) ∨ ∃ x ys, xs = [x] ∧ isL m x ys ∧ P (.int ys.length) m) := by
    refine ⟨_, call_len_seq, fun H m xs us P Q rm rx p q => ?_⟩
    rcases p with ⟨ys, rfl, p⟩ | ⟨a, ys, rfl, h, p⟩
    · obtain ⟨u, rfl, r⟩ := rx.one_
      obtain ⟨a, vs, rfl, h1, h2⟩ := r.tup_
      exact ⟨a, vs, rfl, .inr h1, q _ m _ H (Keep.refl _) rm (by rw [← h2.length]; exact .int _) p⟩
    · obtain ⟨u, rfl, r⟩ := rx.one_
      obtain ⟨a, vs, rfl, h1, h2⟩ := rm.list r h
      exact ⟨a, vs, rfl, .inl h1, q _ m _ H (Keep.refl _) rm (by rw [← h2.length]; exact .int _) p⟩
  have h2 : CallD X (.builtin "len") (fun xs m P => ∃ z, xs = [.str z] ∧ z.length ≤ sizeLine ∧ P (.int z.length) m) := by
    refine ⟨_, call_len_str, fun H m xs us P Q rm rx p q => ?_⟩
    obtain ⟨z, rfl, h, p⟩ := p
    obtain ⟨u, rfl, r⟩ := rx.one_
    cases r.str_
    exact ⟨z, rfl, h, q _ m _ H (Keep.refl _) rm (.int _) p⟩
  refine (h1.or h2).imp fun xs m P p => ?_
  unfold rLen at p
  split at p
  · exact .inl (.inl ⟨_, rfl, p⟩)
  · exact .inr ⟨_, rfl, p⟩
  · obtain ⟨ys, h, p⟩ := p
    exact .inl (.inr ⟨_, ys, rfl, h, p⟩)
  · exact p.elim
/-! ### abs, int, bool, str -/
def rAbs : RnD := fun xs m P => match xs with | [.int i] => P (.int (if i < 0 then -i else i)) m | _ => False
theorem cd_abs : CallD X (.builtin "abs") rAbs := by
  refine ⟨_, call_abs, fun H m xs us P Q rm rx p q => ?_⟩
  unfold rAbs at p
  split at p
  · obtain ⟨u, rfl, r⟩ := rx.one_
    cases r.int_
    exact ⟨_, rfl, q _ m _ H (Keep.refl _) rm (.int _) p⟩
  · exact p.elim
def rInt : RnD := fun xs m P => match xs with | [.int i] => P (.int i) m | [.bl k] => P (.int (if k then 1 else 0)) m | [.str a] => ∃ n, PySem.intText? a = some n ∧ a.length ≤ 640 ∧ P (.int n) m | _ => False
theorem cd_int : CallD X (.type "int") rInt := by
  have h1 : CallD X (.type "int") (fun xs m P => (∃ i, xs = [.int i] ∧ P (.int i) m) ∨ ∃ k : Bool, xs = [.bl k] ∧ P (.int (if k then 1 else 0)) m) := by
    refine ⟨_, call_int1, fun H m xs us P Q rm rx p q => ?_⟩
    rcases p with ⟨ys, rfl, p⟩ | ⟨a, rfl, p⟩
    · obtain ⟨u, rfl, r⟩ := rx.one_
      cases r.int_
      exact .inl ⟨_, rfl, q _ m _ H (Keep.refl _) rm (.int _) p⟩
    · obtain ⟨u, rfl, r⟩ := rx.one_
      cases r.bl_
      exact .inr ⟨_, rfl, q _ m _ H (Keep.refl _) rm (.int _) p⟩
  have h2 : CallD X (.type "int") (fun xs m P => ∃ z n, xs = [.str z] ∧ PySem.intText? z = some n ∧ z.length ≤ 640 ∧ P (.int n) m) := by
    refine ⟨_, call_int_str, fun H m xs us P Q rm rx p q => ?_⟩
    obtain ⟨z, n, rfl, h, h2, p⟩ := p
    obtain ⟨u, rfl, r⟩ := rx.one_
    cases r.str_
    exact ⟨z, n, rfl, h, h2, q _ m _ H (Keep.refl _) rm (.int _) p⟩
  refine (h1.or h2).imp fun xs m P p => ?_
  unfold rInt at p
  split at p
  · exact .inl (.inl ⟨_, rfl, p⟩)
  · exact .inl (.inr ⟨_, rfl, p⟩)
  · obtain ⟨n, p⟩ := p
    exact .inr ⟨_, n, rfl, p⟩
  · exact p.elim
def rStr : RnD := fun xs m P => match xs with | [.int i] => i.natAbs.log2 < 1920 ∧ P (.str (toString i)) m | _ => False
theorem cd_str : CallD X (.type "str") rStr := by
  refine ⟨_, call_str_int, fun H m xs us P Q rm rx p q => ?_⟩
  unfold rStr at p
  split at p
  · obtain ⟨u, rfl, r⟩ := rx.one_
    cases r.int_
    exact ⟨_, rfl, p.1, q _ m _ H (Keep.refl _) rm (.str _) p.2⟩
  · exact p.elim
/-! ### tuple, list -/
def rTuple : RnD := fun xs m P => match xs with | [.tup ys] => P (.tup ys) m | [x] => ∃ ys, isL m x ys ∧ P (.tup ys) m | _ => False
theorem cd_tuple : CallD X (.type "tuple") rTuple := by
  refine ⟨_, call_tuple_of, fun H m xs us P Q rm rx p q => ?_⟩
  unfold rTuple at p
  split at p
  · obtain ⟨u, rfl, r⟩ := rx.one_
    obtain ⟨a, vs, rfl, h1, h2⟩ := r.tup_
    exact ⟨a, vs, rfl, .inr ⟨h1, q _ m _ H (Keep.refl _) rm (.tup h1 h2) p⟩⟩
  · obtain ⟨u, rfl, r⟩ := rx.one_
    obtain ⟨ys, h, p⟩ := p
    obtain ⟨_, vs, rfl, h1, h2⟩ := rm.list r h
    exact ⟨_, vs, rfl, .inl ⟨h1, fun l hl => q _ m _ _ (Keep.new hl) (rm.new hl) (.tup (.inl (.inl upd_same)) (h2.mono (Keep.new hl))) p⟩⟩
  · exact p.elim
def rList : RnD := fun xs m P => match xs with | [.tup ys] => ∀ l, m l = none → P (.ref l) (put m l (.lst ys)) | [x] => ∃ ys, isL m x ys ∧ ∀ l, m l = none → P (.ref l) (put m l (.lst ys)) | _ => False
theorem cd_list : CallD X (.type "list") rList := by
  refine ⟨_, call_list_of, fun H m xs us P Q rm rx p q => ?_⟩
  unfold rList at p
  split at p
  · obtain ⟨u, rfl, r⟩ := rx.one_
    obtain ⟨a, vs, rfl, h1, h2⟩ := r.tup_
    exact ⟨a, vs, rfl, .inr h1, fun l hl => q _ _ _ _ (Keep.new hl) (rm.newPut hl h2) (.ref l) (p l (rm.free hl))⟩
  · obtain ⟨u, rfl, r⟩ := rx.one_
    obtain ⟨ys, h, p⟩ := p
    obtain ⟨_, vs, rfl, h1, h2⟩ := rm.list r h
    exact ⟨_, vs, rfl, .inl h1, fun l hl => q _ _ _ _ (Keep.new hl) (rm.newPut hl h2) (.ref l) (p l (rm.free hl))⟩
  · exact p.elim
/-! ### sum, all, any over lists -/
def rSumD : RnD := fun xs m P => match xs with | [x] => ∃ ns : List Int, isL m x (ns.map D.int) ∧ P (.int ns.sum) m | _ => False
theorem cd_sum (hc : X.calm = true) : CallD X (.builtin "sum") rSumD := by
  refine ⟨_, cr_sum hc, fun H m xs us P Q rm rx p q => ?_⟩
  unfold rSumD at p
  split at p
  · obtain ⟨u, rfl, r⟩ := rx.one_
    obtain ⟨ys, h, p⟩ := p
    obtain ⟨_, vs, rfl, h1, h2⟩ := rm.list r h
    cases rds_ints h2
    exact ⟨_, _, rfl, h1, q _ m _ H (Keep.refl _) rm (.int _) p⟩
  · exact p.elim
def rAllD : RnD := fun xs m P => match xs with | [x] => ∃ ns : List Bool, isL m x (ns.map D.bl) ∧ P (.bl (ns.all id)) m | _ => False
theorem cd_all (hc : X.calm = true) : CallD X (.builtin "all") rAllD := by
  refine ⟨_, cr_all hc, fun H m xs us P Q rm rx p q => ?_⟩
  unfold rAllD at p
  split at p
  · obtain ⟨u, rfl, r⟩ := rx.one_
    obtain ⟨ys, h, p⟩ := p
    obtain ⟨_, vs, rfl, h1, h2⟩ := rm.list r h
    cases rds_bls h2
    exact ⟨_, _, rfl, h1, q _ m _ H (Keep.refl _) rm (.bl _) p⟩
  · exact p.elim
def rAnyD : RnD := fun xs m P => match xs with | [x] => ∃ ns : List Bool, isL m x (ns.map D.bl) ∧ P (.bl (ns.any id)) m | _ => False
theorem cd_any (hc : X.calm = true) : CallD X (.builtin "any") rAnyD := by
  refine ⟨_, cr_any hc, fun H m xs us P Q rm rx p q => ?_⟩
  unfold rAnyD at p
  split at p
  · obtain ⟨u, rfl, r⟩ := rx.one_
    obtain ⟨ys, h, p⟩ := p
    obtain ⟨_, vs, rfl, h1, h2⟩ := rm.list r h
    cases rds_bls h2
    exact ⟨_, _, rfl, h1, q _ m _ H (Keep.refl _) rm (.bl _) p⟩
  · exact p.elim
def rMaxD : RnD := fun xs m P => match xs with
  | [.int i, .int j] => P (.int (if j > i then j else i)) m
  | [x] => ∃ ns : List Int, isL m x (ns.map D.int) ∧ 0 < ns.length ∧ ∀ k, k ∈ ns → (∀ y, y ∈ ns → y ≤ k) → P (.int k) m
  | _ => False
theorem cd_max (hc : X.calm = true) : CallD X (.builtin "max") rMaxD := by
  have h1 : CallD X (.builtin "max") (fun xs m P => ∃ i j, xs = [.int i, .int j] ∧ P (.int (if j > i then j else i)) m) := by
    refine ⟨_, call_max2 hc, fun H m xs us P Q rm rx p q => ?_⟩
    obtain ⟨i, j, rfl, p⟩ := p
    obtain ⟨u, v, rfl, r1, r2⟩ := rx.two_
    cases r1.int_
    cases r2.int_
    exact ⟨i, j, rfl, q _ m _ H (Keep.refl _) rm (.int _) p⟩
  have h2 : CallD X (.builtin "max") (fun xs m P => ∃ x, ∃ ns : List Int, xs = [x] ∧ isL m x (ns.map D.int) ∧ 0 < ns.length ∧ ∀ k, k ∈ ns → (∀ y, y ∈ ns → y ≤ k) → P (.int k) m) := by
    refine ⟨_, cr_max hc, fun H m xs us P Q rm rx p q => ?_⟩
    obtain ⟨a, ns, rfl, h, z, p⟩ := p
    obtain ⟨u, rfl, r⟩ := rx.one_
    obtain ⟨_, vs, rfl, h1, h2⟩ := rm.list r h
    cases rds_ints h2
    exact ⟨_, _, rfl, h1, z, fun k hk hy => q _ m _ H (Keep.refl _) rm (.int _) (p k hk hy)⟩
  refine (h1.or h2).imp fun xs m P p => ?_
  unfold rMaxD at p
  split at p
  · exact .inl ⟨_, _, rfl, p⟩
  · obtain ⟨n, p⟩ := p
    exact .inr ⟨_, n, rfl, p⟩
  · exact p.elim
/-! ### isinstance of a built-in class -/
def tyN (m : M) : D → Option String
  | .non => some "NoneType" | .bl _ => some "bool" | .int _ => some "int" | .str _ => some "str" | .tup _ => some "tuple"
  | .rol _ => some "list"
  | .ref a => match m a with | some (.lst _) => some "list" | _ => none
  | .ty _ => none
def rIsD : RnD := fun xs m P => match xs with | [x, .ty T] => ∃ n b, tyN m x = some n ∧ kitB n T = some b ∧ P (.bl b) m | _ => False
theorem tyX_of {K : PySem.W.Frag} {H : Hp} {m : M} {x : D} {u : V} {n : String} (rm : RM K H m) (r : RD K H x u) (h : tyN m x = some n) : TyX K H u (.type n) := by
  cases x with
  | non => cases r.non_; cases h; exact .base .non
  | bl b => cases r.bl_; cases h; exact .base (.bl b)
  | int b => cases r.int_; cases h; exact .base (.int b)
  | str b => cases r.str_; cases h; exact .base (.str b)
  | tup xs =>
    obtain ⟨a, vs, rfl, h1, h2⟩ := r.tup_
    cases h
    rcases h1 with (h1 | ⟨o, h1⟩) | ⟨o, its, k, h1, h2, _⟩
    · exact .base (.tup h1)
    · exact .fTuple h1
    · exact .kTuple h1 h2
  | ref a =>
    cases r.ref_
    have h : (match m a with | some (.lst _) => some "list" | _ => none) = some n := h
    split at h
    · rename_i e
      cases h
      obtain ⟨vs, e1, _⟩ := rm _ _ e
      exact .base (.lst e1)
    · cases h
  | rol xs =>
    obtain ⟨a, vs, rfl, h1, h2⟩ := r.rol_
    cases h
    rcases h1 with ⟨o, h1⟩ | ⟨o, its, k, h1, h2, _⟩
    · exact .base (.frz h1)
    · exact .kList h1 h2
  | ty n => cases h
theorem cd_isi : CallD X (.builtin "isinstance") rIsD := by
  refine ⟨_, call_isi, fun H m xs us P Q rm rx p q => ?_⟩
  unfold rIsD at p
  split at p
  · obtain ⟨u, v, rfl, r1, r2⟩ := rx.two_
    cases r2.ty_
    obtain ⟨n, b, h1, h2, p⟩ := p
    exact ⟨_, _, _, _, b, rfl, .ty _, tyX_of rm r1 h1, kit_ty h2, q _ m _ H (Keep.refl _) rm (.bl _) p⟩
  · exact p.elim
/-! ### methods of built-in types -/
abbrev RmD := D → List D → M → DK → Prop
structure MethD (X : Cx) (T id : String) (ty : D → M → Prop) (r' : RmD) : Prop where
  ex : ∃ r, MtR X id r ∧ (∀ H m x u, RM X.K H m → RD X.K H x u → ty x m → tyV X.K T u H) ∧ ∀ H m x u xs us P Q, RM X.K H m → RD X.K H x u → RDs X.K H xs us → r' x xs m P → Wants X.K H P Q → r u us H Q
def dBM (ty : D → M → Prop) (r : RmD) (to : TDE) (t : TDA) : TDE := fun sd m P => to sd m fun x m1 => ty x m1 ∧ t sd m1 fun xs m2 => r x xs m2 P
theorem qe_bm {T id : String} {name : Str} {o e : Expr} {es : List Expr} {apos cpos : Pos} {ty : D → M → Prop} {r : RmD} {to : TDE} {t : TDA} (hm : MethD X T id ty r) (pa : PlainAttrs T) (slot : Slot T name id) (hty : typeOf (.builtin id) = pure (.type "method_descriptor")) (ho : PE X o (lE X.K H0 to)) (ha : PA X (e :: es) (lA X.K H0 t))
    (hbase : attributeBase o name X.env (eval o X.env) = eval o X.env := by rfl)
    (hfew : ((backTo cpos (starEach (e :: es) X.env)).all (fun x => !x.1) && (backToKw cpos (keywordEach [] X.env)).all (fun x => x.1.isSome)
      && decide ((e :: es).length + ([] : List Keyword).length + (if ([] : List Keyword).isEmpty then 0 else 1) < 30)) = true := by rfl)
    (hline : (apos.endLine == cpos.line) = true := by rfl) (hs : starEach (e :: es) X.env = (false, eval e X.env) :: starEach es X.env := by rfl) (hplain : (backTo cpos (starEach es X.env)).any (·.1) = false := by rfl) :
    PE X (.Call (.Attribute o name apos) (e :: es) [] cpos) (lE X.K H0 (dBM ty r to t)) := by
  obtain ⟨r1, h1, h2, h3⟩ := hm.ex
  refine peL (pe_bm pa slot hty h1 ho ha hbase hfew hline hs hplain) fun σ H Q h => ?_
  obtain ⟨sd, m, P, a, p, q⟩ := h
  refine ⟨sd, m, _, a, p, fun x m1 u H1 k1 r1 d1 p1 => ⟨h2 H1 m1 x u r1 d1 p1.1, ?_⟩⟩
  exact ⟨sd, m1, _, a.to k1 r1, p1.2, fun xs m2 us H2 k2 r2 d2 p2 => h3 H2 m2 x u xs us P Q r2 (d1.mono k2) d2 p2 fun d m' w H' k => q d m' w H' ((k1.trans k2).trans k)⟩
def isLst (x : D) (m : M) : Prop := match x with | .ref a => ∃ xs, m a = some (.lst xs) | _ => False
def rApp : RmD := fun x ys m P => match x, ys with | .ref a, [y] => ∃ xs, m a = some (.lst xs) ∧ xs.length < sizeLine ∧ P .non (put m a (.lst (xs ++ [y]))) | _, _ => False
theorem md_append : MethD X "list" "list.append" isLst rApp := by
  refine ⟨_, mt_append, fun H m x u rm rx h => ?_, fun H m x u xs us P Q rm rx rs p q => ?_⟩
  · unfold isLst at h
    split at h
    · cases rx.ref_
      obtain ⟨xs, h⟩ := h
      obtain ⟨vs, e, _⟩ := rm _ _ h
      exact .inl ⟨rfl, _, .inl (.inl e)⟩
    · exact h.elim
  · unfold rApp at p
    split at p
    · cases rx.ref_
      obtain ⟨w, rfl, r⟩ := rs.one_
      obtain ⟨xs, h, z, p⟩ := p
      obtain ⟨vs, e, rr⟩ := rm _ _ h
      exact ⟨_, vs, w, rfl, rfl, e, by rw [← rr.length]; exact z, q _ _ _ _ (Keep.lst e) (rm.setPut e (rr.append (.cons r .nil))) .non p⟩
    · exact p.elim
/-! ### slices -/
abbrev TDO := DS → M → (Option Int → M → Prop) → Prop
def lO (K : PySem.W.Frag) (H0 : Hp) (t : TDO) : TO := fun σ H Q => ∃ sd m P, At K H0 sd m σ H ∧ t sd m P ∧ ∀ o m' H', Keep K H H' → RM K H' m' → P o m' → Q o H'
def dNoPart : TDO := fun _ m P => P none m
def dPart (t : TDE) : TDO := fun sd m P => t sd m fun x m1 => match x with | .int i => P (some i) m1 | _ => False
theorem poL {e : Option Expr} {t t' : TO} (h : PO X e t) (i : ∀ σ H Q, t' σ H Q → t σ H Q) : PO X e t' := ⟨fun pins s σ H Q I ht => h.run pins s σ H Q I (i _ _ _ ht)⟩
theorem qo_none : PO X none (lO X.K H0 dNoPart) := poL po_none fun σ H Q h => by
  obtain ⟨sd, m, P, a, p, q⟩ := h
  exact q none m H (Keep.refl _) a.m p
theorem qo_some {e : Expr} {t : TDE} (h : PE X e (lE X.K H0 t)) : PO X (some e) (lO X.K H0 (dPart t)) := poL (po_some h) fun σ H Q h => by
  obtain ⟨sd, m, P, a, p, q⟩ := h
  refine ⟨sd, m, _, a, p, fun d m' v H' k r rd p' => ?_⟩
  cases d with
  | int i => cases rd.int_; exact ⟨i, rfl, q _ m' H' k r p'⟩
  | _ => exact p'.elim
def cutL {α : Type} (xs : List α) (lo hi : Option Int) : List α := (xs.drop (HT.sIx xs.length 0 lo)).take (HT.sIx xs.length xs.length hi - HT.sIx xs.length 0 lo)
def rSlD (x : D) (l u : Option Int) (m : M) (P : DK) : Prop := match x with
  | .tup xs => P (.tup (cutL xs l u)) m
  | .str z => z.length ≤ sizeLine ∧ P (.str (cutS z l u)) m
  | x => ∃ xs, isL m x xs ∧ ∀ p, m p = none → P (.ref p) (put m p (.lst (cutL xs l u)))
def dSl (t : TDE) (tl th : TDO) : TDE := fun sd m P => t sd m fun x m1 => tl sd m1 fun l m2 => th sd m2 fun u m3 => rSlD x l u m3 P
theorem RDs.cut {K : PySem.W.Frag} {H : Hp} {xs : List D} {vs : List V} (r : RDs K H xs vs) (lo hi : Option Int) : RDs K H (cutL xs lo hi) (cutV vs lo hi) := by
  unfold cutL cutV
  rw [← r.length]
  exact (r.drop _).take _
theorem qe_slice {e : Expr} {lo hi : Option Expr} {p2 pos : Pos} {t : TDE} {tl th : TDO} (he : PE X e (lE X.K H0 t)) (hl : PO X lo (lO X.K H0 tl)) (hu : PO X hi (lO X.K H0 th)) : PE X (.Subscript e (.Slice lo hi none p2) pos) (lE X.K H0 (dSl t tl th)) :=
  peL (pe_slice (sl_tupA.or (sl_str.or sl_list)) he hl hu) fun σ H Q h => by
    obtain ⟨sd, m, P, a, p, q⟩ := h
    refine ⟨sd, m, _, a, p, fun x m1 u H1 k1 r1 d1 p1 => ⟨sd, m1, _, a.to k1 r1, p1, fun l m2 H2 k2 r2 p2 => ⟨sd, m2, _, a.to (k1.trans k2) r2, p2, fun o m3 H3 k3 r3 p3 => ?_⟩⟩⟩
    have k : Keep X.K H H3 := (k1.trans k2).trans k3
    have d3 := d1.mono (k2.trans k3)
    unfold rSlD at p3
    split at p3
    · rename_i xs
      obtain ⟨b, vs, rfl, h1, h2⟩ := d3.tup_
      refine .inl ⟨b, vs, rfl, h1, fun e => ?_, fun e z hz => ?_⟩
      · refine q _ m3 _ H3 k r3 ?_ p3
        refine .tup h1 ?_
        have e' : cutL xs l o = xs := by
          unfold cutL
          rw [h2.length, e.1, e.2, List.drop_zero, Nat.sub_zero, ← h2.length]
          exact List.take_length
        rw [e']
        exact h2
      · exact q _ m3 _ _ (k.trans (Keep.new hz)) (r3.new hz) (.tup (.inl (.inl upd_same)) ((h2.cut l o).mono (Keep.new hz))) p3
    · cases d3.str_
      exact .inr (.inl ⟨_, rfl, p3.1, q _ m3 _ H3 k r3 (.str _) p3.2⟩)
    · obtain ⟨xs, h, p3⟩ := p3
      obtain ⟨_, vs, rfl, h1, h2⟩ := r3.list d3 h
      exact .inr (.inr ⟨_, vs, rfl, h1, fun z hz => q _ _ _ _ (k.trans (Keep.new hz)) (r3.newPut hz (h2.cut l o)) (.ref z) (p3 z (r3.free hz))⟩)
end
end Q4

set_option Elab.async false
set_option linter.all false
set_option maxRecDepth 100000
namespace Q4
open PySem L2
open PyProof.Rows (envOfC)
def Ret (P : DK) : DK := fun d m => ∃ m', Less m' m ∧ P d m'
abbrev DSp := List D → M → DK → DXK → Prop
def XRel (K : PySem.W.Frag) (H : Hp) : Option (List (Str × D)) → Option Addr → Prop
  | none, none => True
  | some fs, some d => ∃ gs, H d = some (.xd gs) ∧ RDs K H (fs.map (·.2)) (gs.map (·.2)) ∧ fs.map (·.1) = gs.map (·.1)
  | _, _ => False
def WantsX (K : PySem.W.Frag) (H : Hp) (EX : DXK) (E : XK) : Prop := ∀ c fo m' od H', Keep K H H' → RM K H' m' → XRel K H' fo od → EX c fo m' → E c od H'
def noX : DXK := fun _ _ _ => False
def lSp (K : PySem.W.Frag) (d : DSp) : Sp := fun vs H Q E => ∃ ds m P EX, RDs K H ds vs ∧ RM K H m ∧ d ds m P EX ∧ Wants K H P Q ∧ WantsX K H EX E
theorem wantsX0 {K : PySem.W.Frag} {H : Hp} {E : XK} : WantsX K H noX E := fun _ _ _ _ _ _ _ _ h => h.elim
section
variable {X : Cx} {H0 : Hp}
/-! ### calls of defs that raise nothing -/
def dCall (d : DSp) (t : TDA) : TDE := fun sd m P => t sd m fun xs m1 => d xs m1 P noX
theorem l_call {K : PySem.W.Frag} {d : DSp} {E : XK} {t : TDA} {σ : St} {H : Hp} {Q : VK} (h : lE K H0 (dCall d t) σ H Q) : tCall (lSp K d) [] E (lA K H0 t) σ H Q := by
  obtain ⟨sd, m, P, a, p, q⟩ := h
  refine ⟨sd, m, _, a, p, fun xs m1 us H1 k1 r1 d1 p1 => ?_⟩
  show lSp K d (us ++ []) H1 Q E
  rw [List.append_nil]
  exact ⟨xs, m1, P, noX, d1, r1, p1, fun d m' w H' k => q d m' w H' (k1.trans k), wantsX0⟩
theorem qe_call {CX : CXT} {k : Nat} {f : Addr} {fd : FuncData} {ps : List Str} {d : DSp} {E : XK} {x : Str} {p pos : Pos} {e : Expr} {es : List Expr} {t : TDA} (F : FnOk X.prog X.w X.K X.mg X.base CX k f fd ps (lSp X.K d)) (hr : Room k X.A) (hg : Gl X x) (hm : X.mg x = some (.ref f)) (hk : PySem.W.keepIn X.K (.ref f) = true) (hb : Binds X.K fd ps []) (hx : Passes CX X E)
    (ha : PA X (e :: es) (lA X.K H0 t)) (hdb : (x == ("__debug__" : Str)) = false := by decide) (he : starEach (e :: es) X.env = (false, eval e X.env) :: starEach es X.env := by rfl) (hpl : (backTo pos (starEach es X.env)).any (·.1) = false := by rfl) :
    PE X (.Call (.Name x p) (e :: es) [] pos) (lE X.K H0 (dCall d t)) := peL (pe_call F hr hg hm hk hb .nil hx ha hdb he hpl) fun _ _ _ => l_call
theorem qe_call0 {CX : CXT} {k : Nat} {f : Addr} {fd : FuncData} {ps : List Str} {d : DSp} {E : XK} {x : Str} {p pos : Pos} (F : FnOk X.prog X.w X.K X.mg X.base CX k f fd ps (lSp X.K d)) (hr : Room k X.A) (hg : Gl X x) (hm : X.mg x = some (.ref f)) (hk : PySem.W.keepIn X.K (.ref f) = true) (hb : Binds X.K fd ps []) (hx : Passes CX X E)
    (hdb : (x == ("__debug__" : Str)) = false := by decide) : PE X (.Call (.Name x p) [] [] pos) (lE X.K H0 (dCall d dNil)) := peL (pe_call0 F hr hg hm hk hb .nil hx hdb) fun σ H Q h => by
  have h' := l_call (K := X.K) (E := E) h
  obtain ⟨sd, m, P, a, p, q⟩ := h
  exact ⟨[], m, P, noX, .nil, a.m, p, q, wantsX0⟩
/-! ### a def -/
def dstart (N : List Str) (ds : List D) : DS := ds.map some ++ List.replicate (N.length - ds.length) none
theorem Fun.okD {P : Program} {w : World} {K : PySem.W.Frag} {mg : Str → Option Value} {base : Heap} {x qual : Str} {st : Stmt} {f : Addr} {fd : FuncData} {N ps : List Str} {k : Nat} {d : DSp} (F : Fun K x qual st f fd) (S : FnScope N ps (defScope st)) (len : ∀ ds m P EX, d ds m P EX → ds.length = ps.length)
    (t : TDS) (hread : ∀ ds m P EX, d ds m P EX → t { nx := fun _ m' => Ret P .non m', rt := Ret P } (dstart N ds) m)
    (hbody : ∀ (cdv : Value) (A : Around) (outer : List Env) (s : Shared) (H : Hp) (E : XK), Room k (A.deeper (envOfC qual (defScope st) s.heap.objs.size f cdv)) → PSs (cxOf CX0 P w K mg base N qual (defScope st) f cdv A outer s H E).nox (defBody st) (lS K H t)) :
    FnOk P w K mg base CX0 (k + 1) f fd ps (lSp K d) := by
  refine F.ok S (fun vs H Q E h => ?_) (fun cdv A outer s H vs Q E hr h => ?_)
  · obtain ⟨ds, m, P, EX, r, _, h, _⟩ := h
    rw [← r.length]
    exact len _ _ _ _ h
  · obtain ⟨ds, m, P', EX, r, rm, h, q, _⟩ := h
    refine ⟨_, hbody cdv A outer s H E hr, dstart N ds, m, _, ⟨RS.start r, rm, Keep.refl _⟩, hread ds m P' EX h, ?_, ?_, ?_, ?_⟩
    · rintro sd' m' σ' H' k s r ⟨m2, l, p⟩
      exact q _ m2 _ H' k (r.less l) .non p
    · rintro d m' v H' k r rd ⟨m2, l, p⟩
      exact q _ m2 _ H' k (r.less l) rd p
    · exact fun _ _ _ _ _ _ _ h => h
    · exact fun _ _ _ _ _ _ _ h => h
/-! ### comprehensions -/
def dYes : TDT := fun _ m P => P true m
theorem qts_nil : PTs X [] (lT X.K H0 dYes) := ⟨fun pins s σ H Q I h => pts_nil.run pins s σ H Q I (by
  obtain ⟨sd, m, P, a, p, q⟩ := h
  exact q true m H (Keep.refl _) a.m p)⟩
theorem qts_one {c : Expr} {t : TDT} (h : PT X c (lT X.K H0 t)) : PTs X [c] (lT X.K H0 t) := pts_one h
def wipeD (sd : DS) : List Nat → DS
  | [] => sd
  | v :: vs => (wipeD sd vs).set v none
theorem RS.wipe {K : PySem.W.Frag} {H : Hp} {sd : DS} {σ : St} (r : RS K H sd σ) : ∀ vs : List Nat, RS K H (wipeD sd vs) (L2.wipe σ vs)
  | [] => r
  | v :: vs => by
    have ih := r.wipe vs
    unfold wipeD L2.wipe
    refine ⟨by rw [List.length_set, List.length_set, ih.len], fun j d e => ?_⟩
    by_cases hj : v = j
    · subst hj
      rw [List.getElem?_set] at e
      simp at e
    · rw [List.getElem?_set_ne hj] at e ⊢
      exact ih.get j d e
/-- [e for g in wi if tt]: the new list's items so far are acc -/
def dLc (wi : TDI) (g : TDG) (tt : TDT) (te : TDE) (vs : List Nat) : TDE := fun sd m P => wi sd m fun J m1 => ∀ p, m1 p = none → ∃ (N : Nat) (W : Nat → List D → M → Prop), W 0 [] m1 ∧ ∀ i acc m2, W i acc m2 → i ≤ N ∧ ∃ o, J i (put m2 p (.lst acc)) o ∧ match o with
  | none => P (.ref p) (put m2 p (.lst acc))
  | some x => g x (wipeD sd vs) (put m2 p (.lst acc)) fun sd2 m3 => tt sd2 m3 fun b m4 =>
    if b = true then te sd2 m4 fun y m5 => ∃ m6, Less (put m6 p (.lst acc)) m5 ∧ acc.length < sizeLine ∧ W (i + 1) (acc ++ [y]) m6 else ∃ m6, Less (put m6 p (.lst acc)) m4 ∧ W (i + 1) acc m6
theorem lc_core {K : PySem.W.Frag} {g : TDG} {tt : TDT} {te : TDE} {vs : List Nat} {J : DIt} {J' : It} {H H1 : Hp} {sd : DS} {m1 : M} {σ : St} {P : DK} {Q : VK} (k0 : Keep K H0 H) (k1 : Keep K H H1) (s0 : RS K H sd σ) (r1 : RM K H1 m1) (l1 : LiftIt K H1 J J')
    (q : ∀ d m' v H', Keep K H H' → RM K H' m' → RD K H' d v → P d m' → Q v H') {D : Addr} (hD : H1 D = none)
    (p : ∃ (N : Nat) (W : Nat → List Q4.D → M → Prop), W 0 [] m1 ∧ ∀ i acc m2, W i acc m2 → i ≤ N ∧ ∃ o, J i (put m2 D (.lst acc)) o ∧ match o with
      | none => P (.ref D) (put m2 D (.lst acc))
      | some x => g x (wipeD sd vs) (put m2 D (.lst acc)) fun sd2 m3 => tt sd2 m3 fun b m4 =>
        if b = true then te sd2 m4 fun y m5 => ∃ m6, Less (put m6 D (.lst acc)) m5 ∧ acc.length < sizeLine ∧ W (i + 1) (acc ++ [y]) m6 else ∃ m6, Less (put m6 D (.lst acc)) m4 ∧ W (i + 1) acc m6) :
    ∃ W : Nat → Nat → Hp → Prop, (∃ m, W 0 m (upd H1 D (.lst []))) ∧ ∀ i m H, W i m H →
      (J'.stop i H ∧ Q (.ref D) H) ∨ (J'.go i H ∧ ∃ Nx : Hp → Prop, (∀ H', Nx H' → ∃ m', m' < m ∧ W (i + 1) m' H') ∧ ∀ x H', J'.yld i H x H' → lG K H0 vs g x (L2.wipe σ vs) H' fun σ2 H2 => L2.wipe σ2 vs = L2.wipe σ vs ∧ lT K H0 tt σ2 H2 fun b H3 =>
        if b = true then lE K H0 te σ2 H3 fun y H4 => ∃ acc, H4 D = some (.lst acc) ∧ acc.length < sizeLine ∧ Nx (upd H4 D (.lst (acc ++ [y]))) else Nx H3) := by
  obtain ⟨N, W, w0, turn⟩ := p
  refine ⟨fun i n H' => n = N - i ∧ ∃ acc m', Keep K H1 H' ∧ RM K H' (put m' D (.lst acc)) ∧ W i acc m', ⟨N, rfl, [], m1, Keep.new hD, r1.newPut hD .nil, w0⟩, ?_⟩
  rintro i n H2 ⟨rfl, acc, m2, k2, r2, w2⟩
  obtain ⟨hi, o, jo, rest⟩ := turn i acc m2 w2
  have L := l1 H2 k2 i _ r2 o jo
  cases o with
  | none => exact .inl ⟨L, q _ _ _ H2 (k1.trans k2) r2 (.ref D) rest⟩
  | some x =>
    refine .inr ⟨L.1, fun H3 => ∃ acc m', Keep K H1 H3 ∧ RM K H3 (put m' D (.lst acc)) ∧ W (i + 1) acc m', ?_, fun v H3 y => ?_⟩
    · rintro H3 ⟨acc3, m3, k3, r3, w3⟩
      have := (turn (i + 1) acc3 m3 w3).1
      exact ⟨N - (i + 1), by omega, rfl, acc3, m3, k3, r3, w3⟩
    · obtain ⟨k3, r3, d3⟩ := L.2 v H3 y
      have K3 : Keep K H H3 := k1.trans (k2.trans k3)
      refine ⟨x, wipeD sd vs, _, _, ⟨(s0.mono K3).wipe vs, r3, k0.trans K3⟩, d3, rest, fun sd4 m4 σ4 H4 k4 s4 r4 hw p4 => ⟨hw.trans wipe_wipe, ?_⟩⟩
      have K4 : Keep K H H4 := K3.trans k4
      refine ⟨sd4, m4, _, ⟨s4, r4, k0.trans K4⟩, p4, fun b m5 H5 k5 r5 p5 => ?_⟩
      have K5 : Keep K H1 H5 := (k2.trans k3).trans (k4.trans k5)
      cases b with
      | true =>
        refine ⟨sd4, m5, _, ⟨s4.mono k5, r5, k0.trans (K4.trans k5)⟩, p5, fun z m6 w H6 k6 r6 d6 p6 => ?_⟩
        obtain ⟨m7, hl7, hz, w7⟩ := p6
        have r6 := r6.less hl7
        obtain ⟨us, e1, rr⟩ := r6 D _ put_same
        refine ⟨us, e1, by rw [← rr.length]; exact hz, acc ++ [z], m7, (K5.trans k6).trans (Keep.lst e1), ?_, w7⟩
        have := r6.setPut e1 (rr.append (.cons d6 .nil))
        rw [put_put] at this
        exact this
      | false =>
        obtain ⟨m7, hl7, w7⟩ := p5
        exact ⟨acc, m7, K5, r5.less hl7, w7⟩
theorem l_lc {K : PySem.W.Frag} {wi : TDI} {g : TDG} {tt : TDT} {te : TDE} {vs : List Nat} {σ : St} {H : Hp} {Q : VK} (h : lE K H0 (dLc wi g tt te vs) σ H Q) : tLc (lI K H0 wi) (lG K H0 vs g) (lT K H0 tt) (lE K H0 te) vs σ H Q := by
  obtain ⟨sd, m, P, a, p, q⟩ := h
  exact ⟨sd, m, _, a, p, fun J m1 J' H1 k1 r1 l1 p1 D hD => lc_core a.k k1 a.s r1 l1 q hD (p1 D (r1.free hD))⟩
theorem qe_lc {elt tg iter : Expr} {ifs : List Expr} {scope : Scope} {own : List (Str × Nat)} {pos : Pos} {wi : TDI} {g : TDG} {tt : TDT} {te : TDE} (hc : X.calm = true) (hN : X.N.Nodup) (hi : PI X tg iter (lI X.K H0 wi)) (ok : BlkOk X.N X.env.scope scope own)
    (hg : ∀ (s : Shared) (H : Hp) (C : Addr) (cl : List (Str × Addr)) (fp : List Addr), PG (X.blk s H scope (compEnvC scope cl C X.env) fp) tg (lG X.K H0 (own.map (·.2)) g)) (ht : ∀ (s : Shared) (H : Hp) (C : Addr) (cl : List (Str × Addr)) (fp : List Addr), PTs (X.blk s H scope (compEnvC scope cl C X.env) fp) ifs (lT X.K H0 tt))
    (he : ∀ (s : Shared) (H : Hp) (C : Addr) (cl : List (Str × Addr)) (fp : List Addr), PE (X.blk s H scope (compEnvC scope cl C X.env) fp) elt (lE X.K H0 te)) (hs : ∀ x, foldedSetIterable iter X.env x = pure x := by intro _; rfl) :
    PE X (.ListComp elt [⟨tg, iter, ifs, 0⟩] scope pos) (lE X.K H0 (dLc wi g tt te (own.map (·.2)))) := peL (pe_lc hc hN hi ok hg ht he hs) fun _ _ _ => l_lc
theorem qs_setLc {i : Nat} {y : Str} {py : Pos} {elt tg iter : Expr} {ifs : List Expr} {scope : Scope} {own : List (Str × Nat)} {pos spos : Pos} {wi : TDI} {g : TDG} {tt : TDT} {te : TDE} (hc : X.calm = true) (hN : X.N.Nodup) (hy : X.N[i]? = some y) (hyl : X.env.scope.names.lookup y = some .local)
    (hsw : swapsWith (.ListComp elt [⟨tg, iter, ifs, 0⟩] scope pos) (some (.Name y py)) spos.line X.env = pure true) (hi : PI X tg iter (lI X.K H0 wi)) (ok : BlkOk X.N X.env.scope scope own)
    (hg : ∀ (s : Shared) (H : Hp) (C : Addr) (cl : List (Str × Addr)) (fp : List Addr), PG (X.blk s H scope (compEnvC scope cl C X.env) fp) tg (lG X.K H0 (own.map (·.2)) g)) (ht : ∀ (s : Shared) (H : Hp) (C : Addr) (cl : List (Str × Addr)) (fp : List Addr), PTs (X.blk s H scope (compEnvC scope cl C X.env) fp) ifs (lT X.K H0 tt))
    (he : ∀ (s : Shared) (H : Hp) (C : Addr) (cl : List (Str × Addr)) (fp : List Addr), PE (X.blk s H scope (compEnvC scope cl C X.env) fp) elt (lE X.K H0 te)) (hs : ∀ x, foldedSetIterable iter X.env x = pure x := by intro _; rfl) :
    PS X (.Assign [.Name y py] (.ListComp elt [⟨tg, iter, ifs, 0⟩] scope pos) spos) (lS X.K H0 (dAsg (dLc wi g tt te (own.map (·.2))) (dName i))) := psL (ps_setLc hc hN hy hyl hsw hi ok hg ht he hs) fun D σ H h => by
  obtain ⟨sd, m, DD, a, p, q⟩ := h
  refine l_lc (K := X.K) (H0 := H0) ⟨sd, m, _, a, p, fun d m' v H' k r rd p' => q.1 _ m' _ H' k ((a.s.mono k).set i rd) r p'⟩
end
end Q4

set_option Elab.async false
set_option linter.all false
set_option maxRecDepth 100000
namespace Q4
open PySem L2
section
variable {sd : DS} {m m1 : M} {P : DK} {D' : DEnds} {t u : TDS} {ta tb te : TDE} {tt : TDT} {d x y : D}
/-! ### steps: statements -/
theorem s_seq (h : t { D' with nx := u D' } sd m) : dSeq t u D' sd m := ⟨u D', h, fun _ _ h => ⟨_, Less.refl _, h⟩⟩
/-- ways that meet: what holds where they meet -/
theorem s_cut (J : DS → M → Prop) (h : t { D' with nx := Fg J } sd m) (hJ : ∀ sd' m', J sd' m' → u D' sd' m') : dSeq t u D' sd m := ⟨Fg J, h, fun sd' m' ⟨m2, hl, j⟩ => ⟨m2, hl, hJ sd' m2 j⟩⟩
theorem s_seqA {g : TDG} (h : ta sd m fun x m1 => g x sd m1 (u D')) : dSeq (dAsg ta g) u D' sd m := s_seq h
theorem s_seqD (h : ta sd m fun _ m1 => u D' sd m1) : dSeq (dDrop ta) u D' sd m := s_seq h
theorem s_seqIR (h : tt sd m fun b m1 => if b = true then dRet ta { D' with nx := u D' } sd m1 else u D' sd m1) : dSeq (dIf tt (dRet ta) dNext) u D' sd m := s_seq h
theorem s_seqIS {v : TDS} (h : tt sd m fun b m1 => if b = true then dSeq v (dRet ta) { D' with nx := u D' } sd m1 else u D' sd m1) : dSeq (dIf tt (dSeq v (dRet ta)) dNext) u D' sd m := s_seq h
theorem s_seqISS {v w : TDS} (h : tt sd m fun b m1 => if b = true then dSeq v (dSeq w (dRet ta)) { D' with nx := u D' } sd m1 else u D' sd m1) : dSeq (dIf tt (dSeq v (dSeq w (dRet ta))) dNext) u D' sd m := s_seq h
theorem s_seqIRC {k : List D} (h : tt sd m fun b m1 => if b = true then dRet ta { D' with nx := u D' } sd m1 else u D' sd m1) : dSeq (dIf tt (dRet ta) dNext) u D' sd m := s_seq h
theorem s_aug {i : Nat} {r : R2D} (h1 : sd[i]? = some (some x)) (h : ta sd m fun y m1 => r x y m1 fun z m2 => D'.nx (sd.set i (some z)) m2) : dAug i ta r D' sd m := ⟨x, h1, h⟩
theorem s_dNext (h : D'.nx sd m) : dNext D' sd m := h
theorem s_next (h : D'.nx sd m) : dNext D' sd m := h
theorem s_asg {g : TDG} (h : ta sd m fun x m1 => g x sd m1 D'.nx) : dAsg ta g D' sd m := h
theorem s_if (h : tt sd m fun b m1 => if b = true then t D' sd m1 else u D' sd m1) : dIf tt t u D' sd m := h
theorem s_ret (h : ta sd m D'.rt) : dRet ta D' sd m := h
theorem s_drop (h : ta sd m fun _ m1 => D'.nx sd m1) : dDrop ta D' sd m := h
theorem s_for {wi : TDI} {g : TDG} (h : wi sd m fun J m1 => ∃ (N : Nat) (W : Nat → DS → M → Prop), W 0 sd m1 ∧ ∀ i sd m, W i sd m → i ≤ N ∧ ∃ o, J i m o ∧ match o with
  | none => D'.nx sd m
  | some x => g x sd m fun sd2 m2 => t { D' with nx := Fg (W (i + 1)), ct := Fg (W (i + 1)), bk := D'.nx } sd2 m2) : dFor wi g t D' sd m := h
theorem s_name {i : Nat} {Q : DS → M → Prop} (h : Q (sd.set i (some d)) m) : dName i d sd m Q := h
/-! ### expressions -/
theorem s_var {i : Nat} (h : sd[i]? = some (some d)) (q : P d m) : dVar i sd m P := ⟨d, h, q⟩
theorem s_c (q : P d m) : dC d sd m P := q
theorem s_op {r : R2D} (h : ta sd m fun x m1 => tb sd m1 fun y m2 => r x y m2 P) : dOp r ta tb sd m P := h
theorem s_cb {r : RnD} {t : TDA} (h : t sd m fun xs m1 => r xs m1 P) : dCB r t sd m P := h
theorem s_call {r : DSp} {t : TDA} (h : t sd m fun xs m1 => r xs m1 P noX) : dCall r t sd m P := h
theorem s_nil {Q : List D → M → Prop} (h : Q [] m) : dNil sd m Q := h
theorem s_cons {t : TDA} {Q : List D → M → Prop} (h : ta sd m fun x m1 => t sd m1 fun xs m2 => Q (x :: xs) m2) : dCons ta t sd m Q := h
theorem s_tup {t : TDA} (h : t sd m fun xs m1 => xs.length ≤ sizeLine ∧ P (.tup xs) m1) : dTup t sd m P := h
theorem s_lst {t : TDA} (h : t sd m fun xs m1 => xs.length ≤ sizeLine ∧ ∀ p, m1 p = none → P (.ref p) (put m1 p (.lst xs))) : dLst t sd m P := h
theorem s_ifE (h : tt sd m fun c m1 => if c = true then ta sd m1 P else tb sd m1 P) : dIfE tt ta tb sd m P := h
theorem s_andV (h : ta sd m fun x m1 => match x with | .bl c => if c = true then tb sd m1 P else P (.bl false) m1 | _ => False) : dAndV ta tb sd m P := h
theorem s_orV (h : ta sd m fun x m1 => match x with | .bl c => if c = true then P (.bl true) m1 else tb sd m1 P | _ => False) : dOrV ta tb sd m P := h
theorem s_notV (h : ta sd m fun x m1 => match x with | .bl c => P (.bl (!c)) m1 | _ => False) : dNotV ta sd m P := h
theorem s_bm {ty : D → M → Prop} {r : RmD} {t : TDA} (h : ta sd m fun x m1 => ty x m1 ∧ t sd m1 fun xs m2 => r x xs m2 P) : dBM ty r ta t sd m P := h
theorem s_sl {tl th : TDO} (h : ta sd m fun x m1 => tl sd m1 fun l m2 => th sd m2 fun u m3 => rSlD x l u m3 P) : dSl ta tl th sd m P := h
theorem r_slT {xs : List D} {l u : Option Int} (q : P (.tup (cutL xs l u)) m) : rSlD (.tup xs) l u m P := q
theorem r_slS {z : Str} {l u : Option Int} (h : z.length ≤ sizeLine) (q : P (.str (cutS z l u)) m) : rSlD (.str z) l u m P := ⟨h, q⟩
theorem r_slL {a : Addr} {xs : List D} {l u : Option Int} (h : m a = some (.lst xs)) (q : ∀ p, m p = none → P (.ref p) (put m p (.lst (cutL xs l u)))) : rSlD (.ref a) l u m P := ⟨xs, h, q⟩
theorem r_slR {xs : List D} {l u : Option Int} (q : ∀ p, m p = none → P (.ref p) (put m p (.lst (cutL xs l u)))) : rSlD (.rol xs) l u m P := ⟨xs, rfl, q⟩
theorem s_opn {Q : Option Int → M → Prop} (h : Q none m) : dNoPart sd m Q := h
theorem s_ops {Q : Option Int → M → Prop} (h : ta sd m fun x m1 => match x with | .int i => Q (some i) m1 | _ => False) : dPart ta sd m Q := h
/-! ### tests -/
section
variable {Q : Bool → M → Prop} {t1 t2 : TDT}
theorem s_B (h : ta sd m fun x m1 => match x with | .bl b => Q b m1 | _ => False) : dB ta sd m Q := h
theorem s_and (h : t1 sd m fun c m1 => if c = true then t2 sd m1 Q else Q false m1) : dAnd t1 t2 sd m Q := h
theorem s_or (h : t1 sd m fun c m1 => if c = true then Q true m1 else t2 sd m1 Q) : dOr t1 t2 sd m Q := h
theorem s_not (h : t1 sd m fun c m1 => Q (!c) m1) : dNot t1 sd m Q := h
theorem s_tru (h : ta sd m fun x m1 => truD x m1 Q) : dTru ta sd m Q := h
theorem s_yes (h : Q true m) : dYes sd m Q := h
theorem s_truB {b : Bool} (h : Q b m) : truD (.bl b) m Q := h
theorem s_truT {xs : List D} (h : Q (!xs.isEmpty) m) : truD (.tup xs) m Q := h
end
theorem s_chain {r r' : R2D} {tc : TDE} (h : ta sd m fun x m1 => tb sd m1 fun y m2 => r x y m2 fun z m3 => match z with
  | .bl k => if k = true then tc sd m3 fun w m4 => r' y w m4 P else P (.bl false) m3
  | _ => False) : dChain r r' ta tb tc sd m P := h
/-! ### operators on known values -/
section
variable {i j : Int} {a b : Addr} {xs ys : List D} {z w : Str}
theorem r_I {C : Int → Int → Prop} {g : Int → Int → D} (c : C i j) (q : P (g i j) m) : rI2 C g (.int i) (.int j) m P := ⟨c, q⟩
theorem r_addI (q : P (.int (i + j)) m) : rAdd (.int i) (.int j) m P := q
theorem r_addS (h : z.length + w.length ≤ sizeLine) (q : P (.str (z ++ w)) m) : rAdd (.str z) (.str w) m P := ⟨h, q⟩
theorem r_addT (h : xs.length + ys.length ≤ sizeLine) (q : P (.tup (xs ++ ys)) m) : rAdd (.tup xs) (.tup ys) m P := ⟨h, q⟩
theorem r_addL (h1 : m a = some (.lst xs)) (h2 : m b = some (.lst ys)) (h : xs.length + ys.length ≤ sizeLine) (q : ∀ p, m p = none → P (.ref p) (put m p (.lst (xs ++ ys)))) : rAdd (.ref a) (.ref b) m P := ⟨xs, ys, h1, h2, h, q⟩
theorem r_sub (q : P (.int (i - j)) m) : rSub (.int i) (.int j) m P := ⟨trivial, q⟩
theorem r_mul (c : CMul i j) (q : P (.int (i * j)) m) : rMul (.int i) (.int j) m P := ⟨c, q⟩
theorem r_mod (c : 0 < j) (q : P (.int (i % j)) m) : rMod (.int i) (.int j) m P := ⟨c, q⟩
theorem r_fdiv (c : CDivW i j) (q : P (.int (i / j)) m) : rFdiv (.int i) (.int j) m P := ⟨c, q⟩
theorem r_pow (c : CPow i j) (q : P (.int (i ^ j.toNat)) m) : rPow (.int i) (.int j) m P := ⟨c, q⟩
theorem r_lt (q : P (.bl (decide (i < j))) m) : rLtD (.int i) (.int j) m P := ⟨trivial, q⟩
theorem r_le (q : P (.bl (decide (i ≤ j))) m) : rLeD (.int i) (.int j) m P := ⟨trivial, q⟩
theorem r_gt (q : P (.bl (decide (j < i))) m) : rGtD (.int i) (.int j) m P := ⟨trivial, q⟩
theorem r_ge (q : P (.bl (decide (j ≤ i))) m) : rGeD (.int i) (.int j) m P := ⟨trivial, q⟩
theorem r_eqI (q : P (.bl (decide (i = j))) m) : rEqD (.int i) (.int j) m P := q
theorem r_eqS (q : P (.bl (decide (z = w))) m) : rEqD (.str z) (.str w) m P := q
theorem r_eqIS (q : P (.bl false) m) : rEqD (.int i) (.str w) m P := q
theorem r_eqSI (q : P (.bl false) m) : rEqD (.str w) (.int i) m P := q
theorem r_neI (q : P (.bl (!decide (i = j))) m) : rNeD (.int i) (.int j) m P := q
theorem r_neS (q : P (.bl (!decide (z = w))) m) : rNeD (.str z) (.str w) m P := q
theorem r_ixT (e : atI xs i = some d) (q : P d m) : rIxD (.tup xs) (.int i) m P := ⟨d, e, q⟩
theorem r_ixL (h : m a = some (.lst xs)) (e : atI xs i = some d) (q : P d m) : rIxD (.ref a) (.int i) m P := ⟨xs, d, h, e, q⟩
theorem r_ixR (e : atI xs i = some d) (q : P d m) : rIxD (.rol xs) (.int i) m P := ⟨d, e, q⟩
theorem r_ixS {c : Nat} (h : z.length ≤ sizeLine) (e : atI z.cps.toList i = some c) (q : P (.str ⟨#[c]⟩) m) : rIxD (.str z) (.int i) m P := ⟨h, c, e, q⟩
theorem r_lenT (q : P (.int xs.length) m) : rLen [.tup xs] m P := q
theorem r_lenL (h : m a = some (.lst xs)) (q : P (.int xs.length) m) : rLen [.ref a] m P := ⟨xs, h, q⟩
theorem r_lenR (q : P (.int xs.length) m) : rLen [.rol xs] m P := ⟨xs, rfl, q⟩
theorem r_lenS (h : z.length ≤ sizeLine) (q : P (.int z.length) m) : rLen [.str z] m P := ⟨h, q⟩
theorem r_int (q : P (.int i) m) : rInt [.int i] m P := q
theorem r_abs (q : P (.int (if i < 0 then -i else i)) m) : rAbs [.int i] m P := q
theorem r_str (h : i.natAbs.log2 < 1920) (q : P (.str (toString i)) m) : rStr [.int i] m P := ⟨h, q⟩
theorem r_tupL (h : m a = some (.lst xs)) (q : P (.tup xs) m) : rTuple [.ref a] m P := ⟨xs, h, q⟩
theorem r_tupR (q : P (.tup xs) m) : rTuple [.rol xs] m P := ⟨xs, rfl, q⟩
theorem r_tupT (q : P (.tup xs) m) : rTuple [.tup xs] m P := q
theorem r_is {n T : String} {bb : Bool} (h : tyN m x = some n) (h2 : kitB n T = some bb) (q : P (.bl bb) m) : rIsD [x, .ty T] m P := ⟨n, bb, h, h2, q⟩
theorem r_app (h : m a = some (.lst xs)) (z : xs.length < sizeLine) (q : P .non (put m a (.lst (xs ++ [y])))) : rApp (.ref a) [y] m P := ⟨xs, h, z, q⟩
theorem s_gsub {to ti : TDE} {v : D} {Q : DS → M → Prop} (h : to sd m fun o m1 => ti sd m1 fun i m2 => match o, i with
  | .ref a, .int k => ∃ xs j, m2 a = some (.lst xs) ∧ ixN xs.length k = some j ∧ Q sd (put m2 a (.lst (xs.set j v)))
  | _, _ => False) : dGSub to ti v sd m Q := h
theorem r_set {k : Int} {j : Nat} {v : D} {Q : M → Prop} (h : m a = some (.lst xs)) (e : ixN xs.length k = some j) (q : Q (put m a (.lst (xs.set j v)))) : ∃ xs j, m a = some (.lst xs) ∧ ixN xs.length k = some j ∧ Q (put m a (.lst (xs.set j v))) := ⟨xs, j, h, e, q⟩
theorem r_isl (h : m a = some (.lst xs)) : isLst (.ref a) m := ⟨xs, h⟩
end
/-! ### loops -/
section
variable {g : TDG} {n : Nat} {lo : Int} {xs : List D} {a : Addr}
theorem f_rng (W : Nat → DS → M → Prop) (h0 : W 0 sd m) (hs : ∀ i sd m, i < n → W i sd m → g (.int (lo + i)) sd m fun sd2 m2 => t { D' with nx := Fg (W (i + 1)), ct := Fg (W (i + 1)), bk := D'.nx } sd2 m2) (hd : ∀ sd m, W n sd m → D'.nx sd m) :
    ∃ (N : Nat) (W : Nat → DS → M → Prop), W 0 sd m ∧ ∀ i sd m, W i sd m → i ≤ N ∧ ∃ o, jRng lo n i m o ∧ match o with
      | none => D'.nx sd m
      | some x => g x sd m fun sd2 m2 => t { D' with nx := Fg (W (i + 1)), ct := Fg (W (i + 1)), bk := D'.nx } sd2 m2 := by
  -- beyond n nothing holds: W is cut there
  refine ⟨n, fun i sd m => i ≤ n ∧ (i ≤ n → W i sd m), ⟨Nat.zero_le _, fun _ => h0⟩, ?_⟩
  rintro i sd m ⟨hi, w⟩
  refine ⟨hi, ?_⟩
  by_cases e : i < n
  · refine ⟨some (.int (lo + i)), (if_pos e).symm, ?_⟩
    have q := hs i sd m e (w hi)
    have eq : (fun (sd : DS) (m : M) => i + 1 ≤ n ∧ (i + 1 ≤ n → W (i + 1) sd m)) = W (i + 1) := by
      funext sd m
      exact propext ⟨fun z => z.2 z.1, fun z => ⟨e, fun _ => z⟩⟩
    show g (.int (lo + i)) sd m fun sd2 m2 => t { D' with nx := Fg fun (sd : DS) (m : M) => i + 1 ≤ n ∧ (i + 1 ≤ n → W (i + 1) sd m), ct := Fg fun (sd : DS) (m : M) => i + 1 ≤ n ∧ (i + 1 ≤ n → W (i + 1) sd m), bk := D'.nx } sd2 m2
    rw [eq]
    exact q
  · have : i = n := by omega
    subst this
    exact ⟨none, (if_neg e).symm, hd sd m (w hi)⟩
theorem f_tup (W : Nat → DS → M → Prop) (h0 : W 0 sd m) (hs : ∀ i x sd m, xs[i]? = some x → W i sd m → g x sd m fun sd2 m2 => t { D' with nx := Fg (W (i + 1)), ct := Fg (W (i + 1)), bk := D'.nx } sd2 m2) (hd : ∀ sd m, W xs.length sd m → D'.nx sd m) :
    ∃ (N : Nat) (W : Nat → DS → M → Prop), W 0 sd m ∧ ∀ i sd m, W i sd m → i ≤ N ∧ ∃ o, jTup xs i m o ∧ match o with
      | none => D'.nx sd m
      | some x => g x sd m fun sd2 m2 => t { D' with nx := Fg (W (i + 1)), ct := Fg (W (i + 1)), bk := D'.nx } sd2 m2 := by
  refine ⟨xs.length, fun i sd m => i ≤ xs.length ∧ (i ≤ xs.length → W i sd m), ⟨Nat.zero_le _, fun _ => h0⟩, ?_⟩
  rintro i sd m ⟨hi, w⟩
  refine ⟨hi, ?_⟩
  by_cases e : i < xs.length
  · refine ⟨some xs[i], (List.getElem?_eq_getElem e).symm, ?_⟩
    have q := hs i xs[i] sd m (List.getElem?_eq_getElem e) (w hi)
    have eq : (fun (sd : DS) (m : M) => i + 1 ≤ xs.length ∧ (i + 1 ≤ xs.length → W (i + 1) sd m)) = W (i + 1) := by
      funext sd m
      exact propext ⟨fun z => z.2 z.1, fun z => ⟨e, fun _ => z⟩⟩
    show g xs[i] sd m fun sd2 m2 => t { D' with nx := Fg fun (sd : DS) (m : M) => i + 1 ≤ xs.length ∧ (i + 1 ≤ xs.length → W (i + 1) sd m), ct := Fg fun (sd : DS) (m : M) => i + 1 ≤ xs.length ∧ (i + 1 ≤ xs.length → W (i + 1) sd m), bk := D'.nx } sd2 m2
    rw [eq]
    exact q
  · have : i = xs.length := by omega
    subst this
    exact ⟨none, (List.getElem?_eq_none (Nat.le_refl _)).symm, hd sd m (w hi)⟩
theorem f_lst (W : Nat → DS → M → Prop) (h0 : W 0 sd m) (hl : ∀ i sd m, i ≤ xs.length → W i sd m → m a = some (.lst xs)) (hs : ∀ i x sd m, xs[i]? = some x → W i sd m → g x sd m fun sd2 m2 => t { D' with nx := Fg (W (i + 1)), ct := Fg (W (i + 1)), bk := D'.nx } sd2 m2) (hd : ∀ sd m, W xs.length sd m → D'.nx sd m) :
    ∃ (N : Nat) (W : Nat → DS → M → Prop), W 0 sd m ∧ ∀ i sd m, W i sd m → i ≤ N ∧ ∃ o, jLst a i m o ∧ match o with
      | none => D'.nx sd m
      | some x => g x sd m fun sd2 m2 => t { D' with nx := Fg (W (i + 1)), ct := Fg (W (i + 1)), bk := D'.nx } sd2 m2 := by
  refine ⟨xs.length, fun i sd m => i ≤ xs.length ∧ (i ≤ xs.length → W i sd m), ⟨Nat.zero_le _, fun _ => h0⟩, ?_⟩
  rintro i sd m ⟨hi, w⟩
  refine ⟨hi, ?_⟩
  by_cases e : i < xs.length
  · refine ⟨some xs[i], ⟨xs, hl i sd m hi (w hi), (List.getElem?_eq_getElem e).symm⟩, ?_⟩
    have q := hs i xs[i] sd m (List.getElem?_eq_getElem e) (w hi)
    have eq : (fun (sd : DS) (m : M) => i + 1 ≤ xs.length ∧ (i + 1 ≤ xs.length → W (i + 1) sd m)) = W (i + 1) := by
      funext sd m
      exact propext ⟨fun z => z.2 z.1, fun z => ⟨e, fun _ => z⟩⟩
    show g xs[i] sd m fun sd2 m2 => t { D' with nx := Fg fun (sd : DS) (m : M) => i + 1 ≤ xs.length ∧ (i + 1 ≤ xs.length → W (i + 1) sd m), ct := Fg fun (sd : DS) (m : M) => i + 1 ≤ xs.length ∧ (i + 1 ≤ xs.length → W (i + 1) sd m), bk := D'.nx } sd2 m2
    rw [eq]
    exact q
  · have : i = xs.length := by omega
    subst this
    exact ⟨none, ⟨xs, hl _ sd m hi (w hi), (List.getElem?_eq_none (Nat.le_refl _)).symm⟩, hd sd m (w hi)⟩
end
/-- a range's end: what is asked of it -/
theorem s_r1 {j : Int} {Q : DIt → M → Prop} (h : -(2 ^ 62) ≤ j ∧ j < 2 ^ 62) (q : Q (jRng 0 j.toNat) m) : (match [D.int j] with | [.int j] => -(2 ^ 62) ≤ j ∧ j < 2 ^ 62 ∧ Q (jRng 0 j.toNat) m | _ => False) := ⟨h.1, h.2, q⟩
theorem i_r1 {t : TDA} {Q : DIt → M → Prop} (h : t sd m fun xs m1 => match xs with | [.int j] => -(2 ^ 62) ≤ j ∧ j < 2 ^ 62 ∧ Q (jRng 0 j.toNat) m1 | _ => False) : iR1 t sd m Q := h
theorem i_t {Q : DIt → M → Prop} (h : ta sd m fun x m1 => match x with | .tup xs => Q (jTup xs) m1 | _ => False) : iT ta sd m Q := h
theorem i_l {Q : DIt → M → Prop} (h : ta sd m fun x m1 => match x with | .rol xs => Q (jTup xs) m1 | .ref a => (∃ xs, m1 a = some (.lst xs)) ∧ Q (jLst a) m1 | _ => False) : iL ta sd m Q := h
theorem iteD {c A B : Prop} [Decidable c] (h1 : c → A) (h2 : ¬ c → B) : if decide c = true then A else B := by
  by_cases h : c
  · rw [if_pos (decide_eq_true h)]; exact h1 h
  · rw [if_neg (by rw [decide_eq_true_eq]; exact h)]; exact h2 h
theorem iteN {c A B : Prop} [Decidable c] (h1 : ¬ c → A) (h2 : c → B) : if (!decide c) = true then A else B := by
  by_cases h : c
  · rw [decide_eq_true h]; exact h2 h
  · rw [decide_eq_false h]; exact h1 h
theorem ite_t {A B : Prop} (h : A) : if true = true then A else B := h
theorem ite_f {A B : Prop} (h : B) : if false = true then A else B := h
theorem iteB {b : Bool} {A B : Prop} (h1 : b = true → A) (h2 : b = false → B) : if b = true then A else B := by
  cases b with
  | true => exact h1 rfl
  | false => exact h2 rfl
end
end Q4

set_option Elab.async false
set_option linter.all false
set_option maxRecDepth 100000
namespace Q4
open PySem L2
/-! ### loops, comprehensions: said without iterators -/
/-- over the items xs -/
def FT (xs : List D) (g : TDG) (tb : TDS) : TDS := fun D sd m => ∃ W : Nat → DS → M → Prop, W 0 sd m ∧
  (∀ i x sd m, xs[i]? = some x → W i sd m → g x sd m fun sd2 m2 => tb { D with nx := Fg (W (i + 1)), ct := Fg (W (i + 1)), bk := D.nx } sd2 m2) ∧ ∀ sd m, W xs.length sd m → D.nx sd m
/-- over the list at a, which stays -/
def FL (a : Addr) (xs : List D) (g : TDG) (tb : TDS) : TDS := fun D sd m => ∃ W : Nat → DS → M → Prop, W 0 sd m ∧ (∀ i sd m, i ≤ xs.length → W i sd m → m a = some (.lst xs)) ∧
  (∀ i x sd m, xs[i]? = some x → W i sd m → g x sd m fun sd2 m2 => tb { D with nx := Fg (W (i + 1)), ct := Fg (W (i + 1)), bk := D.nx } sd2 m2) ∧ ∀ sd m, W xs.length sd m → D.nx sd m
def FR (lo : Int) (n : Nat) (g : TDG) (tb : TDS) : TDS := fun D sd m => ∃ W : Nat → DS → M → Prop, W 0 sd m ∧
  (∀ (i : Nat) sd m, i < n → W i sd m → g (.int (lo + i)) sd m fun sd2 m2 => tb { D with nx := Fg (W (i + 1)), ct := Fg (W (i + 1)), bk := D.nx } sd2 m2) ∧ ∀ sd m, W n sd m → D.nx sd m
/-- range(n) -/
def FR0 (n : Nat) (g : TDG) (tb : TDS) : TDS := fun D sd m => ∃ W : Nat → DS → M → Prop, W 0 sd m ∧
  (∀ (i : Nat) sd m, i < n → W i sd m → g (.int i) sd m fun sd2 m2 => tb { D with nx := Fg (W (i + 1)), ct := Fg (W (i + 1)), bk := D.nx } sd2 m2) ∧ ∀ sd m, W n sd m → D.nx sd m
def dForR1 (t : TDA) (g : TDG) (tb : TDS) : TDS := fun D sd m => t sd m fun xs m1 => match xs with | [.int j] => (-(2 ^ 62) ≤ j ∧ j < 2 ^ 62) ∧ FR0 j.toNat g tb D sd m1 | _ => False
def dForR2 (t : TDA) (g : TDG) (tb : TDS) : TDS := fun D sd m => t sd m fun xs m1 => match xs with | [.int i, .int j] => (-(2 ^ 62) ≤ i ∧ i < 2 ^ 62 ∧ -(2 ^ 62) ≤ j ∧ j < 2 ^ 62) ∧ FR i (j - i).toNat g tb D sd m1 | _ => False
def dForT (t : TDE) (g : TDG) (tb : TDS) : TDS := fun D sd m => t sd m fun x m1 => match x with | .tup xs => FT xs g tb D sd m1 | _ => False
def dForL (t : TDE) (g : TDG) (tb : TDS) : TDS := fun D sd m => t sd m fun x m1 => match x with | .rol xs => FT xs g tb D sd m1 | .ref a => ∃ xs, m1 a = some (.lst xs) ∧ FL a xs g tb D sd m1 | _ => False
section
variable {X : Cx} {H0 : Hp} {tg : Expr} {body : List Stmt} {g : TDG} {tb : TDS} {pos : Pos} {vs : List Nat}
theorem qs_forR1 {a : Expr} {t : TDA} {p p2 : Pos} (hp : PassesOwn (model X.prog X.w) X.A X.env X.xe) (hc : X.calm = true) (hgl : Gl X "range") (hm : X.mg "range" = none) (ha : PA X [a] (lA X.K H0 t)) (hg : PG X tg (lG X.K H0 vs g)) (hb : PSs X body (lS X.K H0 tb))
    (hs : starEach [a] X.env = [(false, eval a X.env)] := by rfl) (hf : ∀ x, foldedSetIterable (.Call (.Name "range" p) [a] [] p2) X.env x = pure x := by intro _; rfl) : PS X (.For tg (.Call (.Name "range" p) [a] [] p2) body [] pos) (lS X.K H0 (dForR1 t g tb)) :=
  psL (ps_for hp hc (pi_range1 hgl hm ha hs) hg hb hf) fun D σ H h => by
    obtain ⟨sd, m, DD, a, p, q1, q2, q3, q4⟩ := h
    refine ⟨sd, m, _, a, p, fun d m' v H' k r rd p' => ?_⟩
    split at p'
    · obtain ⟨u, rfl, r1⟩ := rd.one_
      cases r1.int_
      obtain ⟨⟨h1, h2⟩, W, w0, ws, wd⟩ := p'
      exact ⟨_, rfl, h1, h2, for_core a.k k (a.s.mono k) r lift_rng q1 q2 (f_rng W w0 (fun i sd m hi w => by rw [Int.zero_add]; exact ws i sd m hi w) wd)⟩
    · exact p'.elim
theorem qs_forR2 {a b : Expr} {t : TDA} {p p2 : Pos} (hp : PassesOwn (model X.prog X.w) X.A X.env X.xe) (hc : X.calm = true) (hgl : Gl X "range") (hm : X.mg "range" = none) (ha : PA X [a, b] (lA X.K H0 t)) (hg : PG X tg (lG X.K H0 vs g)) (hb : PSs X body (lS X.K H0 tb))
    (hs : starEach [a, b] X.env = [(false, eval a X.env), (false, eval b X.env)] := by rfl) (hs2 : starEach [b] X.env = [(false, eval b X.env)] := by rfl) (hf : ∀ x, foldedSetIterable (.Call (.Name "range" p) [a, b] [] p2) X.env x = pure x := by intro _; rfl) : PS X (.For tg (.Call (.Name "range" p) [a, b] [] p2) body [] pos) (lS X.K H0 (dForR2 t g tb)) :=
  psL (ps_for hp hc (pi_range2 hgl hm ha hs hs2) hg hb hf) fun D σ H h => by
    obtain ⟨sd, m, DD, a, p, q1, q2, q3, q4⟩ := h
    refine ⟨sd, m, _, a, p, fun d m' v H' k r rd p' => ?_⟩
    split at p'
    · obtain ⟨u, w, rfl, r1, r2⟩ := rd.two_
      cases r1.int_
      cases r2.int_
      obtain ⟨h1, W, w0, ws, wd⟩ := p'
      exact ⟨_, _, rfl, h1, for_core a.k k (a.s.mono k) r lift_rng q1 q2 (f_rng W w0 ws wd)⟩
    · exact p'.elim
theorem qs_forT {l : Expr} {t : TDE} (hp : PassesOwn (model X.prog X.w) X.A X.env X.xe) (hc : X.calm = true) (hl : PE X l (lE X.K H0 t)) (hg : PG X tg (lG X.K H0 vs g)) (hb : PSs X body (lS X.K H0 tb)) (hf : ∀ x, foldedSetIterable l X.env x = pure x := by intro _; rfl) : PS X (.For tg l body [] pos) (lS X.K H0 (dForT t g tb)) :=
  psL (ps_for hp hc (pi_tup hl) hg hb hf) fun D σ H h => by
    obtain ⟨sd, m, DD, a, p, q1, q2, q3, q4⟩ := h
    refine ⟨sd, m, _, a, p, fun d m' v H' k r rd p' => ?_⟩
    cases d with
    | tup xs =>
      obtain ⟨b, ws, rfl, h1, h2⟩ := rd.tup_
      obtain ⟨W, w0, wst, wd⟩ := p'
      exact ⟨b, rfl, ⟨ws, h1⟩, for_core a.k k (a.s.mono k) r (lift_tup h1 h2) q1 q2 (f_tup W w0 wst wd)⟩
    | _ => exact p'.elim
theorem qs_forL {l : Expr} {t : TDE} (hp : PassesOwn (model X.prog X.w) X.A X.env X.xe) (hc : X.calm = true) (hl : PE X l (lE X.K H0 t)) (hg : PG X tg (lG X.K H0 vs g)) (hb : PSs X body (lS X.K H0 tb)) (hf : ∀ x, foldedSetIterable l X.env x = pure x := by intro _; rfl) : PS X (.For tg l body [] pos) (lS X.K H0 (dForL t g tb)) :=
  psL (ps_for hp hc (pi_list hl) hg hb hf) fun D σ H h => by
    obtain ⟨sd, m, DD, a, p, q1, q2, q3, q4⟩ := h
    refine ⟨sd, m, _, a, p, fun d m' v H' k r rd p' => ?_⟩
    cases d with
    | rol xs =>
      obtain ⟨b, ws, rfl, h1, h2⟩ := rd.rol_
      obtain ⟨W, w0, wst, wd⟩ := p'
      exact ⟨b, rfl, ⟨ws, h1.sq⟩, for_core a.k k (a.s.mono k) r (lift_rol h1 h2) q1 q2 (f_tup W w0 wst wd)⟩
    | ref b =>
      cases rd.ref_
      obtain ⟨xs, h, W, w0, wl, wst, wd⟩ := p'
      obtain ⟨ws, e1, r1⟩ := r _ _ h
      exact ⟨b, rfl, ⟨ws, .inl (.inl e1)⟩, for_core a.k k (a.s.mono k) r lift_lst q1 q2 (f_lst W w0 wl wst wd)⟩
    | _ => exact p'.elim
end
/-! ### comprehensions -/
/-- one turn: the item x, the list so far acc at p -/
def CTurn (g : TDG) (tt : TDT) (te : TDE) (vs : List Nat) (sd : DS) (p : Addr) (W' : List D → M → Prop) (x : D) (acc : List D) (m2 : M) : Prop :=
  g x (wipeD sd vs) (put m2 p (.lst acc)) fun sd2 m3 => tt sd2 m3 fun b m4 =>
    if b = true then te sd2 m4 fun y m5 => ∃ m6, Less (put m6 p (.lst acc)) m5 ∧ acc.length < sizeLine ∧ W' (acc ++ [y]) m6 else ∃ m6, Less (put m6 p (.lst acc)) m4 ∧ W' acc m6
def CT (xs : List D) (g : TDG) (tt : TDT) (te : TDE) (vs : List Nat) (sd : DS) (m1 : M) (P : DK) : Prop := ∀ p, m1 p = none → ∃ W : Nat → List D → M → Prop, W 0 [] m1 ∧
  (∀ i x acc m2, xs[i]? = some x → W i acc m2 → CTurn g tt te vs sd p (W (i + 1)) x acc m2) ∧ ∀ acc m2, W xs.length acc m2 → P (.ref p) (put m2 p (.lst acc))
def CL (a : Addr) (xs : List D) (g : TDG) (tt : TDT) (te : TDE) (vs : List Nat) (sd : DS) (m1 : M) (P : DK) : Prop := ∀ p, m1 p = none → ∃ W : Nat → List D → M → Prop, W 0 [] m1 ∧ (∀ i acc m2, i ≤ xs.length → W i acc m2 → m2 a = some (.lst xs)) ∧
  (∀ i x acc m2, xs[i]? = some x → W i acc m2 → CTurn g tt te vs sd p (W (i + 1)) x acc m2) ∧ ∀ acc m2, W xs.length acc m2 → P (.ref p) (put m2 p (.lst acc))
def CR0 (n : Nat) (g : TDG) (tt : TDT) (te : TDE) (vs : List Nat) (sd : DS) (m1 : M) (P : DK) : Prop := ∀ p, m1 p = none → ∃ W : Nat → List D → M → Prop, W 0 [] m1 ∧
  (∀ (i : Nat) acc m2, i < n → W i acc m2 → CTurn g tt te vs sd p (W (i + 1)) (.int i) acc m2) ∧ ∀ acc m2, W n acc m2 → P (.ref p) (put m2 p (.lst acc))
def CR (lo : Int) (n : Nat) (g : TDG) (tt : TDT) (te : TDE) (vs : List Nat) (sd : DS) (m1 : M) (P : DK) : Prop := ∀ p, m1 p = none → ∃ W : Nat → List D → M → Prop, W 0 [] m1 ∧
  (∀ (i : Nat) acc m2, i < n → W i acc m2 → CTurn g tt te vs sd p (W (i + 1)) (.int (lo + i)) acc m2) ∧ ∀ acc m2, W n acc m2 → P (.ref p) (put m2 p (.lst acc))
section
variable {g : TDG} {tt : TDT} {te : TDE} {vs : List Nat} {sd : DS} {m1 : M} {P : DK} {p : Addr}
theorem c_cut {n : Nat} {W : Nat → List D → M → Prop} {i : Nat} {x : D} {acc : List D} {m2 : M} (e : i + 1 ≤ n) (h : CTurn g tt te vs sd p (W (i + 1)) x acc m2) : CTurn g tt te vs sd p (fun acc m => i + 1 ≤ n ∧ (i + 1 ≤ n → W (i + 1) acc m)) x acc m2 := by
  have eq : (fun (acc : List D) (m : M) => i + 1 ≤ n ∧ (i + 1 ≤ n → W (i + 1) acc m)) = W (i + 1) := by
    funext acc m
    exact propext ⟨fun z => z.2 z.1, fun z => ⟨e, fun _ => z⟩⟩
  rw [eq]
  exact h
theorem c_tup {xs : List D} (h : ∃ W : Nat → List D → M → Prop, W 0 [] m1 ∧ (∀ i x acc m2, xs[i]? = some x → W i acc m2 → CTurn g tt te vs sd p (W (i + 1)) x acc m2) ∧ ∀ acc m2, W xs.length acc m2 → P (.ref p) (put m2 p (.lst acc))) :
    ∃ (N : Nat) (W : Nat → List D → M → Prop), W 0 [] m1 ∧ ∀ i acc m2, W i acc m2 → i ≤ N ∧ ∃ o, jTup xs i (put m2 p (.lst acc)) o ∧ match o with
      | none => P (.ref p) (put m2 p (.lst acc))
      | some x => CTurn g tt te vs sd p (W (i + 1)) x acc m2 := by
  obtain ⟨W, w0, ws, wd⟩ := h
  refine ⟨xs.length, fun i acc m => i ≤ xs.length ∧ (i ≤ xs.length → W i acc m), ⟨Nat.zero_le _, fun _ => w0⟩, ?_⟩
  rintro i acc m2 ⟨hi, w⟩
  refine ⟨hi, ?_⟩
  by_cases e : i < xs.length
  · exact ⟨some xs[i], (List.getElem?_eq_getElem e).symm, c_cut e (ws i xs[i] acc m2 (List.getElem?_eq_getElem e) (w hi))⟩
  · have : i = xs.length := by omega
    subst this
    exact ⟨none, (List.getElem?_eq_none (Nat.le_refl _)).symm, wd acc m2 (w hi)⟩
theorem c_lst {a : Addr} {xs : List D} (hap : a ≠ p) (h : ∃ W : Nat → List D → M → Prop, W 0 [] m1 ∧ (∀ i acc m2, i ≤ xs.length → W i acc m2 → m2 a = some (.lst xs)) ∧ (∀ i x acc m2, xs[i]? = some x → W i acc m2 → CTurn g tt te vs sd p (W (i + 1)) x acc m2) ∧ ∀ acc m2, W xs.length acc m2 → P (.ref p) (put m2 p (.lst acc))) :
    ∃ (N : Nat) (W : Nat → List D → M → Prop), W 0 [] m1 ∧ ∀ i acc m2, W i acc m2 → i ≤ N ∧ ∃ o, jLst a i (put m2 p (.lst acc)) o ∧ match o with
      | none => P (.ref p) (put m2 p (.lst acc))
      | some x => CTurn g tt te vs sd p (W (i + 1)) x acc m2 := by
  obtain ⟨W, w0, wl, ws, wd⟩ := h
  refine ⟨xs.length, fun i acc m => i ≤ xs.length ∧ (i ≤ xs.length → W i acc m), ⟨Nat.zero_le _, fun _ => w0⟩, ?_⟩
  rintro i acc m2 ⟨hi, w⟩
  refine ⟨hi, ?_⟩
  have hl : put m2 p (.lst acc) a = some (.lst xs) := (put_ne hap).trans (wl i acc m2 hi (w hi))
  by_cases e : i < xs.length
  · exact ⟨some xs[i], ⟨xs, hl, (List.getElem?_eq_getElem e).symm⟩, c_cut e (ws i xs[i] acc m2 (List.getElem?_eq_getElem e) (w hi))⟩
  · have : i = xs.length := by omega
    subst this
    exact ⟨none, ⟨xs, hl, (List.getElem?_eq_none (Nat.le_refl _)).symm⟩, wd acc m2 (w hi)⟩
theorem c_rng {lo : Int} {n : Nat} (h : ∃ W : Nat → List D → M → Prop, W 0 [] m1 ∧ (∀ (i : Nat) acc m2, i < n → W i acc m2 → CTurn g tt te vs sd p (W (i + 1)) (.int (lo + i)) acc m2) ∧ ∀ acc m2, W n acc m2 → P (.ref p) (put m2 p (.lst acc))) :
    ∃ (N : Nat) (W : Nat → List D → M → Prop), W 0 [] m1 ∧ ∀ i acc m2, W i acc m2 → i ≤ N ∧ ∃ o, jRng lo n i (put m2 p (.lst acc)) o ∧ match o with
      | none => P (.ref p) (put m2 p (.lst acc))
      | some x => CTurn g tt te vs sd p (W (i + 1)) x acc m2 := by
  obtain ⟨W, w0, ws, wd⟩ := h
  refine ⟨n, fun i acc m => i ≤ n ∧ (i ≤ n → W i acc m), ⟨Nat.zero_le _, fun _ => w0⟩, ?_⟩
  rintro i acc m2 ⟨hi, w⟩
  refine ⟨hi, ?_⟩
  by_cases e : i < n
  · exact ⟨some (.int (lo + i)), (if_pos e).symm, c_cut e (ws i acc m2 e (w hi))⟩
  · have : i = n := by omega
    subst this
    exact ⟨none, (if_neg e).symm, wd acc m2 (w hi)⟩
end
def dLcT (t : TDE) (g : TDG) (tt : TDT) (te : TDE) (vs : List Nat) : TDE := fun sd m P => t sd m fun x m1 => match x with | .tup xs => CT xs g tt te vs sd m1 P | _ => False
def dLcL (t : TDE) (g : TDG) (tt : TDT) (te : TDE) (vs : List Nat) : TDE := fun sd m P => t sd m fun x m1 => match x with | .rol xs => CT xs g tt te vs sd m1 P | .ref a => ∃ xs, m1 a = some (.lst xs) ∧ CL a xs g tt te vs sd m1 P | _ => False
def dLcR1 (t : TDA) (g : TDG) (tt : TDT) (te : TDE) (vs : List Nat) : TDE := fun sd m P => t sd m fun xs m1 => match xs with | [.int j] => (-(2 ^ 62) ≤ j ∧ j < 2 ^ 62) ∧ CR0 j.toNat g tt te vs sd m1 P | _ => False
section
variable {X : Cx} {H0 : Hp} {K : PySem.W.Frag} {g : TDG} {tt : TDT} {te : TDE} {vs : List Nat} {σ : St} {H : Hp} {Q : VK}
theorem l_lcT {t : TDE} (h : lE K H0 (dLcT t g tt te vs) σ H Q) : tLc (iTup K (lE K H0 t)) (lG K H0 vs g) (lT K H0 tt) (lE K H0 te) vs σ H Q := by
  obtain ⟨sd, m, P, a, p, q⟩ := h
  refine ⟨sd, m, _, a, p, fun d m' v H' k r rd p' => ?_⟩
  cases d with
  | tup xs =>
    obtain ⟨b, ws, rfl, h1, h2⟩ := rd.tup_
    exact ⟨b, rfl, ⟨ws, h1⟩, fun D hD => lc_core a.k k a.s r (lift_tup h1 h2) q hD (c_tup (p' D (r.free hD)))⟩
  | _ => exact p'.elim
theorem l_lcL {t : TDE} (h : lE K H0 (dLcL t g tt te vs) σ H Q) : tLc (iList K (lE K H0 t)) (lG K H0 vs g) (lT K H0 tt) (lE K H0 te) vs σ H Q := by
  obtain ⟨sd, m, P, a, p, q⟩ := h
  refine ⟨sd, m, _, a, p, fun d m' v H' k r rd p' => ?_⟩
  cases d with
  | rol xs =>
    obtain ⟨b, ws, rfl, h1, h2⟩ := rd.rol_
    exact ⟨b, rfl, ⟨ws, h1.sq⟩, fun D hD => lc_core a.k k a.s r (lift_rol h1 h2) q hD (c_tup (p' D (r.free hD)))⟩
  | ref b =>
    cases rd.ref_
    obtain ⟨xs, h, p'⟩ := p'
    obtain ⟨ws, e1, r1⟩ := r _ _ h
    refine ⟨b, rfl, ⟨ws, .inl (.inl e1)⟩, fun D hD => lc_core a.k k a.s r lift_lst q hD (c_lst ?_ (p' D (r.free hD)))⟩
    intro e
    subst e
    rw [r.free hD] at h
    cases h
  | _ => exact p'.elim
theorem l_lcR1 {t : TDA} (h : lE K H0 (dLcR1 t g tt te vs) σ H Q) : tLc (iRng1 (lA K H0 t)) (lG K H0 vs g) (lT K H0 tt) (lE K H0 te) vs σ H Q := by
  obtain ⟨sd, m, P, a, p, q⟩ := h
  refine ⟨sd, m, _, a, p, fun d m' v H' k r rd p' => ?_⟩
  split at p'
  · obtain ⟨u, rfl, r1⟩ := rd.one_
    cases r1.int_
    obtain ⟨⟨h1, h2⟩, p'⟩ := p'
    exact ⟨_, rfl, h1, h2, fun D hD => lc_core a.k k a.s r lift_rng q hD (c_rng (by
      obtain ⟨W, w0, ws, wd⟩ := p' D (r.free hD)
      exact ⟨W, w0, fun i acc m2 hi w => by rw [Int.zero_add]; exact ws i acc m2 hi w, wd⟩))⟩
  · exact p'.elim
/-- a comprehension as a value: its source's rule hi, its reading l -/
theorem qe_lcX {elt tg iter : Expr} {ifs : List Expr} {scope : Scope} {own : List (Str × Nat)} {pos : Pos} {wi : TI} {t' : TDE} (hc : X.calm = true) (hN : X.N.Nodup) (hi : PI X tg iter wi) (ok : BlkOk X.N X.env.scope scope own)
    (hg : ∀ (s : Shared) (H : Hp) (C : Addr) (cl : List (Str × Addr)) (fp : List Addr), PG (X.blk s H scope (compEnvC scope cl C X.env) fp) tg (lG X.K H0 (own.map (·.2)) g)) (ht : ∀ (s : Shared) (H : Hp) (C : Addr) (cl : List (Str × Addr)) (fp : List Addr), PTs (X.blk s H scope (compEnvC scope cl C X.env) fp) ifs (lT X.K H0 tt))
    (he : ∀ (s : Shared) (H : Hp) (C : Addr) (cl : List (Str × Addr)) (fp : List Addr), PE (X.blk s H scope (compEnvC scope cl C X.env) fp) elt (lE X.K H0 te)) (l : ∀ σ H Q, lE X.K H0 t' σ H Q → tLc wi (lG X.K H0 (own.map (·.2)) g) (lT X.K H0 tt) (lE X.K H0 te) (own.map (·.2)) σ H Q) (hs : ∀ x, foldedSetIterable iter X.env x = pure x := by intro _; rfl) :
    PE X (.ListComp elt [⟨tg, iter, ifs, 0⟩] scope pos) (lE X.K H0 t') := peL (pe_lc hc hN hi ok hg ht he hs) l
theorem qs_lcX {i : Nat} {y : Str} {py : Pos} {elt tg iter : Expr} {ifs : List Expr} {scope : Scope} {own : List (Str × Nat)} {pos spos : Pos} {wi : TI} {t' : TDE} (hc : X.calm = true) (hN : X.N.Nodup) (hy : X.N[i]? = some y) (hyl : X.env.scope.names.lookup y = some .local)
    (hsw : swapsWith (.ListComp elt [⟨tg, iter, ifs, 0⟩] scope pos) (some (.Name y py)) spos.line X.env = pure true) (hi : PI X tg iter wi) (ok : BlkOk X.N X.env.scope scope own)
    (hg : ∀ (s : Shared) (H : Hp) (C : Addr) (cl : List (Str × Addr)) (fp : List Addr), PG (X.blk s H scope (compEnvC scope cl C X.env) fp) tg (lG X.K H0 (own.map (·.2)) g)) (ht : ∀ (s : Shared) (H : Hp) (C : Addr) (cl : List (Str × Addr)) (fp : List Addr), PTs (X.blk s H scope (compEnvC scope cl C X.env) fp) ifs (lT X.K H0 tt))
    (he : ∀ (s : Shared) (H : Hp) (C : Addr) (cl : List (Str × Addr)) (fp : List Addr), PE (X.blk s H scope (compEnvC scope cl C X.env) fp) elt (lE X.K H0 te)) (l : ∀ σ H Q, lE X.K H0 t' σ H Q → tLc wi (lG X.K H0 (own.map (·.2)) g) (lT X.K H0 tt) (lE X.K H0 te) (own.map (·.2)) σ H Q) (hs : ∀ x, foldedSetIterable iter X.env x = pure x := by intro _; rfl) :
    PS X (.Assign [.Name y py] (.ListComp elt [⟨tg, iter, ifs, 0⟩] scope pos) spos) (lS X.K H0 (dAsg t' (dName i))) := psL (ps_setLc hc hN hy hyl hsw hi ok hg ht he hs) fun D σ H h => by
  obtain ⟨sd, m, DD, a, p, q⟩ := h
  exact l σ H _ ⟨sd, m, _, a, p, fun d m' v H' k r rd p' => q.1 _ m' _ H' k ((a.s.mono k).set i rd) r p'⟩
end
/-! ### steps -/
section
variable {sd : DS} {m : M} {D' : DEnds} {t u : TDS} {g : TDG} {ta : TDE} {tl : TDA} {P : DK} {tt : TDT} {te : TDE} {vs : List Nat}
theorem s_forR1 (h : tl sd m fun xs m1 => match xs with | [.int j] => (-(2 ^ 62) ≤ j ∧ j < 2 ^ 62) ∧ FR0 j.toNat g t D' sd m1 | _ => False) : dForR1 tl g t D' sd m := h
theorem s_forR2 (h : tl sd m fun xs m1 => match xs with | [.int i, .int j] => (-(2 ^ 62) ≤ i ∧ i < 2 ^ 62 ∧ -(2 ^ 62) ≤ j ∧ j < 2 ^ 62) ∧ FR i (j - i).toNat g t D' sd m1 | _ => False) : dForR2 tl g t D' sd m := h
theorem s_forT (h : ta sd m fun x m1 => match x with | .tup xs => FT xs g t D' sd m1 | _ => False) : dForT ta g t D' sd m := h
theorem s_forL (h : ta sd m fun x m1 => match x with | .rol xs => FT xs g t D' sd m1 | .ref a => ∃ xs, m1 a = some (.lst xs) ∧ FL a xs g t D' sd m1 | _ => False) : dForL ta g t D' sd m := h
theorem r_FL {a : Addr} {xs : List D} (h : m a = some (.lst xs)) (q : FL a xs g t D' sd m) : ∃ xs, m a = some (.lst xs) ∧ FL a xs g t D' sd m := ⟨xs, h, q⟩
theorem s_lcT (h : ta sd m fun x m1 => match x with | .tup xs => CT xs g tt te vs sd m1 P | _ => False) : dLcT ta g tt te vs sd m P := h
theorem s_lcL (h : ta sd m fun x m1 => match x with | .rol xs => CT xs g tt te vs sd m1 P | .ref a => ∃ xs, m1 a = some (.lst xs) ∧ CL a xs g tt te vs sd m1 P | _ => False) : dLcL ta g tt te vs sd m P := h
theorem s_lcR1 (h : tl sd m fun xs m1 => match xs with | [.int j] => (-(2 ^ 62) ≤ j ∧ j < 2 ^ 62) ∧ CR0 j.toNat g tt te vs sd m1 P | _ => False) : dLcR1 tl g tt te vs sd m P := h
theorem r_CL {a : Addr} {xs : List D} (h : m a = some (.lst xs)) (q : CL a xs g tt te vs sd m P) : ∃ xs, m a = some (.lst xs) ∧ CL a xs g tt te vs sd m P := ⟨xs, h, q⟩
end
end Q4

set_option Elab.async false
set_option linter.all false
set_option maxRecDepth 100000
namespace Q4
open PySem L2
/-! ### what is walked may be a list or a tuple -/
def iSq (K : PySem.W.Frag) (te : TE) : TI := fun σ H R => te σ H fun x G => ∃ b, x = .ref b ∧ (((∃ ys, SqL K G b ys) ∧ R (Itl K b) G) ∨ ((∃ ys, SqT K G b ys) ∧ R (Itt K b) G))
theorem pi_sq {X : Cx} {tg src : Expr} {te : TE} (hsrc : PE X src te) : PI X tg src (iSq X.K te) := by
  constructor
  intro pins st σ H R I hw
  refine thn (hsrc.run pins st σ H _ I hw) ?_
  rintro u st1 ⟨x, G, J, rv, b, ex, hq⟩
  subst ex
  cases rv
  have fresh : ∀ c ∈ [st1.heap.objs.size], FpOk X pins G c := by
    intro c hc
    rw [List.mem_singleton] at hc
    rw [hc]
    exact J.fpOk (Nat.le_refl _) (J.hok.fresh (Nat.le_refl _))
  rcases hq with ⟨⟨ys, h1⟩, q⟩ | ⟨⟨ys, h1⟩, q⟩
  · obtain ⟨its, _, pl, _⟩ := J.list h1
    refine wpAny_pyIter_list pl.isList ?_
    exact ⟨_, [_], _, _, G, rfl, J.kept (t' := st1.toks) (fun _ _ e => Heap.get?_push_of_some _ e), turn_list b _,
      ⟨_, Heap.get?_push_size _ rfl, rfl, rfl⟩, fresh, q⟩
  · obtain ⟨its, _, pl, _⟩ := J.tuple h1
    refine wpAny_pyIter_tuple (show st1.heap.IsTuple b its.toArray from pl) ?_
    exact ⟨_, [_], _, _, G, rfl, J.kept (t' := st1.toks) (fun _ _ e => Heap.get?_push_of_some _ e), turn_tuple b _,
      ⟨_, Heap.get?_push_size _ rfl, rfl, rfl⟩, fresh, q⟩
def FS (x : D) (g : TDG) (tb : TDS) : TDS := fun D sd m => match x with
  | .tup xs => FT xs g tb D sd m
  | .rol xs => FT xs g tb D sd m
  | .ref a => ∃ xs, m a = some (.lst xs) ∧ FL a xs g tb D sd m
  | _ => False
def dForS (t : TDE) (g : TDG) (tb : TDS) : TDS := fun D sd m => t sd m fun x m1 => FS x g tb D sd m1
def CS (x : D) (g : TDG) (tt : TDT) (te : TDE) (vs : List Nat) (sd : DS) (m1 : M) (P : DK) : Prop := match x with
  | .tup xs => CT xs g tt te vs sd m1 P
  | .rol xs => CT xs g tt te vs sd m1 P
  | .ref a => ∃ xs, m1 a = some (.lst xs) ∧ CL a xs g tt te vs sd m1 P
  | _ => False
def dLcS (t : TDE) (g : TDG) (tt : TDT) (te : TDE) (vs : List Nat) : TDE := fun sd m P => t sd m fun x m1 => CS x g tt te vs sd m1 P
section
variable {X : Cx} {H0 : Hp} {tg : Expr} {body : List Stmt} {g : TDG} {tb : TDS} {pos : Pos} {vs : List Nat} {K : PySem.W.Frag} {tt : TDT} {te : TDE} {σ : St} {H : Hp} {Q : VK}
theorem qs_forS {l : Expr} {t : TDE} (hp : PassesOwn (model X.prog X.w) X.A X.env X.xe) (hc : X.calm = true) (hl : PE X l (lE X.K H0 t)) (hg : PG X tg (lG X.K H0 vs g)) (hb : PSs X body (lS X.K H0 tb)) (hf : ∀ x, foldedSetIterable l X.env x = pure x := by intro _; rfl) : PS X (.For tg l body [] pos) (lS X.K H0 (dForS t g tb)) :=
  psL (ps_for hp hc (pi_sq hl) hg hb hf) fun D σ H h => by
    obtain ⟨sd, m, DD, a, p, q1, q2, q3, q4⟩ := h
    refine ⟨sd, m, _, a, p, fun d m' v H' k r rd p' => ?_⟩
    cases d with
    | tup xs =>
      obtain ⟨b, ws, rfl, h1, h2⟩ := rd.tup_
      obtain ⟨W, w0, wst, wd⟩ := p'
      exact ⟨b, rfl, .inr ⟨⟨ws, h1⟩, for_core a.k k (a.s.mono k) r (lift_tup h1 h2) q1 q2 (f_tup W w0 wst wd)⟩⟩
    | rol xs =>
      obtain ⟨b, ws, rfl, h1, h2⟩ := rd.rol_
      obtain ⟨W, w0, wst, wd⟩ := p'
      exact ⟨b, rfl, .inl ⟨⟨ws, h1.sq⟩, for_core a.k k (a.s.mono k) r (lift_rol h1 h2) q1 q2 (f_tup W w0 wst wd)⟩⟩
    | ref b =>
      cases rd.ref_
      obtain ⟨xs, h, W, w0, wl, wst, wd⟩ := p'
      obtain ⟨ws, e1, r1⟩ := r _ _ h
      exact ⟨b, rfl, .inl ⟨⟨ws, .inl (.inl e1)⟩, for_core a.k k (a.s.mono k) r lift_lst q1 q2 (f_lst W w0 wl wst wd)⟩⟩
    | _ => exact p'.elim
theorem l_lcS {t : TDE} (h : lE K H0 (dLcS t g tt te vs) σ H Q) : tLc (iSq K (lE K H0 t)) (lG K H0 vs g) (lT K H0 tt) (lE K H0 te) vs σ H Q := by
  obtain ⟨sd, m, P, a, p, q⟩ := h
  refine ⟨sd, m, _, a, p, fun d m' v H' k r rd p' => ?_⟩
  cases d with
  | tup xs =>
    obtain ⟨b, ws, rfl, h1, h2⟩ := rd.tup_
    exact ⟨b, rfl, .inr ⟨⟨ws, h1⟩, fun D hD => lc_core a.k k a.s r (lift_tup h1 h2) q hD (c_tup (p' D (r.free hD)))⟩⟩
  | rol xs =>
    obtain ⟨b, ws, rfl, h1, h2⟩ := rd.rol_
    exact ⟨b, rfl, .inl ⟨⟨ws, h1.sq⟩, fun D hD => lc_core a.k k a.s r (lift_rol h1 h2) q hD (c_tup (p' D (r.free hD)))⟩⟩
  | ref b =>
    cases rd.ref_
    obtain ⟨xs, h, p'⟩ := p'
    obtain ⟨ws, e1, r1⟩ := r _ _ h
    refine ⟨b, rfl, .inl ⟨⟨ws, .inl (.inl e1)⟩, fun D hD => lc_core a.k k a.s r lift_lst q hD (c_lst ?_ (p' D (r.free hD)))⟩⟩
    intro e
    subst e
    rw [r.free hD] at h
    cases h
  | _ => exact p'.elim
end
section
variable {sd : DS} {m : M} {D' : DEnds} {t u : TDS} {g : TDG} {ta : TDE} {tl : TDA} {P : DK} {tt : TDT} {te : TDE} {vs : List Nat} {xs : List D} {a : Addr}
theorem s_forS (h : ta sd m fun x m1 => FS x g t D' sd m1) : dForS ta g t D' sd m := h
theorem r_FST (q : FT xs g t D' sd m) : FS (.tup xs) g t D' sd m := q
theorem r_FSR (q : FT xs g t D' sd m) : FS (.rol xs) g t D' sd m := q
theorem r_FSL (h : m a = some (.lst xs)) (q : FL a xs g t D' sd m) : FS (.ref a) g t D' sd m := ⟨xs, h, q⟩
theorem s_lcS (h : ta sd m fun x m1 => CS x g tt te vs sd m1 P) : dLcS ta g tt te vs sd m P := h
theorem r_CST (q : CT xs g tt te vs sd m P) : CS (.tup xs) g tt te vs sd m P := q
theorem r_CSR (q : CT xs g tt te vs sd m P) : CS (.rol xs) g tt te vs sd m P := q
theorem r_CSL (h : m a = some (.lst xs)) (q : CL a xs g tt te vs sd m P) : CS (.ref a) g tt te vs sd m P := ⟨xs, h, q⟩
end
end Q4

set_option Elab.async false
set_option linter.all false
set_option maxRecDepth 100000
namespace Q4
open PySem L2
open PyProof.Rows (envOfC)
theorem neA {m : M} {a p : Addr} {o : DO} (h : m a = some o) (h' : m p = none) : a ≠ p := fun e => by subst e; rw [h] at h'; cases h'
theorem put_none {m : M} {a p : Addr} {o : DO} : put m a o p = none ↔ p ≠ a ∧ m p = none := by
  constructor
  · intro h
    by_cases e : p = a
    · subst e; rw [put_same] at h; cases h
    · rw [put_ne e] at h; exact ⟨e, h⟩
  · rintro ⟨e, h⟩
    rw [put_ne e]; exact h
/-! ### defs by name -/
structure FunAt (K : PySem.W.Frag) (mg : Str → Option Value) (x : Str) (st : Stmt) (ps : List Str) : Prop where
  ex : ∃ f fd, Fun K x x st f fd ∧ mg x = some (.ref f) ∧ ∀ us : List Value, us.length = ps.length → bindArgs fd ⟨us, []⟩ = pure (ps.zip us)
structure Callee (P : Program) (w : World) (K : PySem.W.Frag) (mg : Str → Option Value) (k : Nat) (x : Str) (ps : List Str) (d : DSp) : Prop where
  ex : ∃ f fd, mg x = some (.ref f) ∧ PySem.W.keepIn K (.ref f) = true ∧ (∀ us : List Value, us.length = ps.length → bindArgs fd ⟨us, []⟩ = pure (ps.zip us)) ∧ ∀ base, FnOk P w K mg base CX0 k f fd ps (lSp K d)
section
variable {P : Program} {w : World} {K : PySem.W.Frag} {mg : Str → Option Value} {x : Str} {st : Stmt} {ps N : List Str} {d d' : DSp} {k j : Nat}
theorem Callee.mono (C : Callee P w K mg j x ps d) (h : j ≤ k) : Callee P w K mg k x ps d := by
  obtain ⟨f, fd, a, b, c, e⟩ := C.ex
  exact ⟨f, fd, a, b, c, fun base => (e base).mono h⟩
theorem Callee.imp (C : Callee P w K mg k x ps d) (h : ∀ ds m P EX, d' ds m P EX → d ds m P EX) : Callee P w K mg k x ps d' := by
  obtain ⟨f, fd, a, b, c, e⟩ := C.ex
  refine ⟨f, fd, a, b, c, fun base => (e base).imp fun vs H Q E q => ?_⟩
  obtain ⟨ds, m, P, EX, r, rm, q, q2⟩ := q
  exact ⟨ds, m, P, EX, r, rm, h _ _ _ _ q, q2⟩
/-- what nobody can ask is kept by every def -/
theorem FunAt.none (F : FunAt K mg x st ps) (h : ∀ ds m P EX, ¬ d ds m P EX) : Callee P w K mg k x ps d := by
  obtain ⟨f, fd, F1, a, c⟩ := F.ex
  have no : ∀ vs H Q E, ¬ lSp K d vs H Q E := fun vs H Q E q => by
    obtain ⟨ds, m, P, EX, _, _, q, _⟩ := q
    exact h _ _ _ _ q
  exact ⟨f, fd, a, F1.kp, c, fun base => ⟨fun vs H Q E q => absurd q (no vs H Q E), fun A outer s H args us vs Q E _ _ _ _ q => absurd q (no vs H Q E)⟩⟩
theorem FunAt.callee (F : FunAt K mg x st ps) (S : FnScope N ps (defScope st)) (len : ∀ ds m P EX, d ds m P EX → ds.length = ps.length)
    (t : TDS) (hread : ∀ ds m P EX, d ds m P EX → t { nx := fun _ m' => Ret P .non m', rt := Ret P } (dstart N ds) m)
    (hbody : ∀ (base : Heap) (f : Addr) (cdv : Value) (A : Around) (outer : List Env) (s : Shared) (H : Hp) (E : XK), Room k (A.deeper (envOfC x (defScope st) s.heap.objs.size f cdv)) → PSs (cxOf CX0 P w K mg base N x (defScope st) f cdv A outer s H E).nox (defBody st) (lS K H t)) :
    Callee P w K mg (k + 1) x ps d := by
  obtain ⟨f, fd, F1, a, c⟩ := F.ex
  exact ⟨f, fd, a, F1.kp, c, fun base => Fun.okD F1 S len t hread (hbody base f)⟩
end
section
variable {X : Cx} {H0 : Hp}
theorem qe_fn {k : Nat} {ps : List Str} {d : DSp} {x : Str} {p pos : Pos} {e : Expr} {es : List Expr} {t : TDA} (C : Callee X.prog X.w X.K X.mg k x ps d) (hr : Room k X.A) (hg : Gl X x)
    (ha : PA X (e :: es) (lA X.K H0 t)) (hdb : (x == ("__debug__" : Str)) = false := by decide) (he : starEach (e :: es) X.env = (false, eval e X.env) :: starEach es X.env := by rfl) (hpl : (backTo pos (starEach es X.env)).any (·.1) = false := by rfl) :
    PE X (.Call (.Name x p) (e :: es) [] pos) (lE X.K H0 (dCall d t)) := by
  obtain ⟨f, fd, a, b, c, F⟩ := C.ex
  exact qe_call (F X.base) hr hg a b (.all c) (E := E0) pass0 ha hdb he hpl
theorem qe_fn0 {k : Nat} {ps : List Str} {d : DSp} {x : Str} {p pos : Pos} (C : Callee X.prog X.w X.K X.mg k x ps d) (hr : Room k X.A) (hg : Gl X x)
    (hdb : (x == ("__debug__" : Str)) = false := by decide) : PE X (.Call (.Name x p) [] [] pos) (lE X.K H0 (dCall d dNil)) := by
  obtain ⟨f, fd, a, b, c, F⟩ := C.ex
  exact qe_call0 (F X.base) hr hg a b (.all c) (E := E0) pass0 hdb
structure ConstAt (K : PySem.W.Frag) (mg : Str → Option Value) (x : Str) (d : D) : Prop where
  ex : ∃ v u, mg x = some u ∧ RelV v u ∧ ∀ H, RD K H d v
theorem qe_const {x : Str} {d : D} {pos : Pos} (C : ConstAt X.K X.mg x d) (hg : Gl X x) (hd : (x == ("__debug__" : Str)) = false := by decide) : PE X (.Name x pos) (lE X.K H0 (dC d)) := by
  obtain ⟨v, u, h1, h2, h3⟩ := C.ex
  exact qe_glob hg h1 h2 h3 hd
/-- a built-in class as a value -/
theorem qe_type {x : Str} {T : String} {pos : Pos} (hg : Gl X x) (hm : X.mg x = none) (hv : bootBuiltins x = some (.type T)) (hn : x ≠ "__name__" := by decide) (hd : (x == ("__debug__" : Str)) = false := by decide) : PE X (.Name x pos) (lE X.K H0 (dC (.ty T))) :=
  qe_bltn (v := .ty T) hg hm hv rfl (fun _ => .ty T) hn hd
theorem od_in : OpD X (compareOp .In) (fun x y m P => (∃ xs, (y = .tup xs ∨ isL m y xs) ∧ (∃ z : Str, x = .str z ∧ ∃ ys : List Str, xs = ys.map D.str ∧ P (.bl (decide (z ∈ ys))) m)) ∨ ∃ c z, x = .str ⟨#[c]⟩ ∧ y = .str z ∧ P (.bl (decide (c ∈ z.cps.toList))) m) := by
  have h1 : OpD X (compareOp .In) (fun x y m P => ∃ xs, (y = .tup xs ∨ isL m y xs) ∧ (∃ z : Str, x = .str z ∧ ∃ ys : List Str, xs = ys.map D.str ∧ P (.bl (decide (z ∈ ys))) m)) := by
    refine ⟨_, op_in_seq, fun H m x y u v P Q rm rx ry p q => ?_⟩
    obtain ⟨xs, hy, z, rfl, ys, rfl, p⟩ := p
    cases rx.str_
    have fin : ∀ ys : List Str, (ys.map V.str).all flatV = true := by
      intro ys
      induction ys with
      | nil => rfl
      | cons a r ih => rw [List.map_cons, List.all_cons, ih]; rfl
    have eqq : ∀ ys : List Str, inV (.str z) (ys.map V.str) = decide (z ∈ ys) := by
      intro ys
      unfold inV
      induction ys with
      | nil => simp
      | cons a r ih =>
        rw [List.map_cons, List.any_cons, ih]
        show (a == z || decide (z ∈ r)) = _
        by_cases e : a = z
        · subst e; simp
        · have : (a == z) = false := by simpa using e
          rw [this]
          simp [Ne.symm e]
    have : ∃ p', v = .ref p' ∧ (SqL X.K H p' (ys.map V.str) ∨ SqT X.K H p' (ys.map V.str)) := by
      rcases hy with rfl | hy
      · obtain ⟨a, vs, rfl, h1, h2⟩ := ry.tup_
        cases rds_strs h2
        exact ⟨a, rfl, .inr h1⟩
      · obtain ⟨a, vs, rfl, h1, h2⟩ := rm.list ry hy
        cases rds_strs h2
        exact ⟨a, rfl, .inl h1⟩
    obtain ⟨p', rfl, h⟩ := this
    refine ⟨p', _, rfl, h, rfl, fin ys, ?_⟩
    show Q (.bl (if false = true then !inV (.str z) (ys.map V.str) else inV (.str z) (ys.map V.str))) H
    rw [if_neg Bool.false_ne_true, eqq]
    exact q _ m _ H (Keep.refl _) rm (.bl _) p
  have h2 : OpD X (compareOp .In) (fun x y m P => ∃ c z, x = .str ⟨#[c]⟩ ∧ y = .str z ∧ P (.bl (decide (c ∈ z.cps.toList))) m) := by
    refine ⟨_, op_in_sign, fun H m x y u v P Q rm rx ry p q => ?_⟩
    obtain ⟨c, z, rfl, rfl, p⟩ := p
    cases rx.str_
    cases ry.str_
    exact ⟨c, z, rfl, rfl, q _ m _ H (Keep.refl _) rm (.bl _) p⟩
  exact (h1.or h2)
def rInD : R2D := fun x y m P => (∃ xs, (y = .tup xs ∨ isL m y xs) ∧ (∃ z : Str, x = .str z ∧ ∃ ys : List Str, xs = ys.map D.str ∧ P (.bl (decide (z ∈ ys))) m)) ∨ ∃ c z, x = .str ⟨#[c]⟩ ∧ y = .str z ∧ P (.bl (decide (c ∈ z.cps.toList))) m
theorem od_inD : OpD X (compareOp .In) rInD := od_in
end
def sp_law : DSp := fun ds m P _ => ∃ ns : List Int, ds = [.rol (ns.map D.int)] ∧ ns.length ≤ 63 ∧ m = (fun _ => none) ∧ ∀ m', P (.bl true) m'
theorem law_end {P : Program} {w : World} {K : PySem.W.Frag} {mg : Str → Option Value} {k : Nat} {fa : Addr} (C : Callee P w K mg k "law" ["script"] sp_law) (hm : mg "law" = some (.ref fa)) :
    ∃ fd : FuncData, (∀ (s : Shared) (v : Value), BindsTo s fd ⟨[v], []⟩ [("script", v)]) ∧ ∀ base : Heap, K.In base → base.Ns mainGlobals mg → FnOk P w K mg base CX0 k fa fd ["script"] (lSp K sp_law) := by
  obtain ⟨f, fd, a, b, c, F⟩ := C.ex
  rw [hm] at a
  cases a
  exact ⟨fd, fun s v => .of_eq (c [v] rfl), fun base _ _ => F base⟩
theorem law_ask {K : PySem.W.Frag} {H : Hp} {a : Addr} {ns : List Int} (hl : ns.length ≤ 63) (ho : Only H) (hS : SqL K H a (ns.map V.int)) : lSp K sp_law [.ref a] H (fun v _ => v = .bl true) fun _ _ _ => False := by
  have hf : FrzL K H a (ns.map V.int) := by
    rcases hS with (h | ⟨o, h⟩) | h
    · rcases ho a with q | ⟨o, xs, q⟩
      · rw [h] at q; cases q
      · rw [h] at q; cases q
    · exact .inl ⟨o, h⟩
    · exact .inr h
  have rd : ∀ ns : List Int, RDs K H (ns.map D.int) (ns.map V.int) := by
    intro ns
    induction ns with
    | nil => exact .nil
    | cons n r ih => exact .cons (.int n) ih
  refine ⟨[.rol (ns.map D.int)], fun _ => none, fun d _ => d = .bl true, noX, .cons (.rol hf (rd ns)) .nil, (fun a o e => by cases e), ⟨ns, rfl, hl, rfl, fun _ => rfl⟩, ?_, wantsX0⟩
  rintro d m' v H' k r rd' rfl
  exact rd'.bl_
theorem FunAt.of {K : PySem.W.Frag} {h : Heap} {mg : Str → Option Value} {x : Str} {st : Stmt} {ps : List Str} {f : Addr} {oc kV doc pm cdv ct : Value} {od an : Option Addr} {osl : Array (Option Value)} (X : K.In h) (G : h.Ns mainGlobals mg)
    (a1 : PySem.W.nsIn K mainGlobals x = some (some (.ref f))) (l1 : K.lookup f = some ⟨oc, od, .func (PySem.W.fnOf x x (defArgs st) (defBody st) (defScope st) .none kV doc pm an cdv ct), osl⟩) (c1 : PySem.W.codeIn K cdv x = true) (k1 : PySem.W.keepIn K (.ref f) = true)
    (hb : ∀ (kV doc pm : Value) (an : Option Addr) (cdv ct : Value) (us : List Value), us.length = ps.length → bindArgs (PySem.W.fnOf x x (defArgs st) (defBody st) (defScope st) .none kV doc pm an cdv ct) ⟨us, []⟩ = pure (ps.zip us)) : FunAt K mg x st ps :=
  ⟨f, _, fun_mk l1 c1 k1, PySem.W.mg_of X G a1, hb kV doc pm an cdv ct⟩
theorem ConstAt.tup {K : PySem.W.Frag} {h : Heap} {mg : Str → Option Value} {x : Str} {a : Addr} {o : Obj} {its : Array Value} {n : Nat} {ds : List D} {vs : List V} (X : K.In h) (G : h.Ns mainGlobals mg)
    (a1 : PySem.W.nsIn K mainGlobals x = some (some (.ref a))) (l1 : K.lookup a = some o) (c : o.cls = .type "tuple") (hd : o.data = .seq its n) (hz : its.size ≤ sizeLine) (hv : Vals vs its.toList) (hr : ∀ H, RDs K H ds vs) : ConstAt K mg x (.tup ds) :=
  ⟨.ref a, .ref a, PySem.W.mg_of X G a1, rfl, fun H => .tup (.inr ⟨o, its, n, l1, c, hd, hz, hv⟩) (hr H)⟩
end Q4

set_option Elab.async false
set_option linter.all false
set_option maxRecDepth 100000
namespace Q4
open PySem L2
abbrev Go (P : DK) (t : TDS) (sd : DS) (m : M) : Prop := t { nx := fun _ m' => Ret P .non m', rt := Ret P } sd m
section
variable {X : Cx} {H0 : Hp}
def rNegD : R1D := fun x m P => match x with | .int i => P (.int (-i)) m | _ => False
theorem qe_neg {a : Expr} {pos : Pos} {t : TDE} (ha : PE X a (lE X.K H0 t)) : PE X (.UnaryOp .USub a pos) (lE X.K H0 (dUn rNegD t)) := peL (pe_un un_neg ha) fun _ _ _ => l_un fun H m x u P Q rm rx p q => by
  unfold rNegD at p
  split at p
  · cases rx.int_
    exact ⟨_, rfl, q _ m _ H (Keep.refl _) rm (.int _) p⟩
  · exact p.elim
def rNotInD : R2D := fun x y m P => (∃ xs, (y = .tup xs ∨ isL m y xs) ∧ (∃ z : Str, x = .str z ∧ ∃ ys : List Str, xs = ys.map D.str ∧ P (.bl (!decide (z ∈ ys))) m)) ∨ ∃ c z, x = .str ⟨#[c]⟩ ∧ y = .str z ∧ P (.bl (!decide (c ∈ z.cps.toList))) m
theorem flat_strs : ∀ ys : List Str, (ys.map V.str).all flatV = true
  | [] => rfl
  | a :: r => by rw [List.map_cons, List.all_cons, flat_strs r]; rfl
theorem inV_strs {z : Str} : ∀ ys : List Str, inV (.str z) (ys.map V.str) = decide (z ∈ ys)
  | [] => by simp [inV]
  | a :: r => by
    have ih := inV_strs (z := z) r
    unfold inV at ih ⊢
    rw [List.map_cons, List.any_cons, ih]
    show (a == z || decide (z ∈ r)) = _
    by_cases e : a = z
    · subst e; simp
    · have : (a == z) = false := by simpa using e
      rw [this]
      simp [Ne.symm e]
theorem od_notInD : OpD X (compareOp .NotIn) rNotInD := by
  have h1 : OpD X (compareOp .NotIn) (fun x y m P => ∃ xs, (y = .tup xs ∨ isL m y xs) ∧ (∃ z : Str, x = .str z ∧ ∃ ys : List Str, xs = ys.map D.str ∧ P (.bl (!decide (z ∈ ys))) m)) := by
    refine ⟨_, op_notIn_seq, fun H m x y u v P Q rm rx ry p q => ?_⟩
    obtain ⟨xs, hy, z, rfl, ys, rfl, p⟩ := p
    cases rx.str_
    have : ∃ p', v = .ref p' ∧ (SqL X.K H p' (ys.map V.str) ∨ SqT X.K H p' (ys.map V.str)) := by
      rcases hy with rfl | hy
      · obtain ⟨a, vs, rfl, h1, h2⟩ := ry.tup_
        cases rds_strs h2
        exact ⟨a, rfl, .inr h1⟩
      · obtain ⟨a, vs, rfl, h1, h2⟩ := rm.list ry hy
        cases rds_strs h2
        exact ⟨a, rfl, .inl h1⟩
    obtain ⟨p', rfl, h⟩ := this
    refine ⟨p', _, rfl, h, rfl, flat_strs ys, ?_⟩
    show Q (.bl (if true = true then !inV (.str z) (ys.map V.str) else inV (.str z) (ys.map V.str))) H
    rw [if_pos rfl, inV_strs]
    exact q _ m _ H (Keep.refl _) rm (.bl _) p
  have h2 : OpD X (compareOp .NotIn) (fun x y m P => ∃ c z, x = .str ⟨#[c]⟩ ∧ y = .str z ∧ P (.bl (!decide (c ∈ z.cps.toList))) m) := by
    refine ⟨_, op_notIn_sign, fun H m x y u v P Q rm rx ry p q => ?_⟩
    obtain ⟨c, z, rfl, rfl, p⟩ := p
    cases rx.str_
    cases ry.str_
    exact ⟨c, z, rfl, rfl, q _ m _ H (Keep.refl _) rm (.bl _) p⟩
  exact (h1.or h2)
end
end Q4

set_option Elab.async false
set_option linter.all false
set_option maxRecDepth 100000
namespace Q4
open PySem L2
theorem atI_int {ns : List Int} {i : Int} (h0 : 0 ≤ i) (h : i < (ns.map D.int).length) : atI (ns.map D.int) i = some (.int (ns.getD i.toNat 0)) := by
  rw [List.length_map] at h
  have e : i = ((i.toNat : Nat) : Int) := by omega
  have hl : i.toNat < ns.length := by omega
  rw [e]
  refine atI_nat ?_
  rw [List.getElem?_map, List.getElem?_eq_getElem hl, List.getD_eq_getElem?_getD, Int.toNat_natCast, List.getElem?_eq_getElem hl]
  rfl
/-! ### the law's state: four ints -/
structure S4 where
  a : Int
  b : Int
  c : Int
  d : Int
abbrev S4.D (s : S4) : DO := .lst [.int s.a, .int s.b, .int s.c, .int s.d]
structure S4.Ok (s : S4) : Prop where
  a : 0 ≤ s.a
  c : 0 ≤ s.c
  c1 : s.c < 2147483647
def sp_law_pick : DSp := fun ds m P _ => ∃ st ns many s, ds = [.ref st, .rol (List.map D.int ns), .int many] ∧ m st = some (S4.D s) ∧ s.Ok ∧ 0 < many ∧ many < 2 ^ 62 ∧
  ∀ r s', 0 ≤ r → r < many → S4.Ok s' → s'.d = s.d → P (.int r) (put m st s'.D)
theorem use_pick {st : Addr} {ns : List Int} {many : Int} {s : S4} {m : M} {P : DK} (h : m st = some (S4.D s)) (o : s.Ok) (h0 : 0 < many) (h1 : many < 2 ^ 62) (q : ∀ r s', 0 ≤ r → r < many → S4.Ok s' → s'.d = s.d → P (.int r) (put m st s'.D)) :
    sp_law_pick [.ref st, .rol (List.map D.int ns), .int many] m P noX := ⟨st, ns, many, s, rfl, h, o, h0, h1, q⟩
theorem S4.Ok.d {s : S4} (o : s.Ok) (d : Int) : S4.Ok ⟨s.a, s.b, s.c, d⟩ := ⟨o.a, o.c, o.c1⟩
theorem use_pick2 {st : Addr} {ns : List Int} {many a b c d : Int} {m : M} {P : DK} (h : m st = some (.lst [.int a, .int b, .int c, .int d])) (o : S4.Ok ⟨a, b, c, d⟩) (h0 : 0 < many) (h1 : many < 2 ^ 62) (q : ∀ r s', 0 ≤ r → r < many → S4.Ok s' → s'.d = d → P (.int r) (put m st s'.D)) :
    sp_law_pick [.ref st, .rol (List.map D.int ns), .int many] m P noX := ⟨st, ns, many, ⟨a, b, c, d⟩, rfl, h, o, h0, h1, q⟩
theorem s_new {m : M} {Q : Addr → Prop} (h : ∀ p, m p = none → Q p) : ∀ p, m p = none → Q p := h
theorem r_inL {a : Addr} {m : M} {z : Str} {ys : List Str} {P : DK} (h : m a = some (.lst (ys.map D.str))) (q : P (.bl (decide (z ∈ ys))) m) : rInD (.str z) (.ref a) m P := .inl ⟨_, .inr h, z, rfl, ys, rfl, q⟩
theorem r_inT {m : M} {z : Str} {ys : List Str} {P : DK} (q : P (.bl (decide (z ∈ ys))) m) : rInD (.str z) (.tup (ys.map D.str)) m P := .inl ⟨_, .inl rfl, z, rfl, ys, rfl, q⟩
theorem r_ninL {a : Addr} {m : M} {z : Str} {ys : List Str} {P : DK} (h : m a = some (.lst (ys.map D.str))) (q : P (.bl (!decide (z ∈ ys))) m) : rNotInD (.str z) (.ref a) m P := .inl ⟨_, .inr h, z, rfl, ys, rfl, q⟩
/-- a plain text -/
structure Pl (z : Str) (n : Nat) : Prop where
  l : z.length ≤ n
  c : ∀ c ∈ z.cps.toList, c < 128
theorem Pl.one {c : Nat} (h : c < 128) : Pl ⟨#[c]⟩ 1 := ⟨Nat.le_refl _, fun d hd => by simp at hd; omega⟩
theorem Pl.app {z w : Str} {n k : Nat} (h : Pl z n) (h' : Pl w k) : Pl (z ++ w) (n + k) := by
  have e : (z ++ w).cps = z.cps ++ w.cps := rfl
  refine ⟨?_, fun c hc => ?_⟩
  · show (z ++ w).cps.size ≤ _
    rw [e, Array.size_append]
    exact Nat.add_le_add h.l h'.l
  · rw [e, Array.toList_append] at hc
    rcases List.mem_append.mp hc with q | q
    · exact h.c c q
    · exact h'.c c q
theorem Pl.mono {z : Str} {n k : Nat} (h : Pl z n) (e : n ≤ k) : Pl z k := ⟨Nat.le_trans h.l e, h.c⟩
theorem strAt {z : Str} {n : Nat} {r : Int} (hn : z.cps.toList.length = n) (h : z.cps.toList.all (fun c => decide (c < 128)) = true) (h0 : 0 ≤ r) (h1 : r < n) : ∃ c, atI z.cps.toList r = some c ∧ c < 128 := by
  obtain ⟨j, rfl⟩ : ∃ j : Nat, r = j := ⟨r.toNat, by omega⟩
  have hl : j < z.cps.toList.length := by omega
  refine ⟨z.cps.toList[j], atI_nat (List.getElem?_eq_getElem hl), ?_⟩
  have := List.all_eq_true.mp h _ (List.getElem_mem hl)
  simpa using this
theorem szA {z w : Str} {n k : Nat} (h : Pl z n) (h' : Pl w k) (e : n + k ≤ 100000) : z.length + w.length ≤ sizeLine := by
  have h1 := h.l
  have h2 := h'.l
  have : sizeLine = 16777216 := sizeLine_eq
  omega
theorem plLit {z : Str} {n : Nat} (h : z.cps.toList.all (fun c => decide (c < 128)) = true) (hl : z.length ≤ n) : Pl z n := ⟨hl, fun c hc => by simpa using List.all_eq_true.mp h c hc⟩
theorem put_self {m : M} {a : Addr} {o : DO} (h : m a = some o) : put m a o = m := by
  funext b
  by_cases e : b = a
  · subst e; rw [put_same, h]
  · rw [put_ne e]
theorem put_swap {m : M} {a b : Addr} {o u o' : DO} (h : b ≠ a) : put (put (put m a o) b u) a o' = put (put m a o') b u := by
  rw [put_comm h, put_put]
theorem kt_NoneType_bool : kitB "NoneType" "bool" = some false := by decide +kernel
theorem kt_NoneType_int : kitB "NoneType" "int" = some false := by decide +kernel
theorem kt_NoneType_str : kitB "NoneType" "str" = some false := by decide +kernel
theorem kt_NoneType_tuple : kitB "NoneType" "tuple" = some false := by decide +kernel
theorem kt_NoneType_list : kitB "NoneType" "list" = some false := by decide +kernel
theorem kt_bool_bool : kitB "bool" "bool" = some true := by decide +kernel
theorem kt_bool_int : kitB "bool" "int" = some true := by decide +kernel
theorem kt_bool_str : kitB "bool" "str" = some false := by decide +kernel
theorem kt_bool_tuple : kitB "bool" "tuple" = some false := by decide +kernel
theorem kt_bool_list : kitB "bool" "list" = some false := by decide +kernel
theorem kt_int_bool : kitB "int" "bool" = some false := by decide +kernel
theorem kt_int_int : kitB "int" "int" = some true := by decide +kernel
theorem kt_int_str : kitB "int" "str" = some false := by decide +kernel
theorem kt_int_tuple : kitB "int" "tuple" = some false := by decide +kernel
theorem kt_int_list : kitB "int" "list" = some false := by decide +kernel
theorem kt_str_bool : kitB "str" "bool" = some false := by decide +kernel
theorem kt_str_int : kitB "str" "int" = some false := by decide +kernel
theorem kt_str_str : kitB "str" "str" = some true := by decide +kernel
theorem kt_str_tuple : kitB "str" "tuple" = some false := by decide +kernel
theorem kt_str_list : kitB "str" "list" = some false := by decide +kernel
theorem kt_tuple_bool : kitB "tuple" "bool" = some false := by decide +kernel
theorem kt_tuple_int : kitB "tuple" "int" = some false := by decide +kernel
theorem kt_tuple_str : kitB "tuple" "str" = some false := by decide +kernel
theorem kt_tuple_tuple : kitB "tuple" "tuple" = some true := by decide +kernel
theorem kt_tuple_list : kitB "tuple" "list" = some false := by decide +kernel
theorem kt_list_bool : kitB "list" "bool" = some false := by decide +kernel
theorem kt_list_int : kitB "list" "int" = some false := by decide +kernel
theorem kt_list_str : kitB "list" "str" = some false := by decide +kernel
theorem kt_list_tuple : kitB "list" "tuple" = some false := by decide +kernel
theorem kt_list_list : kitB "list" "list" = some true := by decide +kernel
theorem r_eqB {a b : Bool} {m : M} {P : DK} (q : P (.bl (decide (a = b))) m) : rEqD (.bl a) (.bl b) m P := q
def plB (z : Str) (n : Nat) : Bool := decide (z.length ≤ n) && z.cps.toList.all fun c => decide (c < 128)
theorem pl_of {z : Str} {n : Nat} (h : plB z n = true) : Pl z n := by
  unfold plB at h
  rw [Bool.and_eq_true] at h
  exact plLit h.2 (of_decide_eq_true h.1)
theorem str_small : ∀ n : Nat, n < 128 → plB (Str.ofString (toString (n : Int))) 3 = true := by decide +kernel
theorem str_int {i : Int} (h0 : 0 ≤ i) (h : i < 128) : Pl (Str.ofString (toString i)) 3 := by
  obtain ⟨n, rfl⟩ : ∃ n : Nat, i = n := ⟨i.toNat, by omega⟩
  exact pl_of (str_small n (by omega))
theorem log2_small {i : Int} (h0 : 0 ≤ i) (h : i < 2 ^ 62) : i.natAbs.log2 < 1920 := by
  have : i.natAbs < 2 ^ 62 := by omega
  by_cases e : i.natAbs = 0
  · rw [e]; decide
  · have := (Nat.log2_lt e).mpr this
    omega
theorem cut_to {α : Type} (ys : List α) (k : Nat) : cutL ys none (some (k : Int)) = ys.take k := by
  unfold cutL
  rw [HT.sIx_nat, HT.sIx_none, List.drop_zero, Nat.sub_zero]
  by_cases h : k ≤ ys.length
  · rw [Nat.min_eq_left h]
  · rw [Nat.min_eq_right (by omega), List.take_of_length_le (Nat.le_refl _), List.take_of_length_le (by omega)]
theorem ite_nt {A B : Prop} (h : B) : if (!true) = true then A else B := h
theorem ite_nf {A B : Prop} (h : A) : if (!false) = true then A else B := h
theorem iteDT {c A B : Prop} [Decidable c] (h : c) (q : A) : if decide c = true then A else B := by rw [if_pos (decide_eq_true h)]; exact q
theorem iteDF {c A B : Prop} [Decidable c] (h : ¬ c) (q : B) : if decide c = true then A else B := by rw [if_neg (by rw [decide_eq_true_eq]; exact h)]; exact q
theorem iteNT {c A B : Prop} [Decidable c] (h : ¬ c) (q : A) : if (!decide c) = true then A else B := by rw [decide_eq_false h]; exact q
theorem iteNF {c A B : Prop} [Decidable c] (h : c) (q : B) : if (!decide c) = true then A else B := by rw [decide_eq_true h]; exact q
/-- a row of texts as data -/
def strsOf : List D → Option (List Str)
  | [] => some []
  | .str z :: r => (strsOf r).map (z :: ·)
  | _ => none
theorem strsOf_eq : ∀ {xs : List D} {ys : List Str}, strsOf xs = some ys → xs = ys.map D.str
  | [], _, h => by cases h; rfl
  | .str z :: r, _, h => by
    unfold strsOf at h
    cases e : strsOf r with
    | none => rw [e] at h; cases h
    | some w => rw [e] at h; cases h; rw [strsOf_eq e]; rfl
  | .non :: _, _, h => by cases h
  | .bl _ :: _, _, h => by cases h
  | .int _ :: _, _, h => by cases h
  | .tup _ :: _, _, h => by cases h
  | .rol _ :: _, _, h => by cases h
  | .ref _ :: _, _, h => by cases h
  | .ty _ :: _, _, h => by cases h
section
variable {m : M} {z : Str} {xs : List D} {ys : List Str} {P : DK} {a : Addr}
theorem r_inT' (h : strsOf xs = some ys) (q : P (.bl (decide (z ∈ ys))) m) : rInD (.str z) (.tup xs) m P := by rw [strsOf_eq h]; exact r_inT q
theorem r_inL' (h : m a = some (.lst xs)) (e : strsOf xs = some ys) (q : P (.bl (decide (z ∈ ys))) m) : rInD (.str z) (.ref a) m P := by rw [strsOf_eq e] at h; exact r_inL h q
theorem r_ninT' (h : strsOf xs = some ys) (q : P (.bl (!decide (z ∈ ys))) m) : rNotInD (.str z) (.tup xs) m P := .inl ⟨_, .inl rfl, z, rfl, ys, strsOf_eq h, q⟩
theorem r_ninL' (h : m a = some (.lst xs)) (e : strsOf xs = some ys) (q : P (.bl (!decide (z ∈ ys))) m) : rNotInD (.str z) (.ref a) m P := by rw [strsOf_eq e] at h; exact r_ninL h q
/-- a comprehension that maps -/
theorem CT_map {α : Type} {ks : List α} {e f : α → D} {g : TDG} {te : TDE} {vs : List Nat} {sd : DS} (hl : ks.length ≤ 100000) (hf : ∀ k ∈ ks, ∀ (m : M) (Q : DK), Q (f k) m → g (e k) (wipeD sd vs) m fun sd2 m3 => te sd2 m3 Q)
    (q : ∀ p, m p = none → P (.ref p) (put m p (.lst (ks.map f)))) : CT (ks.map e) g dYes te vs sd m P := by
  intro p hp
  refine ⟨fun i acc m2 => m2 = m ∧ acc = (ks.take i).map f, ⟨rfl, rfl⟩, ?_, ?_⟩
  · rintro i x acc m2 hx ⟨rfl, rfl⟩
    rw [List.getElem?_map] at hx
    cases hk : ks[i]? with
    | none => rw [hk] at hx; cases hx
    | some k =>
      rw [hk] at hx
      have hx : e k = x := by simpa using hx
      subst hx
      have hlt := (List.getElem?_eq_some_iff.mp hk).1
      refine hf k (List.mem_of_getElem? hk) _ _ ⟨m2, Less.refl _, ?_, rfl, ?_⟩
      · rw [List.length_map, List.length_take, PySem.sizeLine_eq]; omega
      · rw [List.take_add_one, hk, List.map_append]; rfl
  · rintro acc m2 ⟨rfl, rfl⟩
    rw [List.length_map, List.take_length]
    exact q p hp
theorem r_allM {α : Type} {ks : List α} {b : α → Bool} (h : m a = some (.lst (ks.map fun k => .bl (b k)))) (q : P (.bl (ks.all b)) m) : rAllD [.ref a] m P := by
  refine ⟨ks.map b, ?_, ?_⟩
  · show m a = _
    rw [h, List.map_map]; rfl
  · rw [List.all_map]; exact q
theorem r_anyM {α : Type} {ks : List α} {b : α → Bool} (h : m a = some (.lst (ks.map fun k => .bl (b k)))) (q : P (.bl (ks.any b)) m) : rAnyD [.ref a] m P := by
  refine ⟨ks.map b, ?_, ?_⟩
  · show m a = _
    rw [h, List.map_map]; rfl
  · rw [List.any_map]; exact q
end
theorem getMap {α β : Type} {ks : List α} {f : α → β} {i : Nat} {x : β} (h : (ks.map f)[i]? = some x) : ∃ k, ks[i]? = some k ∧ k ∈ ks ∧ x = f k := by
  rw [List.getElem?_map] at h
  cases e : ks[i]? with
  | none => rw [e] at h; cases h
  | some k => rw [e] at h; cases h; exact ⟨k, rfl, List.mem_of_getElem? e, rfl⟩
theorem allTake {α : Type} {ks : List α} {b : α → Bool} {i : Nat} {k : α} (h : ∀ k ∈ ks.take i, b k = true) (hk : ks[i]? = some k) (hb : b k = true) : ∀ k ∈ ks.take (i + 1), b k = true := by
  intro x hx
  rw [List.take_add_one, hk] at hx
  rcases List.mem_append.mp hx with q | q
  · exact h x q
  · simp at q; subst q; exact hb
theorem all_no {α : Type} {ks : List α} {b : α → Bool} {k : α} (h : k ∈ ks) (hb : b k = false) : ks.all b = false := by
  rw [Bool.eq_false_iff]
  intro e
  have := List.all_eq_true.mp e k h
  rw [hb] at this
  cases this
theorem all_yes {α : Type} {ks : List α} {b : α → Bool} {n : Nat} (h : ∀ k ∈ ks.take n, b k = true) (e : n = ks.length) : ks.all b = true := by
  subst e
  rw [List.take_length] at h
  exact List.all_eq_true.mpr h
end Q4

set_option Elab.async false
set_option linter.all false
set_option maxRecDepth 100000
namespace Q4
open PySem L2 PyProof.Rows
def maxInt (d : Int) : List Int → Int
  | [] => d
  | n :: r => r.foldl max n
theorem cmpInts (xs : List Int) : PySem.W.AlikeAll (xs.map PyData.int) := by
  refine ⟨fun x hx y hy => ?_, fun x hx => ?_⟩
  · obtain ⟨a, _, rfl⟩ := List.mem_map.mp hx
    obtain ⟨b, _, rfl⟩ := List.mem_map.mp hy
    rfl
  · obtain ⟨a, _, rfl⟩ := List.mem_map.mp hx
    intro h; cases h
theorem depthInts : ∀ xs : List Int, PyData.depthAll (xs.map PyData.int) ≤ 1
  | [] => by unfold PyData.depthAll; decide
  | x :: xs => by
    rw [List.map_cons]
    unfold PyData.depthAll
    have := depthInts xs
    have e : (PyData.int x).depth ≤ 1 := by unfold PyData.depth; decide
    omega
section
variable {X : Cx} {H0 : Hp}
def rMaxKw (K : PySem.W.Frag) : List V → List V → Hp → VK → Prop := fun vs zs H Q => ∃ (a : Addr) (ns : List Int) (d : Int), vs = [V.ref a] ∧ zs = [.int d] ∧ SqL K H a (ns.map V.int) ∧ Q (.int (maxInt d ns)) H
theorem cr_maxKw (hc : X.calm = true) (hu : X.A.units + 64 < cLine) : CallRK X (.builtin "max") [Str.ofString "default"] (rMaxKw X.K) := by
  intro pins s σ H vs zs us ws Q I r rz h
  obtain ⟨a, ns, d, rfl, rfl, hs, q⟩ := h
  obtain ⟨its, rv, hl, _⟩ := I.list hs
  obtain rfl := Vals.ref1 r
  obtain ⟨w1, rfl, e1⟩ := vals1 rz
  obtain ⟨td, rfl⟩ : ∃ t, w1 = Value.int d t := e1
  have hd := depthInts ns
  refine PySem.W.max_list_default (I.ok.hd hc) hl.isList (IntsAre.reads _ rv.ints) (cmpInts ns) (by omega) (fun e h' tk hk => ?_) fun y ys i v h' tk bs e hv rd hk => ?_
  · cases ns with
    | nil => exact ⟨.int _, H, I.kept hk, ⟨td, rfl⟩, q⟩
    | cons n r => cases e
  · cases ns with
    | nil => cases e
    | cons n r =>
      cases e
      rw [PySem.W.maxD_ints] at rd
      obtain ⟨t, rfl, _⟩ := reads_int_inv rd
      exact ⟨.int _, H, I.kept hk, ⟨t, rfl⟩, q⟩
def dMaxD (t : TDA) (td : TDE) : TDE := fun sd m P => t sd m fun xs m1 => td sd m1 fun y m2 => ∃ (x : D) (ns : List Int) (d : Int), xs = [x] ∧ isL m2 x (ns.map D.int) ∧ y = .int d ∧ P (.int (maxInt d ns)) m2
theorem qe_maxD {e d : Expr} {es : List Expr} {x : Str} {p pos kpos : Pos} {t : TDA} {td : TDE} (hc : X.calm = true) (hu : X.A.units + 64 < cLine) (hg : Gl X x) (hm : X.mg x = none) (ha : PA X (e :: es) (lA X.K H0 t)) (hd : PE X d (lE X.K H0 td))
    (hv : bootBuiltins x = some (.builtin "max")) (hn : x ≠ "__name__" := by decide) (hdb : (x == ("__debug__" : Str)) = false := by decide)
    (he : backTo pos (starEach (e :: es) X.env) = (false, eval e X.env) :: backTo pos (starEach es X.env) := by rfl) (hpl : (backTo pos (starEach (e :: es) X.env)).any (·.1) = false := by rfl)
    (hall : (backToKw pos (keywordEach [⟨some "default", d, kpos⟩] X.env)).all (·.1.isSome) = true := by rfl) (hnone : (backToKw pos (keywordEach [⟨some "default", d, kpos⟩] X.env)).any (·.1.isNone) = false := by rfl) (hks : (backToKw pos (keywordEach [⟨some "default", d, kpos⟩] X.env)).filterMap (·.1) = [Str.ofString "default"] := by rfl) :
    PE X (.Call (.Name x p) (e :: es) [⟨some "default", d, kpos⟩] pos) (lE X.K H0 (dMaxD t td)) :=
  peL (pe_callBK (cr_maxKw hc hu) hg hm hv ha (pk_cons hd pk_nil) hn hdb he hpl hall hnone hks) fun σ H Q h => by
    obtain ⟨sd, m, P, a, p, q⟩ := h
    refine ⟨sd, m, _, a, p, fun xs m1 us H1 k1 r1 d1 p1 => ?_⟩
    refine ⟨sd, m1, _, a.to k1 r1, p1, fun y m2 u H2 k2 r2 d2 p2 => ?_⟩
    obtain ⟨x, ns, d, rfl, h, rfl, p3⟩ := p2
    cases d2.int_
    obtain ⟨u1, rfl, r⟩ := (d1.mono k2).one_
    obtain ⟨_, vs, rfl, h1, h2⟩ := r2.list r h
    cases rds_ints h2
    exact ⟨_, ns, d, rfl, rfl, h1, q _ m2 _ H2 (k1.trans k2) r2 (.int _) p3⟩
end
end Q4

set_option Elab.async false
set_option linter.all false
set_option maxRecDepth 100000
namespace Q4
open PySem L2 PyProof.Rows PySem.Spec
/-! ### a tuple with its places: pairs (number, item) -/
set_option maxHeartbeats 1000000 in
theorem enum_one {x : Value} {it : Obj} {St : Heap → Prop} (B : Begins x it St) :
    Meets (Builtin.«enumerate.__new__» ⟨[.type "enumerate", x], []⟩) (fun _ R z => St z.heap ∧ R (.ok (.ret (.ref (z.heap.push it).objs.size)))
      { z with heap := (z.heap.push it).push { cls := .type "enumerate", data := .fields #[.none, .bool false, .ref z.heap.objs.size, rawInt 0, .none, .none] } }) :=
  .of_wp fun pr w A R z hz => by
    obtain ⟨hp, ge, dr, tok, osy⟩ := z
    obtain ⟨st, hz⟩ := hz
    have k1 := sub_enumerate
    have begin_ : ∀ {A' : Around} {G : Value → Shared → Prop} {Q : Value → Shared → Prop}, Q (.ref hp.objs.size) ⟨hp.push it, ge, dr, tok, osy⟩ → wpAny (model pr w) A' (pyIter x) Q G ⟨hp, ge, dr, tok, osy⟩ := fun q => B.iter pr w _ _ ⟨hp, ge, dr, tok, osy⟩ _ st q
    wp_walk using begin_
    refine wpAny_stack_any fun _ => wpAny_pure ?_
    split
    · rename_i cl _ _ _ _ _
      cases (cl == Value.type "enumerate") <;> (wp_walk using begin_; exact ⟨_, rfl, hz⟩)
    · wp_walk using begin_
      exact ⟨_, rfl, hz⟩
theorem enum_call {pr : Program} {w : World} {A : Around} {G : Value → Shared → Prop} {z : Shared} {x : Value} {it : Obj} {St : Heap → Prop} {Q : Value → Shared → Prop} (B : Begins x it St) (st : St z.heap)
    (q : ∀ h2, IsEnum h2 (z.heap.objs.size + 1) z.heap.objs.size 0 .none → h2.get? z.heap.objs.size = some it → h2.objs.size = z.heap.objs.size + 2 → (∀ b o, z.heap.get? b = some o → h2.get? b = some o) → Q (.ref (z.heap.objs.size + 1)) { z with heap := h2 }) :
    wpAny (model pr w) A (call (.type "enumerate") [x]) Q G z := by
  have sz : (z.heap.push it).objs.size = z.heap.objs.size + 1 := Heap.size_push ..
  refine callType_new F.called_enumerate (by decide) (F.typeCall_enumerate_1 _) (F.newCall_enumerate_1 _) (fun ob => F.args_object_init_2 ob _) F.entry_enumerate_new (enum_one B) ⟨st, ?_⟩
  show _ ∧ _
  rw [sz]
  have e0 := Heap.get?_push_size (z.heap.push it) (o := { cls := .type "enumerate", data := .fields #[.none, .bool false, .ref z.heap.objs.size, rawInt 0, .none, .none] }) rfl
  rw [sz] at e0
  exact ⟨⟨_, e0, rfl⟩, q _ e0 (Heap.get?_push_of_some _ (Heap.get?_push_size _ B.free)) (by rw [Heap.size_push, sz]) fun b o e => Heap.get?_push_of_some _ (Heap.get?_push_of_some _ e)⟩
/-- the tuple at a -/
def IteT (K : PySem.W.Frag) (a : Addr) : It :=
  ⟨fun i H => ∃ (ys : List V) (y : V), SqT K H a ys ∧ ys[i]? = some y, fun i H v H' => ∃ T y, v = .ref T ∧ H T = none ∧ H' = upd H T (.tup [.int (i : Nat), y]) ∧ ∀ ys, SqT K H a ys → ys[i]? = some y, fun i H => ∃ ys : List V, SqT K H a ys ∧ ys.length ≤ i⟩
theorem turn_enumT {P : Program} {w : World} {K : PySem.W.Frag} {els : List Expr} {k : Nat} {ps : Pos} (a e it : Addr) (hae : a ≠ e) (hai : a ≠ it) :
    Turn P w K (.Tuple els k ps) (IteT K a) [e, it] e (fun i h => (∃ old, IsEnum h e it ((i : Nat) : Int) old) ∧ h.IsTupleIter it a i ∧ e ≠ it) where
  mem := List.mem_cons_self
  obj := fun i h ⟨⟨old, he⟩, ⟨o, ho, hc, hd⟩, _⟩ b hb => by
    rcases List.mem_cons.mp hb with rfl | hb
    · exact ⟨_, he, fun v q => nomatch q⟩
    · rw [List.mem_singleton.mp hb]; exact ⟨o, ho, fun v q => by rw [hd] at q; cases q⟩
  keep := fun i h h' ⟨⟨old, he⟩, hi, hne⟩ kk => ⟨⟨old, kk e List.mem_cons_self _ he⟩, hi.at fun o q => kk it (List.mem_cons_of_mem _ List.mem_cons_self) o q, hne⟩
  item := by
    intro X hP hw hK hc i pins s σ H G I hf st hg
    subst hP hw hK
    obtain ⟨⟨old, he⟩, hit, hne⟩ := st
    obtain ⟨ys, y, hq, hy⟩ := hg
    obtain ⟨its, rv, p, hz⟩ := I.tuple hq
    obtain ⟨u, hu, ru⟩ := rv.get hy
    have lt1 : e < s.heap.objs.size := Heap.lt_size he
    have lt2 : it < s.heap.objs.size := by obtain ⟨_, q, _⟩ := hit; exact Heap.lt_size q
    have hlen : i < its.toArray.size := by
      have := (List.getElem?_eq_some_iff.mp hu).1
      simpa using this
    refine wpAny_pyNext_enum_itemC (Draws.tuple (A := X.A.in1) (I.ok.hd hc) it a hai its.toArray) he ⟨hit, (show s.heap.IsTuple a its.toArray from p)⟩ hlen hne (by simp [hne, Ne.symm hae]) fun x h' tk hx ho hst hT hsz hk => ?_
    obtain rfl : x = u := by
      have : its[i]? = some x := by simpa using hx
      rw [hu] at this
      exact (Option.some.inj this).symm
    refine ⟨_, rfl, wpAny_letOwnedTupleGo_enum (s := { s with heap := h', toks := tk + 1 }) ho fun h2 he2 sb => ?_⟩
    have hT2 := (sb.2 _ (Nat.ne_of_gt lt1)).trans hT
    have new : ObjOk X.prog X.w (upd H s.heap.objs.size (.tup [.int (i : Nat), y])) h2 s.heap.objs.size (.tup [.int (i : Nat), y]) :=
      ⟨by show 2 ≤ sizeLine; decide, [.int i tk, x], .cons ⟨_, rfl⟩ (.cons ru .nil), ⟨_, hT2, rfl, _, rfl⟩⟩
    have I1 : Inv X pins σ (upd H s.heap.objs.size (.tup [.int (i : Nat), y])) { s with heap := h2, toks := tk + 1 } :=
      I.turnedNew (ch := [e, it]) (fun b ob hb q => (sb.2 b (fun w => hb (by simp [w]))).trans (hk b ob (fun w => hb (by simp [w])) (fun w => hb (by simp [w])) q)) hf (Nat.le_refl _) new
    refine ⟨.ref s.heap.objs.size, _, I1, rfl, ⟨_, y, rfl, I.hok.fresh (Nat.le_refl _), rfl, fun zs hzs => by rw [I.tuple_inj hzs hq]; exact hy⟩, ⟨⟨x, ?_⟩, hst.1.at fun o q => (sb.2 it (Ne.symm hne)).trans q, hne⟩, fun b hb => ?_⟩
    · have e1 : ((i + 1 : Nat) : Int) = (i : Int) + 1 := by omega
      rw [e1]
      exact he2
    · have hb' : b < s.heap.objs.size := by
        rcases List.mem_cons.mp hb with rfl | hb
        · exact lt1
        · rw [List.mem_singleton.mp hb]; exact lt2
      rw [upd_ne (Nat.ne_of_lt hb')]
      exact (hf b hb).1
  done := by
    intro X hP hw hK hc i pins s σ H G I hf st hg
    subst hP hw hK
    obtain ⟨⟨old, he⟩, hit, hne⟩ := st
    obtain ⟨ys, hq, hy⟩ := hg
    obtain ⟨its, rv, p, hz⟩ := I.tuple hq
    obtain ⟨f0, f1, f2, f3, f4, f5⟩ := hf it (List.mem_cons_of_mem _ List.mem_cons_self)
    have hl := rv.length
    have Dz : Draws X.prog X.w X.A.in1 it [it, a] i (fun _ _ => False) (fun j h => j = i ∧ h.IsTupleIter it a i ∧ h.IsTuple a its.toArray) :=
      { live := fun _ _ z => let ⟨o, ho, _⟩ := z.2.1; ⟨o, ho⟩
        frame := fun _ _ _ z kk => ⟨z.1, z.2.1.at fun o q => kk it List.mem_cons_self o q, z.2.2.at fun o q => kk a (List.mem_cons_of_mem _ List.mem_cons_self) o q⟩
        item := fun j _ _ _ hj z _ => absurd z.1 (Nat.ne_of_lt hj)
        done := fun z Q G' st' q' => wpAny_nextOf_tuple_end (A := X.A.in1) (I.ok.hd hc) st'.2.1 st'.2.2 (by simp; omega) q' }
    exact wpAny_pyNext_enum_endD Dz he ⟨rfl, hit, (show s.heap.IsTuple a its.toArray from p)⟩ fun h' eb => ⟨rfl, I.turned (t' := s.toks) (fun b o hb q => eb b o hb q) f0 f1 f3 f4 f5⟩
  self := fun A i s Q G st h => let ⟨⟨_, he⟩, _⟩ := st; wpAny_pyIter_enum he h
def iEnumT (K : PySem.W.Frag) (ta : TA) : TI := fun σ H R => ta σ H fun vs H1 => ∃ a ys, vs = [.ref a] ∧ SqT K H1 a ys ∧ R (IteT K a) H1
theorem pi_enumT {X : Cx} {e : Expr} {ta : TA} {p pos tps : Pos} {els : List Expr} {k : Nat} (hg : Gl X "enumerate") (hm : X.mg "enumerate" = none) (ha : PA X [e] ta) (hs : starEach [e] X.env = [(false, eval e X.env)] := by rfl) :
    PI X (.Tuple els k tps) (.Call (.Name "enumerate" p) [e] [] pos) (iEnumT X.K ta) := by
  refine ⟨fun pins s σ H R I h => ?_⟩
  refine Call_ (ld_blt I hg hm boot_enumerate (PyProof.Rows.callWith_type1 (thn (ha.run pos pins s σ H _ I h) fun us z ⟨vs, H1, I1, r1, q1⟩ => ?_) hs rfl))
  obtain ⟨a, ys, rfl, hq, q⟩ := q1
  obtain rfl := Vals.ref1 r1
  obtain ⟨its, rv, pt, hz⟩ := I1.tuple hq
  have pt' : z.heap.IsTuple a its.toArray := pt
  have lta : a < z.heap.objs.size := by obtain ⟨o, ho, _⟩ := pt'; exact Heap.lt_size ho
  refine enum_call (begins_tuple a its.toArray) pt' fun h' he ho hsz kk => wpAny_pyIter_enum he ?_
  have I2 : Inv X pins σ H1 { z with heap := h' } := I1.kept (t' := z.toks) kk
  refine ⟨z.heap.objs.size + 1, [z.heap.objs.size + 1, z.heap.objs.size], _, _, H1, rfl, I2, turn_enumT a (z.heap.objs.size + 1) z.heap.objs.size (Nat.ne_of_lt (Nat.lt_succ_of_lt lta)) (Nat.ne_of_lt lta), ⟨⟨.none, he⟩, ⟨_, ho, rfl, rfl⟩, Nat.succ_ne_self _⟩, fun b hb => ?_, q⟩
  have le : z.heap.objs.size ≤ b := by
    rcases List.mem_cons.mp hb with rfl | hb
    · exact Nat.le_add_right _ _
    · rw [List.mem_singleton.mp hb]; exact Nat.le_refl _
  exact I1.fpOk le (I1.hok.fresh le)
end Q4

set_option Elab.async false
set_option linter.all false
set_option maxRecDepth 100000
namespace Q4
open PySem L2
/-! ### numbered items -/
def numd (xs : List D) : List D := xs.mapIdx fun i x => .tup [.int (i : Nat), x]
theorem numd_get {xs : List D} {i : Nat} : (numd xs)[i]? = (xs[i]?).map fun x => .tup [.int (i : Nat), x] := by
  unfold numd
  rw [List.getElem?_mapIdx]
theorem numd_len {xs : List D} : (numd xs).length = xs.length := by unfold numd; rw [List.length_mapIdx]
theorem lift_enumT {K : PySem.W.Frag} {H : Hp} {b : Addr} {xs : List D} {vs : List V} (h1 : SqT K H b vs) (h2 : RDs K H xs vs) : LiftIt K H (jTup (numd xs)) (IteT K b) := fun H2 k2 i m2 r2 o e => by
  have e : o = (numd xs)[i]? := e
  rw [numd_get] at e
  cases e2 : xs[i]? with
  | none =>
    rw [e2] at e
    subst e
    exact ⟨vs, k2.t _ _ h1, by rw [← h2.length]; exact List.getElem?_eq_none_iff.mp e2⟩
  | some x =>
    rw [e2] at e
    subst e
    obtain ⟨u, e3, r3⟩ := h2.get e2
    refine ⟨⟨vs, u, k2.t _ _ h1, e3⟩, fun v H3 y => ?_⟩
    obtain ⟨T, z, rfl, hn, rfl, hz⟩ := y
    have e5 := hz vs (k2.t _ _ h1)
    rw [e3] at e5
    cases e5
    have kk : Keep K H2 (upd H2 T (.tup [.int (i : Nat), u])) := Keep.new hn
    exact ⟨kk, r2.new hn, .tup (.inl (.inl upd_same)) ((RDs.cons (.int _) (.cons (r3.mono k2) .nil)).mono kk)⟩
/-! ### two clauses -/
/-- the inner items zs; where all are done, the outer turn is W' -/
def C2in (zs : List D) (g1 : TDG) (tt1 : TDT) (te : TDE) (vs1 : List Nat) (sd : DS) (p : Addr) (W' : List D → M → Prop) (m : M) : Prop :=
  ∃ W1 : Nat → List D → M → Prop, (∃ acc m6, Less (put m6 p (.lst acc)) m ∧ W1 0 acc m6) ∧
    (∀ j y acc m7, zs[j]? = some y → W1 j acc m7 → CTurn g1 tt1 te vs1 sd p (W1 (j + 1)) y acc m7) ∧ ∀ acc m7, W1 zs.length acc m7 → W' acc m7
def C2turn (g : TDG) (tt : TDT) (ti : TDE) (g1 : TDG) (tt1 : TDT) (te : TDE) (vs vs1 : List Nat) (sd : DS) (p : Addr) (W' : List D → M → Prop) (x : D) (acc : List D) (m2 : M) : Prop :=
  g x (wipeD sd vs) (put m2 p (.lst acc)) fun sd2 m3 => tt sd2 m3 fun b m4 =>
    if b = true then ti sd2 m4 fun z m5 => (match z with | .tup zs => C2in zs g1 tt1 te vs1 sd2 p W' m5 | _ => False) else ∃ m6, Less (put m6 p (.lst acc)) m4 ∧ W' acc m6
def C2 (xs : List D) (g : TDG) (tt : TDT) (ti : TDE) (g1 : TDG) (tt1 : TDT) (te : TDE) (vs vs1 : List Nat) (sd : DS) (m1 : M) (P : DK) : Prop := ∀ p, m1 p = none → ∃ W : Nat → List D → M → Prop, W 0 [] m1 ∧
  (∀ i x acc m2, xs[i]? = some x → W i acc m2 → C2turn g tt ti g1 tt1 te vs vs1 sd p (W (i + 1)) x acc m2) ∧ ∀ acc m2, W xs.length acc m2 → P (.ref p) (put m2 p (.lst acc))
/-- [te for g in enumerate(ta) if tt for g1 in ti if tt1], tuples -/
def dLcE2 (ta : TDA) (g : TDG) (tt : TDT) (ti : TDE) (g1 : TDG) (tt1 : TDT) (te : TDE) (vs vs1 : List Nat) : TDE := fun sd m P => ta sd m fun xs m1 => match xs with
  | [.tup ys] => C2 (numd ys) g tt ti g1 tt1 te vs vs1 sd m1 P
  | _ => False
section
variable {K : PySem.W.Frag} {H0 : Hp} {g g1 : TDG} {tt tt1 : TDT} {ti te : TDE} {vs vs1 : List Nat}
theorem in_core {H1 H3 : Hp} {sd2 : DS} {σ2 : St} {D : Addr} {W' : List Q4.D → M → Prop} {zs : List Q4.D} {m5 : M} {J1 : It} (k01 : Keep K H0 H1) (k1 : Keep K H1 H3) (s2 : RS K H3 sd2 σ2) (r3 : RM K H3 m5) (l1 : LiftIt K H3 (jTup zs) J1)
    (p : C2in zs g1 tt1 te vs1 sd2 D W' m5) :
    ∃ W1 : Nat → Nat → Hp → Prop, (∃ m, W1 0 m H3) ∧ ∀ j k H, W1 j k H →
      (J1.stop j H ∧ ∃ acc m', Keep K H1 H ∧ RM K H (put m' D (.lst acc)) ∧ W' acc m') ∨ (J1.go j H ∧ ∃ Nx1 : Hp → Prop, (∀ H', Nx1 H' → ∃ k', k' < k ∧ W1 (j + 1) k' H') ∧ ∀ x H', J1.yld j H x H' → lG K H0 vs1 g1 x (L2.wipe σ2 vs1) H' fun σ3 H5 => L2.wipe σ3 vs1 = L2.wipe σ2 vs1 ∧ lT K H0 tt1 σ3 H5 fun b H6 =>
        if b = true then lE K H0 te σ3 H6 fun y H7 => ∃ acc, H7 D = some (.lst acc) ∧ acc.length < sizeLine ∧ Nx1 (upd H7 D (.lst (acc ++ [y]))) else Nx1 H6) := by
  obtain ⟨W1, ⟨acc0, m6, hl0, w0⟩, ws, wd⟩ := p
  refine ⟨fun j n H' => n = zs.length - j ∧ j ≤ zs.length ∧ ∃ acc m', Keep K H3 H' ∧ RM K H' (put m' D (.lst acc)) ∧ W1 j acc m', ⟨_, rfl, Nat.zero_le _, acc0, m6, Keep.refl _, r3.less hl0, w0⟩, ?_⟩
  rintro j n H4 ⟨rfl, hj, acc, m7, k4, r4, w⟩
  have L := l1 H4 k4 j _ r4 (zs[j]?) rfl
  cases e : zs[j]? with
  | none =>
    rw [e] at L
    have : j = zs.length := Nat.le_antisymm hj (List.getElem?_eq_none_iff.mp e)
    subst this
    exact .inl ⟨L, acc, m7, k1.trans k4, r4, wd acc m7 w⟩
  | some y =>
    rw [e] at L
    have lt : j < zs.length := (List.getElem?_eq_some_iff.mp e).1
    refine .inr ⟨L.1, fun H' => ∃ acc m', Keep K H3 H' ∧ RM K H' (put m' D (.lst acc)) ∧ W1 (j + 1) acc m', ?_, fun v H5 yl => ?_⟩
    · rintro H' ⟨a2, m2, k2, r2, w2⟩
      exact ⟨zs.length - (j + 1), by omega, rfl, lt, a2, m2, k2, r2, w2⟩
    · obtain ⟨k5, r5, d5⟩ := L.2 v H5 yl
      have K5 : Keep K H3 H5 := k4.trans k5
      have rest := ws j y acc m7 e w
      refine ⟨y, wipeD sd2 vs1, _, _, ⟨(s2.mono K5).wipe vs1, r5, k01.trans (k1.trans K5)⟩, d5, rest, fun sd4 m4 σ4 H6 k6 s6 r6 hw p6 => ⟨hw.trans wipe_wipe, ?_⟩⟩
      have K6 : Keep K H3 H6 := K5.trans k6
      refine ⟨sd4, m4, _, ⟨s6, r6, k01.trans (k1.trans K6)⟩, p6, fun b m8 H7 k7 r7 p7 => ?_⟩
      cases b with
      | true =>
        refine ⟨sd4, m8, _, ⟨s6.mono k7, r7, k01.trans (k1.trans (K6.trans k7))⟩, p7, fun z m9 w9 H8 k8 r8 d8 p8 => ?_⟩
        obtain ⟨m10, hl, hz, w10⟩ := p8
        have r8 := r8.less hl
        obtain ⟨us, e1, rr⟩ := r8 D _ put_same
        refine ⟨us, e1, by rw [← rr.length]; exact hz, acc ++ [z], m10, ((K6.trans k7).trans k8).trans (Keep.lst e1), ?_, w10⟩
        have := r8.setPut e1 (rr.append (.cons d8 .nil))
        rw [put_put] at this
        exact this
      | false =>
        obtain ⟨m10, hl, w10⟩ := p7
        exact ⟨acc, m10, K6.trans k7, r7.less hl, w10⟩
theorem c2_core {J' : It} {H H1 : Hp} {sd : DS} {m1 : M} {σ : St} {P : DK} {Q : VK} {xs : List Q4.D} (k0 : Keep K H0 H) (k1 : Keep K H H1) (s0 : RS K H sd σ) (r1 : RM K H1 m1) (l1 : LiftIt K H1 (jTup xs) J')
    (q : ∀ d m' v H', Keep K H H' → RM K H' m' → RD K H' d v → P d m' → Q v H') {D : Addr} (hD : H1 D = none) (p : C2 xs g tt ti g1 tt1 te vs vs1 sd m1 P) :
    ∃ W : Nat → Nat → Hp → Prop, (∃ m, W 0 m (upd H1 D (.lst []))) ∧ ∀ i m H, W i m H →
      (J'.stop i H ∧ Q (.ref D) H) ∨ (J'.go i H ∧ ∃ Nx : Hp → Prop, (∀ H', Nx H' → ∃ m', m' < m ∧ W (i + 1) m' H') ∧ ∀ x H', J'.yld i H x H' → lG K H0 vs g x (L2.wipe σ vs) H' fun σ2 H2 => L2.wipe σ2 vs = L2.wipe σ vs ∧ lT K H0 tt σ2 H2 fun b H3 =>
        if b = true then iSq K (lE K H0 ti) σ2 H3 fun J1 H4 => ∃ W1 : Nat → Nat → Hp → Prop, (∃ m, W1 0 m H4) ∧ ∀ j k H, W1 j k H →
          (J1.stop j H ∧ Nx H) ∨ (J1.go j H ∧ ∃ Nx1 : Hp → Prop, (∀ H', Nx1 H' → ∃ k', k' < k ∧ W1 (j + 1) k' H') ∧ ∀ x H', J1.yld j H x H' → lG K H0 vs1 g1 x (L2.wipe σ2 vs1) H' fun σ3 H5 => L2.wipe σ3 vs1 = L2.wipe σ2 vs1 ∧ lT K H0 tt1 σ3 H5 fun b H6 =>
            if b = true then lE K H0 te σ3 H6 fun y H7 => ∃ acc, H7 D = some (.lst acc) ∧ acc.length < sizeLine ∧ Nx1 (upd H7 D (.lst (acc ++ [y]))) else Nx1 H6)
        else Nx H3) := by
  obtain ⟨W, w0, ws, wd⟩ := p D (r1.free hD)
  refine ⟨fun i n H' => n = xs.length - i ∧ i ≤ xs.length ∧ ∃ acc m', Keep K H1 H' ∧ RM K H' (put m' D (.lst acc)) ∧ W i acc m', ⟨_, rfl, Nat.zero_le _, [], m1, Keep.new hD, r1.newPut hD .nil, w0⟩, ?_⟩
  rintro i n H2 ⟨rfl, hi, acc, m2, k2, r2, w⟩
  have L := l1 H2 k2 i _ r2 (xs[i]?) rfl
  cases e : xs[i]? with
  | none =>
    rw [e] at L
    have : i = xs.length := Nat.le_antisymm hi (List.getElem?_eq_none_iff.mp e)
    subst this
    exact .inl ⟨L, q _ _ _ H2 (k1.trans k2) r2 (.ref D) (wd acc m2 w)⟩
  | some x =>
    rw [e] at L
    have lt : i < xs.length := (List.getElem?_eq_some_iff.mp e).1
    refine .inr ⟨L.1, fun H' => ∃ acc m', Keep K H1 H' ∧ RM K H' (put m' D (.lst acc)) ∧ W (i + 1) acc m', ?_, fun v H3 yl => ?_⟩
    · rintro H' ⟨a2, m2, k2, r2, w2⟩
      exact ⟨xs.length - (i + 1), by omega, rfl, lt, a2, m2, k2, r2, w2⟩
    · obtain ⟨k3, r3, d3⟩ := L.2 v H3 yl
      have K3 : Keep K H1 H3 := k2.trans k3
      have K03 : Keep K H H3 := k1.trans K3
      have rest := ws i x acc m2 e w
      refine ⟨x, wipeD sd vs, _, _, ⟨(s0.mono K03).wipe vs, r3, k0.trans K03⟩, d3, rest, fun sd4 m4 σ4 H4 k4 s4 r4 hw p4 => ⟨hw.trans wipe_wipe, ?_⟩⟩
      have K4 : Keep K H1 H4 := K3.trans k4
      refine ⟨sd4, m4, _, ⟨s4, r4, k0.trans (k1.trans K4)⟩, p4, fun b m5 H5 k5 r5 p5 => ?_⟩
      have K5 : Keep K H1 H5 := K4.trans k5
      cases b with
      | true =>
        refine ⟨sd4, m5, _, ⟨s4.mono k5, r5, k0.trans (k1.trans K5)⟩, p5, fun z m6 u H6 k6 r6 d6 p6 => ?_⟩
        cases z with
        | tup zs =>
          obtain ⟨b, us, rfl, h1, h2⟩ := d6.tup_
          exact ⟨b, rfl, .inr ⟨⟨us, h1⟩, in_core (k0.trans k1) (K5.trans k6) ((s4.mono k5).mono k6) r6 (lift_tup h1 h2) p6⟩⟩
        | _ => exact p6.elim
      | false =>
        obtain ⟨m7, hl, w7⟩ := p5
        exact ⟨acc, m7, K5, r5.less hl, w7⟩
theorem l_lcE2 {ta : TDA} {σ : St} {H : Hp} {Q : VK} (h : lE K H0 (dLcE2 ta g tt ti g1 tt1 te vs vs1) σ H Q) : tLc2 (iEnumT K (lA K H0 ta)) (lG K H0 vs g) (lT K H0 tt) (iSq K (lE K H0 ti)) (lG K H0 vs1 g1) (lT K H0 tt1) (lE K H0 te) vs vs1 σ H Q := by
  obtain ⟨sd, m, P, a, p, q⟩ := h
  refine ⟨sd, m, _, a, p, fun d m' v H' k r rd p' => ?_⟩
  split at p'
  · obtain ⟨u, rfl, r1⟩ := rd.one_
    obtain ⟨b, us, rfl, h1, h2⟩ := r1.tup_
    exact ⟨b, us, rfl, h1, fun D hD => c2_core a.k k a.s r (lift_enumT h1 h2) q hD p'⟩
  · exact p'.elim
end
theorem qe_lc2X {X : Cx} {H0 : Hp} {g g1 : TDG} {tt tt1 : TDT} {te : TDE} {elt tg iter tg1 iter1 : Expr} {ifs ifs1 : List Expr} {scope : Scope} {own : List (Str × Nat)} {vs1 : List Nat} {pos : Pos} {wi wi1 : TI} {t' : TDE} (hc : X.calm = true) (hN : X.N.Nodup) (hi : PI X tg iter wi) (ok : BlkOk X.N X.env.scope scope own) (hv : ∀ i ∈ vs1, i ∈ own.map (·.2))
    (hg : ∀ (s : Shared) (H : Hp) (C : Addr) (cl : List (Str × Addr)) (fp : List Addr), PG (X.blk s H scope (compEnvC scope cl C X.env) fp) tg (lG X.K H0 (own.map (·.2)) g)) (ht : ∀ (s : Shared) (H : Hp) (C : Addr) (cl : List (Str × Addr)) (fp : List Addr), PTs (X.blk s H scope (compEnvC scope cl C X.env) fp) ifs (lT X.K H0 tt))
    (hi1 : ∀ (s : Shared) (H : Hp) (C : Addr) (cl : List (Str × Addr)) (fp : List Addr), PI (X.blk s H scope (compEnvC scope cl C X.env) fp) tg1 iter1 wi1)
    (hg1 : ∀ (s : Shared) (H : Hp) (C : Addr) (cl : List (Str × Addr)) (fp : List Addr), PG (X.blk s H scope (compEnvC scope cl C X.env) fp) tg1 (lG X.K H0 vs1 g1)) (ht1 : ∀ (s : Shared) (H : Hp) (C : Addr) (cl : List (Str × Addr)) (fp : List Addr), PTs (X.blk s H scope (compEnvC scope cl C X.env) fp) ifs1 (lT X.K H0 tt1))
    (he : ∀ (s : Shared) (H : Hp) (C : Addr) (cl : List (Str × Addr)) (fp : List Addr), PE (X.blk s H scope (compEnvC scope cl C X.env) fp) elt (lE X.K H0 te))
    (l : ∀ σ H Q, lE X.K H0 t' σ H Q → tLc2 wi (lG X.K H0 (own.map (·.2)) g) (lT X.K H0 tt) wi1 (lG X.K H0 vs1 g1) (lT X.K H0 tt1) (lE X.K H0 te) (own.map (·.2)) vs1 σ H Q)
    (hs : ∀ x, foldedSetIterable iter X.env x = pure x := by intro _; rfl) (hs1 : ∀ env x, foldedSetIterable iter1 env x = pure x := by intro _ _; rfl) :
    PE X (.ListComp elt [⟨tg, iter, ifs, 0⟩, ⟨tg1, iter1, ifs1, 0⟩] scope pos) (lE X.K H0 t') := peL (pe_lc2 hc hN hi ok hv hg ht hi1 hg1 ht1 he hs hs1) l
end Q4

set_option Elab.async false
set_option linter.all false
set_option maxRecDepth 100000
namespace Q4
open PySem L2
/-! ### dicts whose keys are ints and texts -/
def kD : Key → D
  | .inl i => .int i
  | .inr z => .str z
theorem RD.key_ {K : PySem.W.Frag} {H : Hp} {k : Key} {v : V} (r : RD K H (kD k) v) : v = kV k := by
  cases k with
  | inl i => exact r.int_
  | inr z => exact r.str_
def valD (kvs : List (Key × D)) (k : Key) : Option D := (kvs.find? fun p => decide (p.1 = k)).map (·.2)
def putD (kvs : List (Key × D)) (k : Key) (d : D) : List (Key × D) :=
  if kvs.any fun p => decide (p.1 = k) then kvs.map fun p => if p.1 = k then (p.1, d) else p else kvs ++ [(k, d)]
/-- two dicts that stand for each other -/
structure RK (K : PySem.W.Frag) (H : Hp) (kvs : List (Key × D)) (gs : List (Key × V)) : Prop where
  v : RDs K H (kvs.map (·.2)) (gs.map (·.2))
  k : kvs.map (·.1) = gs.map (·.1)
section
variable {K : PySem.W.Frag} {H H' : Hp}
theorem RK.nil : RK K H [] [] := ⟨.nil, rfl⟩
theorem RK.cons {p : Key × D} {q : Key × V} {kvs : List (Key × D)} {gs : List (Key × V)} (r : RK K H (p :: kvs) (q :: gs)) : p.1 = q.1 ∧ RD K H p.2 q.2 ∧ RK K H kvs gs := by
  have e := r.k
  rw [List.map_cons, List.map_cons] at e
  have v := r.v
  rw [List.map_cons, List.map_cons] at v
  cases v with
  | cons a b => exact ⟨(List.cons.inj e).1, a, b, (List.cons.inj e).2⟩
theorem RK.mk_cons {p : Key × D} {q : Key × V} {kvs : List (Key × D)} {gs : List (Key × V)} (e : p.1 = q.1) (h : RD K H p.2 q.2) (r : RK K H kvs gs) : RK K H (p :: kvs) (q :: gs) :=
  ⟨.cons h r.v, by rw [List.map_cons, List.map_cons, e, r.k]⟩
theorem RK.mono {kvs : List (Key × D)} {gs : List (Key × V)} (r : RK K H kvs gs) (k : Keep K H H') : RK K H' kvs gs := ⟨r.v.mono k, r.k⟩
theorem RK.length {kvs : List (Key × D)} {gs : List (Key × V)} (r : RK K H kvs gs) : kvs.length = gs.length := by
  have := r.v.length
  rwa [List.length_map, List.length_map] at this
theorem RK.val (k : Key) : ∀ {kvs : List (Key × D)} {gs : List (Key × V)}, RK K H kvs gs → match valD kvs k with
    | some d => ∃ v, valV gs k = some v ∧ RD K H d v
    | none => valV gs k = none
  | [], [], _ => rfl
  | [], _ :: _, r => by have := r.length; cases this
  | _ :: _, [], r => by have := r.length; cases this
  | p :: kvs, q :: gs, r => by
    obtain ⟨e, h, r'⟩ := r.cons
    by_cases hk : p.1 = k
    · have e1 : valD (p :: kvs) k = some p.2 := by simp [valD, hk]
      rw [e1]
      exact ⟨q.2, valV_pos (e.symm.trans hk), h⟩
    · have e1 : valD (p :: kvs) k = valD kvs k := by simp [valD, hk]
      rw [e1, valV_neg (fun z => hk (e.trans z))]
      exact RK.val k r'
theorem RK.any (k : Key) : ∀ {kvs : List (Key × D)} {gs : List (Key × V)}, RK K H kvs gs → (kvs.any fun p => decide (p.1 = k)) = gs.any fun p => decide (p.1 = k)
  | [], [], _ => rfl
  | [], _ :: _, r => by have := r.length; cases this
  | _ :: _, [], r => by have := r.length; cases this
  | p :: kvs, q :: gs, r => by
    obtain ⟨e, h, r'⟩ := r.cons
    rw [List.any_cons, List.any_cons, e, RK.any k r']
theorem RK.app {d : D} {v : V} (k : Key) (h : RD K H d v) : ∀ {kvs : List (Key × D)} {gs : List (Key × V)}, RK K H kvs gs → RK K H (kvs ++ [(k, d)]) (gs ++ [(k, v)])
  | [], [], _ => .mk_cons rfl h .nil
  | [], _ :: _, r => by have := r.length; cases this
  | _ :: _, [], r => by have := r.length; cases this
  | p :: kvs, q :: gs, r => let ⟨e, h', r'⟩ := r.cons; .mk_cons e h' (RK.app k h r')
theorem RK.repl {d : D} {v : V} (k : Key) (h : RD K H d v) : ∀ {kvs : List (Key × D)} {gs : List (Key × V)}, RK K H kvs gs → RK K H (kvs.map fun p => if p.1 = k then (p.1, d) else p) (gs.map fun p => if p.1 = k then (p.1, v) else p)
  | [], [], _ => .nil
  | [], _ :: _, r => by have := r.length; cases this
  | _ :: _, [], r => by have := r.length; cases this
  | p :: kvs, q :: gs, r => by
    obtain ⟨e, h', r'⟩ := r.cons
    rw [List.map_cons, List.map_cons]
    by_cases hk : p.1 = k
    · rw [if_pos hk, if_pos (e.symm.trans hk)]
      exact .mk_cons e h (RK.repl k h r')
    · rw [if_neg hk, if_neg fun z => hk (e.trans z)]
      exact .mk_cons e h' (RK.repl k h r')
theorem RK.put {d : D} {v : V} {kvs : List (Key × D)} {gs : List (Key × V)} (k : Key) (h : RD K H d v) (r : RK K H kvs gs) : RK K H (putD kvs k d) (putK gs k v) := by
  unfold putD putK
  rw [← r.any k]
  split
  · exact r.repl k h
  · exact r.app k h
theorem Keep.dk {p : Addr} {gs : List (Key × V)} {o : HO} (h : H p = some (.dK gs)) : Keep K H (upd H p o) := by
  refine ⟨fun a xs q => ?_, fun a xs q => ?_⟩
  · rcases q with (q | ⟨o', q⟩) | q
    · exact .inl (.inl ((upd_ne (ne_of q h (by simp))).trans q))
    · exact .inl (.inr ⟨o', (upd_ne (ne_of q h (by simp))).trans q⟩)
    · exact .inr q
  · rcases q with ⟨o', q⟩ | q
    · exact .inl ⟨o', (upd_ne (ne_of q h (by simp))).trans q⟩
    · exact .inr q
theorem RM.dict {m : M} {a : Addr} {kvs : List (Key × D)} (r : RM K H m) (h : m a = some (.dct kvs)) : ∃ gs, H a = some (.dK gs) ∧ RK K H kvs gs := by
  obtain ⟨gs, e, v, k⟩ := r a _ h
  exact ⟨gs, e, v, k⟩
theorem RM.newDct {m : M} (r : RM K H m) {p : Addr} {gs : List (Key × V)} {kvs : List (Key × D)} (h : H p = none) (q : RK K H kvs gs) : RM K (upd H p (.dK gs)) (put m p (.dct kvs)) := fun a u e => by
  by_cases n : a = p
  · subst n
    rw [put_same] at e
    cases e
    exact ⟨gs, upd_same, (q.mono (Keep.new h)).v, q.k⟩
  · rw [put_ne n] at e
    exact (r a u e).stay (Keep.new h) (upd_ne n)
theorem RM.setDct {m : M} (r : RM K H m) {p : Addr} {gs gs' : List (Key × V)} {kvs : List (Key × D)} (h : H p = some (.dK gs)) (q : RK K H kvs gs') : RM K (upd H p (.dK gs')) (put m p (.dct kvs)) := fun a u e => by
  by_cases n : a = p
  · subst n
    rw [put_same] at e
    cases e
    exact ⟨gs', upd_same, (q.mono (Keep.dk h)).v, q.k⟩
  · rw [put_ne n] at e
    exact (r a u e).stay (Keep.dk h) (upd_ne n)
end
/-- t[u] of a dict -/
def dDGet (t u : TDE) : TDE := fun sd m P => t sd m fun x m1 => u sd m1 fun y m2 => ∃ a kvs k d, x = .ref a ∧ y = kD k ∧ m2 a = some (.dct kvs) ∧ valD kvs k = some d ∧ P d m2
/-- t in u, t not in u -/
def dDIn (t u : TDE) : TDE := fun sd m P => t sd m fun y m1 => u sd m1 fun x m2 => ∃ a kvs k, x = .ref a ∧ y = kD k ∧ m2 a = some (.dct kvs) ∧ P (.bl (valD kvs k).isSome) m2
def dDNotIn (t u : TDE) : TDE := fun sd m P => t sd m fun y m1 => u sd m1 fun x m2 => ∃ a kvs k, x = .ref a ∧ y = kD k ∧ m2 a = some (.dct kvs) ∧ P (.bl (!(valD kvs k).isSome)) m2
/-- t[u] = v -/
def dDPut (t u v : TDE) : TDS := fun D sd m => v sd m fun z m1 => t sd m1 fun x m2 => u sd m2 fun y m3 => ∃ a kvs k, x = .ref a ∧ y = kD k ∧ m3 a = some (.dct kvs) ∧ kvs.length < sizeLine ∧ D.nx sd (put m3 a (.dct (putD kvs k z)))
/-- {} -/
def dDNew : TDE := fun _ m P => ∀ p, m p = none → P (.ref p) (put m p (.dct []))
section
variable {X : Cx} {H0 : Hp} {a b c : Expr} {pos pos' : Pos} {t u v : TDE}
theorem qe_dget (hu : X.A.units + 64 < cLine) (ha : PE X a (lE X.K H0 t)) (hb : PE X b (lE X.K H0 u)) (hs : NoSl b) : PE X (.Subscript a b pos) (lE X.K H0 (dDGet t u)) := peL (pe_dget (by omega) ha hb hs) fun σ H Q h => by
  obtain ⟨sd, m, P, aa, p, q⟩ := h
  refine ⟨sd, m, _, aa, p, fun x m1 w1 H1 k1 r1 d1 p1 => ⟨sd, m1, _, aa.to k1 r1, p1, fun y m2 w2 H2 k2 r2 d2 p2 => ?_⟩⟩
  obtain ⟨ad, kvs, k, d, rfl, rfl, hm, hv, p3⟩ := p2
  obtain rfl := d1.ref_
  obtain rfl := d2.key_
  obtain ⟨gs, e, rk⟩ := r2.dict hm
  have z := rk.val k
  rw [hv] at z
  obtain ⟨w, e1, rd⟩ := z
  exact ⟨ad, w, rfl, by have g := DGet.k (k := k) e; rw [e1] at g; exact g, q _ m2 _ H2 (k1.trans k2) r2 rd p3⟩
theorem isSome_eq {K : PySem.W.Frag} {H : Hp} {kvs : List (Key × D)} {gs : List (Key × V)} (r : RK K H kvs gs) (k : Key) : (valV gs k).isSome = (valD kvs k).isSome := by
  have z := r.val k
  cases e : valD kvs k with
  | none => rw [e] at z; rw [z]; rfl
  | some d => rw [e] at z; obtain ⟨v, e1, _⟩ := z; rw [e1]; rfl
theorem qt_din (hu : X.A.units + 64 < cLine) (ha : PE X a (lE X.K H0 t)) (hb : PE X b (lE X.K H0 u)) (hm : behindInMarks .In b = false) : PE X (.Compare a [.In] [b] pos) (lE X.K H0 (dDIn t u)) := peL (pe_cmp (pc_din (by omega) ha hb) hm) fun σ H Q h => by
  obtain ⟨sd, m, P, aa, p, q⟩ := h
  refine ⟨sd, m, _, aa, p, fun y m1 w1 H1 k1 r1 d1 p1 => ⟨sd, m1, _, aa.to k1 r1, p1, fun x m2 w2 H2 k2 r2 d2 p2 => ?_⟩⟩
  obtain ⟨ad, kvs, k, rfl, rfl, hmm, p3⟩ := p2
  obtain rfl := d2.ref_
  obtain rfl := d1.key_
  obtain ⟨gs, e, rk⟩ := r2.dict hmm
  exact ⟨ad, _, rfl, DGet.k e, by rw [isSome_eq rk k]; exact q _ m2 _ H2 (k1.trans k2) r2 (.bl _) p3⟩
theorem qt_dnotin (hu : X.A.units + 64 < cLine) (ha : PE X a (lE X.K H0 t)) (hb : PE X b (lE X.K H0 u)) (hm : behindInMarks .NotIn b = false) : PE X (.Compare a [.NotIn] [b] pos) (lE X.K H0 (dDNotIn t u)) := peL (pe_cmp (pc_dnotin (by omega) ha hb) hm) fun σ H Q h => by
  obtain ⟨sd, m, P, aa, p, q⟩ := h
  refine ⟨sd, m, _, aa, p, fun y m1 w1 H1 k1 r1 d1 p1 => ⟨sd, m1, _, aa.to k1 r1, p1, fun x m2 w2 H2 k2 r2 d2 p2 => ?_⟩⟩
  obtain ⟨ad, kvs, k, rfl, rfl, hmm, p3⟩ := p2
  obtain rfl := d2.ref_
  obtain rfl := d1.key_
  obtain ⟨gs, e, rk⟩ := r2.dict hmm
  exact ⟨ad, _, rfl, DGet.k e, by rw [isSome_eq rk k]; exact q _ m2 _ H2 (k1.trans k2) r2 (.bl _) p3⟩
theorem qe_dnew : PE X (.Dict [] [] pos) (lE X.K H0 dDNew) := peL pe_dnewK fun σ H Q h => by
  obtain ⟨sd, m, P, aa, p, q⟩ := h
  exact fun z hz => q _ _ _ _ (Keep.new hz) (aa.m.newDct hz .nil) (.ref z) (p z (aa.m.free hz))
theorem qs_dput (hu : X.A.units + 64 < cLine) (ha : PE X a (lE X.K H0 t)) (hb : PE X b (lE X.K H0 u)) (hc : PE X c (lE X.K H0 v)) (hs : swapsWith c (some (.Subscript a b pos')) pos.line X.env = pure false) :
    PS X (.Assign [.Subscript a b pos'] c pos) (lS X.K H0 (dDPut t u v)) := psL (ps_dput (by omega) ha hb hc hs) fun D σ H h => by
  obtain ⟨sd, m, DD, aa, p, q⟩ := h
  refine ⟨sd, m, _, aa, p, fun z m1 w1 H1 k1 r1 d1 p1 => ⟨sd, m1, _, aa.to k1 r1, p1, fun x m2 w2 H2 k2 r2 d2 p2 => ⟨sd, m2, _, (aa.to k1 r1).to k2 r2, p2, fun y m3 w3 H3 k3 r3 d3 p3 => ?_⟩⟩⟩
  obtain ⟨ad, kvs, k, rfl, rfl, hm, hl, p4⟩ := p3
  obtain rfl := d2.ref_
  obtain rfl := d3.key_
  obtain ⟨gs, e, rk⟩ := r3.dict hm
  have K3 := (k1.trans k2).trans k3
  have rz := d1.mono (k2.trans k3)
  refine ⟨ad, _, rfl, DPut.k e (by rw [← rk.length]; exact hl), ?_⟩
  have KK : Keep X.K H (upd H3 ad (.dK (putK gs k w1))) := K3.trans (Keep.dk e)
  exact q.1 _ _ _ _ KK (aa.s.mono KK) (r3.setDct e (rk.put k rz)) p4
end
end Q4

set_option Elab.async false
set_option linter.all false
set_option maxRecDepth 100000
namespace Q4
open PySem L2
open PyProof.Rows (envOfC)
/-! ### statements that are never reached -/
def dDead : TDS := fun _ _ _ => False
theorem qs_dead {X : Cx} {H0 : Hp} {st : Stmt} : PS X st (lS X.K H0 dDead) := ⟨fun pins s σ H D I h => by
  obtain ⟨sd, m, DD, a, p, _⟩ := h
  exact p.elim⟩
/-! ### defs whose last parameters are given by name -/
structure FunAtK (K : PySem.W.Frag) (mg : Str → Option Value) (x : Str) (st : Stmt) (ps ks : List Str) : Prop where
  ex : ∃ f fd, Fun K x x st f fd ∧ mg x = some (.ref f) ∧ ∀ us ws : List Value, us.length = ps.length → ws.length = ks.length → bindArgs fd ⟨us, ks.zip ws⟩ = pure ((ps ++ ks).zip (us ++ ws))
structure CalleeK (P : Program) (w : World) (K : PySem.W.Frag) (mg : Str → Option Value) (k : Nat) (x : Str) (ps ks : List Str) (d : DSp) : Prop where
  ex : ∃ f fd, mg x = some (.ref f) ∧ PySem.W.keepIn K (.ref f) = true ∧ (∀ us ws : List Value, us.length = ps.length → ws.length = ks.length → bindArgs fd ⟨us, ks.zip ws⟩ = pure ((ps ++ ks).zip (us ++ ws))) ∧ ∀ base, FnOk P w K mg base CX0 k f fd (ps ++ ks) (lSp K d)
section
variable {P : Program} {w : World} {K : PySem.W.Frag} {mg : Str → Option Value} {x : Str} {st : Stmt} {ps ks N : List Str} {d d' : DSp} {k j : Nat}
theorem CalleeK.mono (C : CalleeK P w K mg j x ps ks d) (h : j ≤ k) : CalleeK P w K mg k x ps ks d := by
  obtain ⟨f, fd, a, b, c, e⟩ := C.ex
  exact ⟨f, fd, a, b, c, fun base => (e base).mono h⟩
theorem FunAtK.callee (F : FunAtK K mg x st ps ks) (S : FnScope N (ps ++ ks) (defScope st)) (len : ∀ ds m P EX, d ds m P EX → ds.length = (ps ++ ks).length)
    (t : TDS) (hread : ∀ ds m P EX, d ds m P EX → t { nx := fun _ m' => Ret P .non m', rt := Ret P } (dstart N ds) m)
    (hbody : ∀ (base : Heap) (f : Addr) (cdv : Value) (A : Around) (outer : List Env) (s : Shared) (H : Hp) (E : XK), Room k (A.deeper (envOfC x (defScope st) s.heap.objs.size f cdv)) → PSs (cxOf CX0 P w K mg base N x (defScope st) f cdv A outer s H E).nox (defBody st) (lS K H t)) :
    CalleeK P w K mg (k + 1) x ps ks d := by
  obtain ⟨f, fd, F1, a, c⟩ := F.ex
  exact ⟨f, fd, a, F1.kp, c, fun base => Fun.okD F1 S len t hread (hbody base f)⟩
theorem FunAtK.of {h : Heap} {f : Addr} {oc kV doc pm cdv ct : Value} {od an : Option Addr} {osl : Array (Option Value)} (X : K.In h) (G : h.Ns mainGlobals mg)
    (a1 : PySem.W.nsIn K mainGlobals x = some (some (.ref f))) (l1 : K.lookup f = some ⟨oc, od, .func (PySem.W.fnOf x x (defArgs st) (defBody st) (defScope st) .none kV doc pm an cdv ct), osl⟩) (c1 : PySem.W.codeIn K cdv x = true) (k1 : PySem.W.keepIn K (.ref f) = true)
    (hb : ∀ (kV doc pm : Value) (an : Option Addr) (cdv ct : Value) (us ws : List Value), us.length = ps.length → ws.length = ks.length → bindArgs (PySem.W.fnOf x x (defArgs st) (defBody st) (defScope st) .none kV doc pm an cdv ct) ⟨us, ks.zip ws⟩ = pure ((ps ++ ks).zip (us ++ ws))) : FunAtK K mg x st ps ks :=
  ⟨f, _, fun_mk l1 c1 k1, PySem.W.mg_of X G a1, hb kV doc pm an cdv ct⟩
end
section
variable {X : Cx} {H0 : Hp}
theorem pkL {kws : List Keyword} {t t' : TA} (h : PK X kws t) (l : ∀ σ H Q, t' σ H Q → t σ H Q) : PK X kws t' := ⟨fun pos pins s σ H Q I q => h.run pos pins s σ H Q I (l σ H Q q)⟩
theorem qk_nil : PK X [] (lA X.K H0 dNil) := pkL pk_nil fun σ H Q h => by
  obtain ⟨sd, m, P, a, p, q⟩ := h
  exact q [] m [] H (Keep.refl _) a.m .nil p
theorem qk_cons {nm : Option Str} {e : Expr} {kpos : Pos} {kws : List Keyword} {te : TDE} {t : TDA} (ha : PE X e (lE X.K H0 te)) (hr : PK X kws (lA X.K H0 t)) : PK X (⟨nm, e, kpos⟩ :: kws) (lA X.K H0 (dCons te t)) :=
  pkL (pk_cons ha hr) fun _ _ _ => l_cons
def dCallK (d : DSp) (a b : Nat) (t tk : TDA) : TDE := fun sd m P => t sd m fun xs m1 => tk sd m1 fun ys m2 => xs.length = a ∧ ys.length = b ∧ d (xs ++ ys) m2 P noX
def both {α : Type} (a b : Nat) (us ws : List α) : List α := if us.length = a ∧ ws.length = b then us ++ ws else []
theorem qe_fnK {k : Nat} {ps ks : List Str} {d : DSp} {x : Str} {p pos : Pos} {e : Expr} {es : List Expr} {kws : List Keyword} {t tk : TDA} (C : CalleeK X.prog X.w X.K X.mg k x ps ks d) (hr : Room k X.A) (hg : Gl X x)
    (ha : PA X (e :: es) (lA X.K H0 t)) (hkw : PK X kws (lA X.K H0 tk)) (hne : 0 < (ps ++ ks).length) {na nb : Nat} (hna : ps.length = na) (hnb : ks.length = nb) (hall : (backToKw pos (keywordEach kws X.env)).all (·.1.isSome) = true := by rfl) (hks : (backToKw pos (keywordEach kws X.env)).filterMap (·.1) = ks := by rfl)
    (hdb : (x == ("__debug__" : Str)) = false := by decide) (he : starEach (e :: es) X.env = (false, eval e X.env) :: starEach es X.env := by rfl)
    (hpl : ((backTo pos (starEach (e :: es) X.env)).any (·.1) || (backToKw pos (keywordEach kws X.env)).any (·.1.isNone)) = false := by rfl) :
    PE X (.Call (.Name x p) (e :: es) kws pos) (lE X.K H0 (dCallK d na nb t tk)) := by
  subst hna hnb
  obtain ⟨f, fd, a, b, c, F⟩ := C.ex
  have kb : KBinds X.K fd (ps ++ ks) ks (both ps.length ks.length) (both ps.length ks.length) := by
    refine ⟨fun s us ws _ hl => ?_, fun {vs us zs ws} r rz => ?_⟩
    · unfold both at hl ⊢
      split at hl
      · rename_i z
        rw [if_pos z]
        exact .of_eq (c us ws z.1 z.2)
      · rw [List.length_nil] at hl
        omega
    · unfold both
      rw [← r.length, ← rz.length]
      split
      · exact r.append rz
      · exact .nil
  refine peL (pe_callK (E := E0) (F X.base) hr hg a b kb pass0 ha hkw hall hks hdb he hpl) fun σ H Q h => ?_
  obtain ⟨sd, m, P, aa, p, q⟩ := h
  refine ⟨sd, m, _, aa, p, fun xs m1 us H1 k1 r1 d1 p1 => ⟨sd, m1, _, aa.to k1 r1, p1, fun ys m2 ws H2 k2 r2 d2 p2 => ?_⟩⟩
  obtain ⟨l1, l2, p3⟩ := p2
  unfold both
  rw [if_pos ⟨by rw [← d1.length]; exact l1, by rw [← d2.length]; exact l2⟩]
  exact ⟨xs ++ ys, m2, P, noX, (d1.mono k2).append d2, r2, p3, fun d m' w H' k => q d m' w H' ((k1.trans k2).trans k), wantsX0⟩
end
end Q4

set_option Elab.async false
set_option linter.all false
set_option maxRecDepth 100000
namespace Q4
open PySem L2
/-! ### in, not in for dicts; is None -/
def rInK : R2D := fun y x m P => ∃ a kvs k, x = .ref a ∧ y = kD k ∧ m a = some (.dct kvs) ∧ P (.bl (valD kvs k).isSome) m
def rNotInK : R2D := fun y x m P => ∃ a kvs k, x = .ref a ∧ y = kD k ∧ m a = some (.dct kvs) ∧ P (.bl (!(valD kvs k).isSome)) m
section
variable {X : Cx} {H0 : Hp}
theorem od_inK (hu : X.A.units + 64 < cLine) : OpD X (compareOp .In) rInK := by
  refine ⟨fun y x H Q => ∃ a o, x = .ref a ∧ DGet H a y o ∧ Q (.bl o.isSome) H, ?_, fun H m x y u v P Q rm rx ry p q => ?_⟩
  · intro pins s σ H y x v u Q I r1 r2 h
    obtain ⟨a, o, rfl, g, q⟩ := h
    obtain rfl : u = Value.ref a := r2
    exact d_in (by omega) I g r1 fun s' I' => ⟨.bl o.isSome, H, I', rfl, q⟩
  · obtain ⟨a, kvs, k, rfl, rfl, hm, p⟩ := p
    obtain rfl := ry.ref_
    obtain rfl := rx.key_
    obtain ⟨gs, e, rk⟩ := rm.dict hm
    exact ⟨a, _, rfl, DGet.k e, by rw [isSome_eq rk k]; exact q _ m _ H (Keep.refl _) rm (.bl _) p⟩
theorem od_notInK (hu : X.A.units + 64 < cLine) : OpD X (compareOp .NotIn) rNotInK := by
  refine ⟨fun y x H Q => ∃ a o, x = .ref a ∧ DGet H a y o ∧ Q (.bl (!o.isSome)) H, ?_, fun H m x y u v P Q rm rx ry p q => ?_⟩
  · intro pins s σ H y x v u Q I r1 r2 h
    obtain ⟨a, o, rfl, g, q⟩ := h
    obtain rfl : u = Value.ref a := r2
    exact d_notIn (by omega) I g r1 fun s' I' => ⟨.bl (!o.isSome), H, I', rfl, q⟩
  · obtain ⟨a, kvs, k, rfl, rfl, hm, p⟩ := p
    obtain rfl := ry.ref_
    obtain rfl := rx.key_
    obtain ⟨gs, e, rk⟩ := rm.dict hm
    exact ⟨a, _, rfl, DGet.k e, by rw [isSome_eq rk k]; exact q _ m _ H (Keep.refl _) rm (.bl _) p⟩
def nonB : D → Bool
  | .non => true
  | _ => false
theorem RD.nonB {K : PySem.W.Frag} {H : Hp} {d : D} {v : V} (r : RD K H d v) : decide (v = .non) = Q4.nonB d := by
  cases r <;> simp [Q4.nonB]
def dIsN (t : TDE) : TDE := fun sd m P => t sd m fun x m1 => P (.bl (nonB x)) m1
def dNotN (t : TDE) : TDE := fun sd m P => t sd m fun x m1 => P (.bl (!nonB x)) m1
theorem l_isN {K : PySem.W.Frag} {t : TDE} {σ : St} {H : Hp} {Q : VK} (h : lE K H0 (dIsN t) σ H Q) : tIsN (lE K H0 t) σ H Q := by
  obtain ⟨sd, m, P, a, p, q⟩ := h
  exact ⟨sd, m, _, a, p, fun d m' v H' k r rd p' => by show Q (.bl (decide (v = .non))) H'; rw [rd.nonB]; exact q _ m' _ H' k r (.bl _) p'⟩
theorem l_notN {K : PySem.W.Frag} {t : TDE} {σ : St} {H : Hp} {Q : VK} (h : lE K H0 (dNotN t) σ H Q) : tNotN (lE K H0 t) σ H Q := by
  obtain ⟨sd, m, P, a, p, q⟩ := h
  exact ⟨sd, m, _, a, p, fun d m' v H' k r rd p' => by show Q (.bl (!decide (v = .non))) H'; rw [rd.nonB]; exact q _ m' _ H' k r (.bl _) p'⟩
theorem l_BN {K : PySem.W.Frag} {t : TDE} {u : TE} {σ : St} {H : Hp} {Q : Bool → Hp → Prop} (l : ∀ σ H Q, lE K H0 t σ H Q → u σ H Q) (h : lT K H0 (dB t) σ H Q) : tB u σ H Q := by
  obtain ⟨sd, m, P, a, p, q⟩ := h
  refine l _ _ _ ⟨sd, m, _, a, p, fun d m' v H' k r rd p' => ?_⟩
  cases d with
  | bl b => cases rd.bl_; exact ⟨b, rfl, q b m' H' k r p'⟩
  | _ => exact p'.elim
theorem qe_isN {a : Expr} {j} {pos pos' : Pos} {t : TDE} (ha : PE X a (lE X.K H0 t)) : PE X (.Compare a [.Is] [.Constant .none j pos'] pos) (lE X.K H0 (dIsN t)) := peL (pe_cmp (pc_isN ha)) fun _ _ _ => l_isN
theorem qe_notN {a : Expr} {j} {pos pos' : Pos} {t : TDE} (ha : PE X a (lE X.K H0 t)) : PE X (.Compare a [.IsNot] [.Constant .none j pos'] pos) (lE X.K H0 (dNotN t)) := peL (pe_cmp (pc_notN ha)) fun _ _ _ => l_notN
theorem qt_isN {a : Expr} {j} {pos pos' : Pos} {t : TDE} (ha : PE X a (lE X.K H0 t)) : PT X (.Compare a [.Is] [.Constant .none j pos'] pos) (lT X.K H0 (dB (dIsN t))) := ptL (pt_cmp (pc_isN ha)) fun _ _ _ => l_BN fun _ _ _ => l_isN
theorem qt_notN {a : Expr} {j} {pos pos' : Pos} {t : TDE} (ha : PE X a (lE X.K H0 t)) : PT X (.Compare a [.IsNot] [.Constant .none j pos'] pos) (lT X.K H0 (dB (dNotN t))) := ptL (pt_cmp (pc_notN ha)) fun _ _ _ => l_BN fun _ _ _ => l_notN
end
end Q4

set_option Elab.async false
set_option linter.all false
set_option maxRecDepth 100000
namespace Q4
open PySem L2 LiI
/-! ### a dict display with one pair -/
def dDisp1 (t u : TDE) : TDE := fun sd m P => ∀ p, m p = none → t sd (put m p (.dct [])) fun y m1 => u sd m1 fun z m2 => ∃ k, y = kD k ∧ m2 p = some (.dct []) ∧ P (.ref p) (put m2 p (.dct [(k, z)]))
section
variable {X : Cx} {H0 : Hp}
theorem l_disp1 {K : PySem.W.Frag} {t u : TDE} {σ : St} {H : Hp} {Q : VK} (h : lE K H0 (dDisp1 t u) σ H Q) : tDisp [(lE K H0 t, lE K H0 u)] σ H Q := by
  obtain ⟨sd, m, P, a, p, q⟩ := h
  intro z hz
  have kz : Keep K H (upd H z (.dK [])) := Keep.new hz
  refine ⟨sd, put m z (.dct []), _, ⟨a.s.mono kz, a.m.newDct hz .nil, a.k.trans kz⟩, p z (a.m.free hz), fun y m1 w1 H1 k1 r1 d1 p1 => ?_⟩
  refine ⟨sd, m1, _, ⟨(a.s.mono kz).mono k1, r1, (a.k.trans kz).trans k1⟩, p1, fun x m2 w2 H2 k2 r2 d2 p2 => ?_⟩
  obtain ⟨k, rfl, hm, p3⟩ := p2
  obtain rfl := d1.key_
  obtain ⟨gs, e, rk⟩ := r2.dict hm
  have : gs = [] := List.eq_nil_of_length_eq_zero rk.length.symm
  subst this
  refine ⟨e, [(k, w2)], rfl, by show 1 ≤ 15; decide, ?_⟩
  have e1 : mergeK [] [(k, w2)] = [(k, w2)] := rfl
  rw [e1]
  have KK := (kz.trans k1).trans k2
  exact q _ _ _ _ (KK.trans (Keep.dk e)) (r2.setDct e (.mk_cons rfl d2 .nil)) (.ref z) p3
theorem qe_disp1 {a b : Expr} {pos : Pos} {t u : TDE} (ha : PE X a (lE X.K H0 t)) (hb : PE X b (lE X.K H0 u)) : PE X (.Dict [some a] [b] pos) (lE X.K H0 (dDisp1 t u)) :=
  peL (pe_disp (pps_cons ha hb pps_nil) rfl rfl (by simp) (by show 1 ≤ 15; decide)) fun _ _ _ => l_disp1
/-- list(t.items()) -/
def dItems (t : TDE) : TDE := fun sd m P => t sd m fun x m1 => ∃ a kvs, x = .ref a ∧ m1 a = some (.dct kvs) ∧ ∀ p, m1 p = none → P (.ref p) (put m1 p (.lst (kvs.map fun q => .tup [kD q.1, q.2])))
theorem Keep.grow {K : PySem.W.Frag} {H H' : Hp} (h : ∀ b o, H b = some o → H' b = some o) : Keep K H H' := by
  refine ⟨fun a xs q => ?_, fun a xs q => ?_⟩
  · rcases q with (q | ⟨o', q⟩) | q
    · exact .inl (.inl (h _ _ q))
    · exact .inl (.inr ⟨o', h _ _ q⟩)
    · exact .inr q
  · rcases q with ⟨o', q⟩ | q
    · exact .inl ⟨o', h _ _ q⟩
    · exact .inr q
theorem RM.grow {K : PySem.W.Frag} {H H' : Hp} {m : M} (r : RM K H m) (h : ∀ b o, H b = some o → H' b = some o) : RM K H' m := fun a o e => by
  have q := r a o e
  have k : Keep K H H' := Keep.grow h
  cases o with
  | lst xs => obtain ⟨vs, e1, d⟩ := q; exact ⟨vs, h _ _ e1, d.mono k⟩
  | ins C dx fs => obtain ⟨vs, e1, d⟩ := q; exact ⟨vs, h _ _ e1, d.1.mono k, d.2⟩
  | dct kvs => obtain ⟨vs, e1, d⟩ := q; exact ⟨vs, h _ _ e1, d.1.mono k, d.2⟩
theorem items_rds {K : PySem.W.Frag} {H H' : Hp} (k : Keep K H H') : ∀ {kvs : List (Key × D)} {gs : List (Key × V)} {ts : List Addr}, RK K H kvs gs → Paired (fun (t : Addr) (q : Key × V) => H' t = some (.tup [kV q.1, q.2])) ts gs →
    RDs K H' (kvs.map fun q => .tup [kD q.1, q.2]) (ts.map V.ref)
  | [], [], _, _, .nil => .nil
  | [], _ :: _, _, r, _ => by have := r.length; cases this
  | _ :: _, [], _, r, _ => by have := r.length; cases this
  | p :: kvs, q :: gs, _, r, .cons h t => by
    obtain ⟨e, d, r'⟩ := r.cons
    refine .cons (.tup (.inl (.inl h)) (.cons ?_ (.cons (d.mono k) .nil))) (items_rds k r' t)
    rw [← e]
    cases p.1 with
    | inl i => exact .int i
    | inr z => exact .str z
theorem l_items {K : PySem.W.Frag} {t : TDE} {σ : St} {H : Hp} {Q : VK} (h : lE K H0 (dItems t) σ H Q) : tListItems (lE K H0 t) σ H Q := by
  obtain ⟨sd, m, P, a, p, q⟩ := h
  refine ⟨sd, m, _, a, p, fun x m1 u H1 k1 r1 d1 p1 => ?_⟩
  obtain ⟨ad, kvs, rfl, hm, p2⟩ := p1
  obtain rfl := d1.ref_
  obtain ⟨gs, e, rk⟩ := r1.dict hm
  refine ⟨ad, gs, rfl, e, fun H2 b ts hk hb _ _ hl hp => ?_⟩
  have k2 : Keep K H1 H2 := Keep.grow hk
  refine q _ _ _ _ (k1.trans k2) ?_ (.ref b) (p2 b (r1.free hb))
  intro c o eo
  by_cases n : c = b
  · subst n
    rw [put_same] at eo
    cases eo
    exact ⟨_, hl, items_rds k2 rk hp⟩
  · rw [put_ne n] at eo
    exact r1.grow hk c o eo
theorem qe_items {a : Expr} {p apos cpos pos : Pos} {t : TDE} (hc : X.calm = true) (ha : PE X a (lE X.K H0 t)) (hg : Gl X "list") (hm : X.mg "list" = none) (hv : bootBuiltins "list" = some (.type "list")) (hbase : attributeBase a "items" X.env (eval a X.env) = eval a X.env := by rfl) (hline : (apos.endLine == cpos.line) = true := by rfl)
    (hs : starEach [.Call (.Attribute a "items" apos) [] [] cpos] X.env = (false, eval (.Call (.Attribute a "items" apos) [] [] cpos) X.env) :: starEach [] X.env := by rfl) :
    PE X (.Call (.Name "list" p) [.Call (.Attribute a "items" apos) [] [] cpos] [] pos) (lE X.K H0 (dItems t)) := peL (pe_listItems hc ha hg hm hv hbase hline hs) fun _ _ _ => l_items
/-- list(t) of a dict: its keys -/
def rListK : RnD := fun xs m P => ∃ a kvs, xs = [.ref a] ∧ m a = some (.dct kvs) ∧ ∀ p, m p = none → P (.ref p) (put m p (.lst (kvs.map fun q => kD q.1)))
theorem keys_rds {K : PySem.W.Frag} {H : Hp} : ∀ {kvs : List (Key × D)} {gs : List (Key × V)}, RK K H kvs gs → RDs K H (kvs.map fun q => kD q.1) (gs.map fun q => kV q.1)
  | [], [], _ => .nil
  | [], _ :: _, r => by have := r.length; cases this
  | _ :: _, [], r => by have := r.length; cases this
  | p :: kvs, q :: gs, r => by
    obtain ⟨e, d, r'⟩ := r.cons
    refine .cons ?_ (keys_rds r')
    show RD K H (kD p.1) (kV q.1)
    rw [← e]
    cases p.1 with
    | inl i => exact .int i
    | inr z => exact .str z
theorem cd_listK (hc : X.calm = true) : CallD X (.type "list") rListK := by
  refine ⟨_, call_listD hc, fun H m xs us P Q rm rx p q => ?_⟩
  obtain ⟨a, kvs, rfl, hm, p⟩ := p
  obtain ⟨u, rfl, r⟩ := rx.one_
  obtain rfl := r.ref_
  obtain ⟨gs, e, rk⟩ := rm.dict hm
  exact ⟨a, gs, rfl, .inl e, fun z hz => q _ _ _ _ (Keep.new hz) (rm.newPut hz (keys_rds rk)) (.ref z) (p z (rm.free hz))⟩
end
end Q4

set_option Elab.async false
set_option linter.all false
set_option maxRecDepth 100000
namespace Q4
open PySem L2 PySem.Spec PyProof.Rows
/-! ### == of lists -/
def okL (xs : List D) : Prop := SeqAt.shaped (.list (D.pys xs)) = true
def eqL (xs ys : List D) : Bool := PyData.eqv (.list (D.pys xs)) (.list (D.pys ys))
def rEqL : R2D := fun x y m P => ∃ xs ys, isL m x xs ∧ isL m y ys ∧ okL xs ∧ okL ys ∧ P (.bl (eqL xs ys)) m
section
variable {X : Cx}
theorem od_eqL (hu : X.A.units + 64 < cLine) : OpD X (compareOp .Eq) rEqL := by
  refine ⟨_, op_eqD hu, fun H m x y u v P Q rm rx ry p q => ?_⟩
  obtain ⟨xs, ys, h1, h2, o1, o2, p⟩ := p
  obtain ⟨a, vs, rfl, s1, d1⟩ := rm.list rx h1
  obtain ⟨b, ws, rfl, s2, d2⟩ := rm.list ry h2
  have c1 := SeqAt.canLay_of_shaped o1
  have c2 := SeqAt.canLay_of_shaped o2
  exact ⟨_, _, .lst s1 (dps_of d1 (by simpa [PyData.canLay0] using c1)), .lst s2 (dps_of d2 (by simpa [PyData.canLay0] using c2)), o1, o2, q _ m _ H (Keep.refl _) rm (.bl _) p⟩
end
def rNeL : R2D := fun x y m P => ∃ xs ys, isL m x xs ∧ isL m y ys ∧ okL xs ∧ okL ys ∧ P (.bl (!eqL xs ys)) m
section
variable {X : Cx}
theorem od_neL (hu : X.A.units + 64 < cLine) : OpD X (compareOp .NotEq) rNeL := by
  refine ⟨_, op_neD hu, fun H m x y u v P Q rm rx ry p q => ?_⟩
  obtain ⟨xs, ys, h1, h2, o1, o2, p⟩ := p
  obtain ⟨a, vs, rfl, s1, d1⟩ := rm.list rx h1
  obtain ⟨b, ws, rfl, s2, d2⟩ := rm.list ry h2
  have c1 := SeqAt.canLay_of_shaped o1
  have c2 := SeqAt.canLay_of_shaped o2
  exact ⟨_, _, .lst s1 (dps_of d1 (by simpa [PyData.canLay0] using c1)), .lst s2 (dps_of d2 (by simpa [PyData.canLay0] using c2)), o1, o2, q _ m _ H (Keep.refl _) rm (.bl _) p⟩
end
/-- data that can be laid, at most n deep -/
structure ShD (n : Nat) (d : D) : Prop where
  l : d.py.canLay0 = true
  d : d.py.depth ≤ n
theorem ShD.mono {n k : Nat} {d : D} (h : ShD n d) (e : n ≤ k) : ShD k d := ⟨h.l, Nat.le_trans h.d e⟩
theorem ShD.all {n : Nat} : ∀ {xs : List D}, (∀ x ∈ xs, ShD n x) → PyData.canLayAll0 (D.pys xs) = true ∧ PyData.depthAll (D.pys xs) ≤ n
  | [], _ => ⟨rfl, Nat.zero_le _⟩
  | x :: xs, h => by
    have h1 := h x List.mem_cons_self
    have h2 := ShD.all (xs := xs) fun y hy => h y (List.mem_cons_of_mem _ hy)
    have d1 := h1.d
    refine ⟨?_, ?_⟩
    · show (x.py.canLay0 && PyData.canLayAll0 (D.pys xs)) = true
      rw [h1.l, h2.1]; rfl
    · show PyData.depthAll (x.py :: D.pys xs) ≤ n
      rw [PyData.depthAll]
      omega
theorem ShD.tup {n : Nat} {xs : List D} (h : ∀ x ∈ xs, ShD n x) : ShD (n + 1) (.tup xs) := by
  have h2 := ShD.all h
  refine ⟨?_, ?_⟩
  · show PyData.canLay0 (.tuple (D.pys xs)) = true
    rw [PyData.canLay0]; exact h2.1
  · show PyData.depth (.tuple (D.pys xs)) ≤ n + 1
    rw [PyData.depth]; omega
theorem okL_of {n : Nat} {xs : List D} (h : ∀ x ∈ xs, ShD n x) (e : n + 1 ≤ 64) : okL xs := by
  have h2 := ShD.all h
  unfold okL SeqAt.shaped
  rw [Bool.and_eq_true]
  refine ⟨?_, decide_eq_true ?_⟩
  · show PyData.canLay0 (.list (D.pys xs)) = true
    rw [PyData.canLay0]; exact h2.1
  · show PyData.depth (.list (D.pys xs)) ≤ 64
    rw [PyData.depth]; omega
theorem okD_of {n : Nat} {d : D} (h : ShD n d) (e : n ≤ 64) : okD d := by
  unfold okD SeqAt.shaped
  rw [Bool.and_eq_true]
  exact ⟨h.l, decide_eq_true (Nat.le_trans h.d e)⟩
theorem eqL_refl {xs : List D} (h : okL xs) : eqL xs xs = true := SeqAt.eqv_refl _ (SeqAt.canLay_of_shaped h)
/-! ### x in a tuple of data -/
theorem units65 {k : Nat} {A : Around} (r : Room k A) : A.units + 65 < cLine := by have := r.un; omega
def rInT : R2D := fun x y m P => ∃ ys, y = .tup ys ∧ okD x ∧ okD (.tup ys) ∧ P (.bl (ys.any fun z => eqD z x)) m
theorem any_pys (d : PyData) : ∀ ys : List D, ((D.pys ys).any fun z => PyData.eqv z d) = ys.any fun z => PyData.eqv z.py d
  | [] => rfl
  | y :: ys => by
    show ((y.py :: D.pys ys).any fun z => PyData.eqv z d) = _
    rw [List.any_cons, List.any_cons, any_pys d ys]
section
variable {X : Cx}
theorem od_inT (hu : X.A.units + 65 < cLine) : OpD X (compareOp .In) rInT := by
  refine ⟨fun x y H Q => ∃ d ds, Dp X.K H x d ∧ Dp X.K H y (.tuple ds) ∧ SeqAt.shaped d = true ∧ SeqAt.shaped (.tuple ds) = true ∧ Q (.bl (ds.any fun z => PyData.eqv z d)) H, ?_, fun H m x y u v P Q rm rx ry p q => ?_⟩
  · intro pins s σ H x y v u Q I rx ry h
    obtain ⟨d, ds, hd, he, sd, se, q⟩ := h
    obtain ⟨as, r1⟩ := Dp.reads I d x v hd rx
    obtain ⟨bs, r2⟩ := Dp.reads I (.tuple ds) y u he ry
    exact SeqAt.in_tuple_reads r2 r1 (SeqAt.canLay_of_shaped se) (SeqAt.canLay_of_shaped sd) (room_in_shaped sd hu) ⟨.bl _, H, I, rfl, q⟩
  · obtain ⟨ys, rfl, o1, o2, p⟩ := p
    have c2 := SeqAt.canLay_of_shaped o2
    refine ⟨_, D.pys ys, dp_of rx (SeqAt.canLay_of_shaped o1), dp_of ry c2, o1, o2, ?_⟩
    rw [any_pys]
    exact q _ m _ H (Keep.refl _) rm (.bl _) p
end
end Q4

set_option Elab.async false
set_option linter.all false
set_option maxRecDepth 100000
namespace Q4
open PySem L2
open PyProof.Rows (envOfC)
/-! ### defs that raise: the wish of exceptions, by the slots -/
abbrev DX := DS → DXK
def WW (K : PySem.W.Frag) (H0 : Hp) (ex : DX) (W : WX) : Prop := ∀ sd σ c fo m' od H', Keep K H0 H' → RS K H' sd σ → RM K H' m' → XRel K H' fo od → ex sd c fo m' → W c od σ H'
/-- the wish of a def, whatever its slots are -/
abbrev outX (EX : DXK) : DX := fun _ => EX
theorem WW.out {K : PySem.W.Frag} {H : Hp} {EX : DXK} {E : XK} (h : WantsX K H EX E) : WW K H (outX EX) (fun c d _ H' => E c d H') := fun _ _ c fo m' od H' k _ r x e => h c fo m' od H' k r x e
def dCallX (ex : DX) (d : DSp) (t : TDA) : TDE := fun sd m P => t sd m fun xs m1 => d xs m1 P (ex sd)
theorem l_callX {K : PySem.W.Frag} {H0 : Hp} {ex : DX} {W : WX} {d : DSp} {t : TDA} {σ : St} {H : Hp} {Q : VK} (ww : WW K H0 ex W) (h : lE K H0 (dCallX ex d t) σ H Q) : tCallS (lSp K d) (WE W) (lA K H0 t) σ H Q := by
  obtain ⟨sd, m, P, a, p, q⟩ := h
  refine ⟨sd, m, _, a, p, fun xs m1 us H1 k1 r1 d1 p1 => ?_⟩
  exact ⟨xs, m1, P, ex sd, d1, r1, p1, fun d m' w H' k => q d m' w H' (k1.trans k), fun c fo m' od H' k r x e => ww sd σ c fo m' od H' ((a.k.trans k1).trans k) (a.s.mono (k1.trans k)) r x e⟩
structure CalleeX (P : Program) (w : World) (K : PySem.W.Frag) (mg : Str → Option Value) (k : Nat) (x : Str) (ps : List Str) (d : DSp) : Prop where
  ex : ∃ f fd, mg x = some (.ref f) ∧ PySem.W.keepIn K (.ref f) = true ∧ (∀ us : List Value, us.length = ps.length → bindArgs fd ⟨us, []⟩ = pure (ps.zip us)) ∧ ∀ base, FnOk P w K mg base (L2.CX P w) k f fd ps (lSp K d)
section
variable {P : Program} {w : World} {K : PySem.W.Frag} {mg : Str → Option Value} {x : Str} {st : Stmt} {ps N : List Str} {d d' : DSp} {k j : Nat}
theorem CalleeX.mono (C : CalleeX P w K mg j x ps d) (h : j ≤ k) : CalleeX P w K mg k x ps d := by
  obtain ⟨f, fd, a, b, c, e⟩ := C.ex
  exact ⟨f, fd, a, b, c, fun base => (e base).mono h⟩
theorem Fun.okXD {base : Heap} {qual : Str} {f : Addr} {fd : FuncData} (F : Fun K x qual st f fd) (S : FnScope N ps (defScope st)) (len : ∀ ds m P EX, d ds m P EX → ds.length = ps.length)
    (t : DX → TDS) (hread : ∀ ds m P EX, d ds m P EX → t (outX EX) { nx := fun _ m' => Ret P .non m', rt := Ret P } (dstart N ds) m)
    (hbody : ∀ (cdv : Value) (A : Around) (outer : List Env) (s : Shared) (H : Hp) (E : XK) (ex : DX), Room k (A.deeper (envOfC qual (defScope st) s.heap.objs.size f cdv)) → WW K H ex (fun c d _ H' => E c d H') →
      PSs (cxOf (L2.CX P w) P w K mg base N qual (defScope st) f cdv A outer s H E) (defBody st) (lS K H (t ex))) :
    FnOk P w K mg base (L2.CX P w) (k + 1) f fd ps (lSp K d) := by
  refine L2.Fun.okX F S (fun vs H Q E h => ?_) (fun cdv A outer s H vs Q E hr h => ?_)
  · obtain ⟨ds, m, P, EX, r, _, h, _⟩ := h
    rw [← r.length]
    exact len _ _ _ _ h
  · obtain ⟨ds, m, P', EX, r, rm, h, q, qx⟩ := h
    refine ⟨_, hbody cdv A outer s H E (outX EX) hr (WW.out qx), dstart N ds, m, _, ⟨RS.start r, rm, Keep.refl _⟩, hread ds m P' EX h, ?_, ?_, ?_, ?_⟩
    · rintro sd' m' σ' H' k s r ⟨m2, l, p⟩
      exact q _ m2 _ H' k (r.less l) .non p
    · rintro d m' v H' k r rd ⟨m2, l, p⟩
      exact q _ m2 _ H' k (r.less l) rd p
    · exact fun _ _ _ _ _ _ _ h => h
    · exact fun _ _ _ _ _ _ _ h => h
theorem FunAt.calleeX (F : FunAt K mg x st ps) (S : FnScope N ps (defScope st)) (len : ∀ ds m P EX, d ds m P EX → ds.length = ps.length)
    (t : DX → TDS) (hread : ∀ ds m P EX, d ds m P EX → t (outX EX) { nx := fun _ m' => Ret P .non m', rt := Ret P } (dstart N ds) m)
    (hbody : ∀ (base : Heap) (f : Addr) (cdv : Value) (A : Around) (outer : List Env) (s : Shared) (H : Hp) (E : XK) (ex : DX), Room k (A.deeper (envOfC x (defScope st) s.heap.objs.size f cdv)) → WW K H ex (fun c d _ H' => E c d H') →
      PSs (cxOf (L2.CX P w) P w K mg base N x (defScope st) f cdv A outer s H E) (defBody st) (lS K H (t ex))) : CalleeX P w K mg (k + 1) x ps d := by
  obtain ⟨f, fd, F1, a, c⟩ := F.ex
  exact ⟨f, fd, a, F1.kp, c, fun base => Fun.okXD F1 S len t hread (hbody base f)⟩
end
section
variable {X : Cx} {H0 : Hp} {ex : DX} {W : WX}
theorem qe_fnX {k : Nat} {ps : List Str} {d : DSp} {x : Str} {p pos : Pos} {e : Expr} {es : List Expr} {t : TDA} (C : CalleeX X.prog X.w X.K X.mg k x ps d) (hr : Room k X.A) (tk : Takes X W) (ww : WW X.K H0 ex W) (hg : Gl X x)
    (ha : PA X (e :: es) (lA X.K H0 t)) (hdb : (x == ("__debug__" : Str)) = false := by decide) (he : starEach (e :: es) X.env = (false, eval e X.env) :: starEach es X.env := by rfl) (hpl : (backTo pos (starEach es X.env)).any (·.1) = false := by rfl) :
    PE X (.Call (.Name x p) (e :: es) [] pos) (lE X.K H0 (dCallX ex d t)) := by
  obtain ⟨f, fd, a, b, c, F⟩ := C.ex
  exact peL (pe_callS (F X.base) hr hg a b (.all c) (fun σ => passAt tk σ) ha hdb he hpl) fun _ _ _ => l_callX ww
/-! ### f-texts -/
def dFmt (t : TDE) : TDE := fun sd m P => t sd m fun x m1 => (∃ y : Str, x = .str y ∧ y.length ≤ sizeLine ∧ P (.str y) m1) ∨ ∃ i : Int, x = .int i ∧ i.natAbs.log2 < 1920 ∧ P (.str (toString i)) m1
def dFmtR (t : TDE) : TDE := fun sd m P => t sd m fun x m1 => (∃ y : Str, x = .str y ∧ (reprText y).length ≤ sizeLine ∧ P (.str (reprText y)) m1) ∨ ∃ i : Int, x = .int i ∧ i.natAbs.log2 < 1920 ∧ P (.str (toString i)) m1
theorem qe_fmt {e : Expr} {t : TDE} {pos : Pos} (he : PE X e (lE X.K H0 t)) : PE X (.FormattedValue e (-1) none pos) (lE X.K H0 (dFmt t)) := peL (pe_fmt he) fun σ H Q h => by
  obtain ⟨sd, m, P, a, p, q⟩ := h
  refine ⟨sd, m, _, a, p, fun d m1 v H1 k r rd p1 => ?_⟩
  rcases p1 with ⟨y, rfl, h1, p1⟩ | ⟨i, rfl, h1, p1⟩
  · obtain rfl := rd.str_
    exact .inl ⟨y, rfl, h1, q _ m1 _ H1 k r (.str _) p1⟩
  · obtain rfl := rd.int_
    exact .inr ⟨i, rfl, h1, q _ m1 _ H1 k r (.str _) p1⟩
theorem qe_fmtR {e : Expr} {t : TDE} {pos : Pos} (he : PE X e (lE X.K H0 t)) : PE X (.FormattedValue e 114 none pos) (lE X.K H0 (dFmtR t)) := peL (pe_fmtR he) fun σ H Q h => by
  obtain ⟨sd, m, P, a, p, q⟩ := h
  refine ⟨sd, m, _, a, p, fun d m1 v H1 k r rd p1 => ?_⟩
  rcases p1 with ⟨y, rfl, h1, p1⟩ | ⟨i, rfl, h1, p1⟩
  · obtain rfl := rd.str_
    exact .inl ⟨y, rfl, h1, q _ m1 _ H1 k r (.str _) p1⟩
  · obtain rfl := rd.int_
    exact .inr ⟨i, rfl, h1, q _ m1 _ H1 k r (.str _) p1⟩
def dJs : List TDE → Str → DS → M → (Str → M → Prop) → Prop
  | [], acc, _, m, Q => Q acc m
  | t :: ts, acc, sd, m, Q => t sd m fun x m1 => ∃ y : Str, x = .str y ∧ (acc ++ y).length ≤ sizeLine ∧ dJs ts (acc ++ y) sd m1 Q
def dJoin (ts : List TDE) : TDE := fun sd m P => dJs ts Str.empty sd m fun out m1 => P (.str out) m1
theorem l_js {K : PySem.W.Frag} {H0 : Hp} {sd : DS} {σ : St} : ∀ {ts : List TDE} {acc : Str} {m : M} {H : Hp} {P : Str → M → Prop} {Q : Str → Hp → Prop}, At K H0 sd m σ H → dJs ts acc sd m P → (∀ z m' H', Keep K H H' → RM K H' m' → P z m' → Q z H') → tJs (ts.map (lE K H0)) acc σ H Q
  | [], acc, m, H, P, Q, a, p, q => q acc m H (Keep.refl _) a.m p
  | t :: ts, acc, m, H, P, Q, a, p, q => ⟨sd, m, _, a, p, fun d m1 v H1 k r rd ⟨y, e, hl, p2⟩ => by
    subst e
    obtain rfl := rd.str_
    exact ⟨y, rfl, hl, l_js (a.to k r) p2 fun z m' H' k' r' => q z m' H' (k.trans k') r'⟩⟩
inductive QJ (X : Cx) (H0 : Hp) : List Expr → List TDE → Prop where
  | nil : QJ X H0 [] []
  | cons {e : Expr} {t : TDE} {es : List Expr} {ts : List TDE} (h : PE X e (lE X.K H0 t)) (r : QJ X H0 es ts) : QJ X H0 (e :: es) (t :: ts)
theorem QJ.pj : ∀ {es : List Expr} {ts : List TDE}, QJ X H0 es ts → PJ X es (ts.map (lE X.K H0))
  | _, _, .nil => .nil
  | _, _, .cons h r => .cons h r.pj
theorem qe_joined {v1 v2 : Expr} {rest : List Expr} {ts : List TDE} {pos : Pos} (h : QJ X H0 (v1 :: v2 :: rest) ts) : PE X (.JoinedStr (v1 :: v2 :: rest) pos) (lE X.K H0 (dJoin ts)) := peL (pe_joined h.pj) fun σ H Q h => by
  obtain ⟨sd, m, P, a, p, q⟩ := h
  exact l_js a p fun z m' H' k r p => q (.str z) m' _ H' k r (.str _) p
/-! ### raise -/
structure ExcAt (K : PySem.W.Frag) (mg : Str → Option Value) (x : Str) (C : Addr) : Prop where
  g : mg x = some (.ref C)
  k : PySem.W.keepIn K (.ref C) = true
  q : PySem.W.excIn K C [.type "ValueError", .type "Exception", .type "BaseException", .type "object"] "ValueError.__new__" = true
  s : PySem.W.subIn K (.ref C) (.type "BaseException") = some true
  t : PySem.W.typeIn K (.ref C) = some (.type "type")
def dRaise (ex : DX) (C : Addr) (t : TDA) : TDS := fun _ sd m => t sd m fun xs m1 => xs.length ≤ sizeLine ∧ ex sd (.ref C) none m1
theorem qs_raise {x : Str} {C : Addr} {e : Expr} {es : List Expr} {t : TDA} {p pos pos' : Pos} (hc : X.calm = true) (F : ExcAt X.K X.mg x C) (tk : Takes X W) (ww : WW X.K H0 ex W) (hg : Gl X x) (ha : PA X (e :: es) (lA X.K H0 t)) (hdb : (x == ("__debug__" : Str)) = false := by decide)
    (he : starEach (e :: es) X.env = (false, eval e X.env) :: starEach es X.env := by rfl) (hpl : (backTo pos (starEach es X.env)).any (·.1) = false := by rfl) :
    PS X (.Raise (some (.Call (.Name x p) (e :: es) [] pos)) none pos') (lS X.K H0 (dRaise ex C t)) :=
  psL (ps_raise hc tk (pmk_ownA PySem.F.excBase_ValueError F.q F.g F.k (raises_own F.s F.t) hg ha hdb he hpl)) fun D σ H h => by
    obtain ⟨sd, m, DD, a, p, _⟩ := h
    refine ⟨sd, m, _, a, p, fun xs m1 us H1 k r rd p1 => ?_⟩
    obtain ⟨hl, p2⟩ := p1
    exact ⟨by rw [← rd.length]; exact hl, ww sd σ _ none m1 none H1 (a.k.trans k) (a.s.mono k) r trivial p2⟩
end
end Q4

set_option Elab.async false
set_option linter.all false
set_option maxRecDepth 100000
namespace Q4
open PySem L2 PySem.Spec PyProof.Rows
/-! ### isinstance of a caught error -/
inductive ClsD : D → V → Value → Prop where
  | ty (n : String) : ClsD (.ty n) (.ty n) (.type n)
  | own (C : Addr) : ClsD (.ref C) (.ref C) (.ref C)
theorem ClsD.rd {K : PySem.W.Frag} {H : Hp} {c : D} {v v' : V} {u : Value} (h : ClsD c v u) (r : RD K H c v') : v' = v := by
  cases h with
  | ty n => exact r.ty_
  | own C => exact r.ref_
theorem ClsD.cv {c : D} {v : V} {u : Value} (h : ClsD c v u) : ClsV v u := by
  cases h with
  | ty n => exact .ty n
  | own C => exact .own C
/-- what isinstance answers for an error of the class E -/
structure Isa (K : PySem.W.Frag) (E : Addr) (isa : D → Option Bool) : Prop where
  one : ∀ c b, isa c = some b → ∃ v u, ClsD c v u ∧ PySem.W.kitOne K (.ref E) u = some b
def isaAny (isa : D → Option Bool) : List D → Option Bool
  | [] => some false
  | c :: cs => match isa c, isaAny isa cs with
    | some b, some r => some (b || r)
    | _, _ => none
theorem Isa.any {K : PySem.W.Frag} {H : Hp} {E : Addr} {isa : D → Option Bool} (Z : Isa K E isa) : ∀ {cs : List D} {r : Bool}, isaAny isa cs = some r → ∀ {vs : List V}, RDs K H cs vs → ∃ us, Paired ClsV vs us ∧ PySem.W.kitAny K (.ref E) us = some r
  | [], r, e, _, .nil => by
    cases e
    exact ⟨[], .nil, kitAny_nil⟩
  | c :: cs, r, e, _, .cons h t => by
    unfold isaAny at e
    split at e
    · rename_i b r' e1 e2
      obtain ⟨v, u, k, e3⟩ := Z.one c b e1
      obtain ⟨us, p, e4⟩ := Z.any e2 t
      obtain rfl := k.rd h
      refine ⟨u :: us, .cons k.cv p, ?_⟩
      cases e
      refine kitAny_cons e3 (fun hb => ?_) (fun hb => ?_)
      · subst hb; simpa using e4
      · subst hb; rfl
    · cases e
def rIsX (a : Addr) (isa : D → Option Bool) : RnD := fun xs m P => (∃ c b, xs = [.ref a, c] ∧ isa c = some b ∧ P (.bl b) m) ∨ ∃ cs b, xs = [.ref a, .tup cs] ∧ isaAny isa cs = some b ∧ P (.bl b) m
theorem cd_isX {X : Cx} {a E : Addr} {oe : Obj} {pn : List (Addr × Obj)} {isa : D → Option Bool} (C : ExcC X.K E) (hz : Zc (.ref E) none oe) (hf : ∃ vs, oe.data = .fields vs) (Z : Isa X.K E isa) : CallD (X.suite a ((a, oe) :: pn)) (.builtin "isinstance") (rIsX a isa) := by
  refine ⟨fun xs H Q => (∃ (c : V) (cv : Value) (b : Bool), xs = [.ref a, c] ∧ (∀ u, RelV c u → u = cv) ∧ PySem.W.kitOne X.K (.ref E) cv = some b ∧ Q (.bl b) H) ∨
    ∃ (tp : Addr) (cs : List V) (us : List Value) (b : Bool), xs = [.ref a, .ref tp] ∧ SqT X.K H tp cs ∧ Paired ClsV cs us ∧ PySem.W.kitAny X.K (.ref E) us = some b ∧ Q (.bl b) H, ?_, fun H m xs us P Q rm rx p q => ?_⟩
  · intro pins s σ H xs us Q I r h
    rcases h with h | ⟨tp, cs, ws, b, rfl, hT, k, e, q⟩
    · exact call_isE C hz hf pins s σ H xs us Q I r h
    · cases r with
      | cons rx rr =>
        cases rr with
        | cons rt rr =>
          cases rr
          cases rx
          cases rt
          obtain ⟨hget, _⟩ := I.pin (a, oe) (List.mem_append.mpr (.inl List.mem_cons_self))
          obtain ⟨vs, hv⟩ := hf
          have J : PySem.W.InstAt s.heap a oe E none := by
            obtain ⟨oc, od, oda, osl⟩ := oe
            obtain ⟨h1, h2⟩ := hz
            dsimp only at h1 h2 hv
            subst h1 h2 hv
            exact ⟨hget, rfl, rfl, trivial⟩
          obtain ⟨its, rv, ⟨o, ho, hc, n, hd⟩, _⟩ := I.tuple hT
          have e3 := ClsV.all k rv
          subst e3
          obtain ⟨oc, od, dt, sl⟩ := o
          simp only at hc hd
          subst hc hd
          exact PySem.W.kia_tup (PySem.W.handS_kitx_exc C.hg C.hk C.hs C.hd C.ha C.hn C.ht C.hm) I.kIn J ho e (fun z => nomatch z) fun tk => ⟨.bl b, H, I.kept (t' := tk) fun _ _ z => z, rfl, q⟩
  · rcases p with ⟨c, b, rfl, e, p⟩ | ⟨cs, b, rfl, e, p⟩
    · obtain ⟨u, v, rfl, r1, r2⟩ := rx.two_
      cases r1.ref_
      obtain ⟨v', cv, k, e2⟩ := Z.one c b e
      obtain rfl := k.rd r2
      exact .inl ⟨_, cv, b, rfl, fun u hu => k.cv.eq hu, e2, q _ m _ H (Keep.refl _) rm (.bl _) p⟩
    · obtain ⟨u, v, rfl, r1, r2⟩ := rx.two_
      cases r1.ref_
      obtain ⟨tp, vs, rfl, h1, h2⟩ := r2.tup_
      obtain ⟨us, k, e2⟩ := Z.any e h2
      exact .inr ⟨tp, vs, us, b, rfl, h1, k, e2, q _ m _ H (Keep.refl _) rm (.bl _) p⟩
end Q4

set_option Elab.async false
set_option linter.all false
set_option maxRecDepth 100000
namespace Q4
open PySem L2 PySem.Spec PyProof.Rows
theorem RS.setNone {K : PySem.W.Frag} {H : Hp} {sd : DS} {σ : L2.St} (r : RS K H sd σ) (i : Nat) : RS K H (sd.set i none) (σ.set i none) :=
  ⟨by rw [List.length_set, List.length_set, r.len], fun j d e => by
    rw [List.getElem?_set] at e
    by_cases hj : i = j
    · rw [if_pos hj] at e
      split at e <;> cases e
    · rw [if_neg hj] at e
      obtain ⟨v, e1, q⟩ := r.get j d e
      exact ⟨v, by rw [List.getElem?_set, if_neg hj]; exact e1, q⟩⟩
/-! ### try: body, except x as n: suite -/
/-- the ends of a suite: the name is gone behind it -/
def DEnds.off (DD : DEnds) (i : Nat) : DEnds := { nx := fun sd m => DD.nx (sd.set i none) m, rt := DD.rt, bk := fun sd m => DD.bk (sd.set i none) m, ct := fun sd m => DD.ct (sd.set i none) m }
def dTryAs (hit : Value → Option Bool) (i : Nat) (b : DX → TDS) (suite : Addr → TDS) (ex : DX) : TDS := fun DD sd m =>
  b (fun sd' cls fo m' => ∃ bb, hit cls = some bb ∧ (bb = true → fo = none ∧ ∀ a, m' a = none → suite a (DD.off i) (sd'.set i (some (.ref a))) m') ∧ (bb = false → ex sd' cls fo m')) DD sd m
section
variable {X : Cx} {H0 : Hp} {ex : DX} {Wout : WX} {x n : Str} {c : Value} {E : Addr} {hit : Value → Option Bool} {i : Nat} {body rest : List Stmt} {b₀ : Stmt} {np pos pos' : Pos} {b : DX → TDS} {suite : Addr → TDS}
theorem qs_tryAs (hs : X.stack = X.env :: X.outer) (hf : X.env.frame = some X.env.locals) (hN : X.N.Nodup) (hi : X.N[i]? = some n) (hln : X.env.kindOf n = some .local) (hc : Names X x c) (tk : Takes X Wout) (ww : WW X.K H0 ex Wout)
    (hh : ∀ cls bb, hit cls = some bb → PySem.W.exmOne X.K cls c = some bb ∧ (bb = true → cls = .ref E))
    (hb : ∀ (H1 : Hp) (exx : DX) (W : WX) (pn : List (Addr × Obj)) (xe : Value → Shared → Prop), Takes (X.tr pn xe) W → PassesOwn (model X.prog X.w) X.A X.env xe → WW X.K H1 exx W → PSs (X.tr pn xe) body (lS X.K H1 (b exx)))
    (hsu : ∀ (a : Addr) (oe : Obj) (pn : List (Addr × Obj)), Zc (.ref E) none oe → (∃ vs, oe.data = .fields vs) → PSs (X.suite a ((a, oe) :: pn)) (b₀ :: rest) (lS X.K H0 (suite a))) :
    PS X (.Try body [.ExceptHandler (some (.Name x np)) (some n) (b₀ :: rest) pos'] [] [] pos) (lS X.K H0 (dTryAs hit i b suite ex)) :=
  psL (ps_try_as (tb := fun W D σ H => ∃ exx, WW X.K H exx W ∧ lS X.K H (b exx) D σ H) (ts := fun a cls d D σ H => cls = .ref E ∧ d = none ∧ lS X.K H0 (suite a) D σ H) hs hf hN hi hln hc tk
    (fun W pn xe tkk po => ⟨fun pins s σ H D I h => by
      obtain ⟨exx, w1, h⟩ := h
      exact (hb H exx W pn xe tkk po w1).run pins s σ H D I h⟩)
    (fun a oe cls d pn hz hd => ⟨fun pins s σ H D I h => by
      obtain ⟨e1, e2, h⟩ := h
      subst e1 e2
      exact (hsu a oe pn hz hd).run pins s σ H D I h⟩)) fun D σ H h => by
    obtain ⟨sd, m, DD, a0, p, q1, q2, q3, q4⟩ := h
    refine ⟨_, fun sd' σ' cls fo m' od H' k rs rm xr he => ?_, sd, m, DD, ⟨a0.s, a0.m, Keep.refl _⟩, p, q1, q2, q3, q4⟩
    obtain ⟨bb, e, h1, h2⟩ := he
    refine ⟨bb, (hh cls bb e).1, fun hb a ha => ?_, fun hb => ww sd' σ' cls fo m' od H' (a0.k.trans k) rs rm xr (h2 hb)⟩
    obtain ⟨hfo, h3⟩ := h1 hb
    subst hfo
    have hod : od = none := by
      cases od with
      | none => rfl
      | some d => exact xr.elim
    refine ⟨(hh cls bb e).2 hb, hod, _, m', DD.off i, ⟨rs.set i (.ref a), rm, a0.k.trans k⟩, h3 a (rm.free ha), ?_, ?_, ?_, ?_⟩
    · exact fun sd2 m2 σ2 H2 k2 r2 rm2 p2 => q1 _ m2 _ H2 (k.trans k2) (r2.setNone i) rm2 p2
    · exact fun d m2 v H2 k2 rm2 rd p2 => q2 d m2 v H2 (k.trans k2) rm2 rd p2
    · exact fun sd2 m2 σ2 H2 k2 r2 rm2 p2 => q3 _ m2 _ H2 (k.trans k2) (r2.setNone i) rm2 p2
    · exact fun sd2 m2 σ2 H2 k2 r2 rm2 p2 => q4 _ m2 _ H2 (k.trans k2) (r2.setNone i) rm2 p2
end
/-! ### calls by name that may raise -/
def dCallKX (ex : DX) (d : DSp) (a b : Nat) (t tk : TDA) : TDE := fun sd m P => t sd m fun xs m1 => tk sd m1 fun ys m2 => xs.length = a ∧ ys.length = b ∧ d (xs ++ ys) m2 P (ex sd)
structure CalleeKX (P : Program) (w : World) (K : PySem.W.Frag) (mg : Str → Option Value) (k : Nat) (x : Str) (ps ks : List Str) (d : DSp) : Prop where
  ex : ∃ f fd, mg x = some (.ref f) ∧ PySem.W.keepIn K (.ref f) = true ∧ (∀ us ws : List Value, us.length = ps.length → ws.length = ks.length → bindArgs fd ⟨us, ks.zip ws⟩ = pure ((ps ++ ks).zip (us ++ ws))) ∧ ∀ base, FnOk P w K mg base (L2.CX P w) k f fd (ps ++ ks) (lSp K d)
section
variable {P : Program} {w : World} {K : PySem.W.Frag} {mg : Str → Option Value} {x : Str} {st : Stmt} {ps ks N : List Str} {d d' : DSp} {k j : Nat}
theorem CalleeKX.mono (C : CalleeKX P w K mg j x ps ks d) (h : j ≤ k) : CalleeKX P w K mg k x ps ks d := by
  obtain ⟨f, fd, a, b, c, e⟩ := C.ex
  exact ⟨f, fd, a, b, c, fun base => (e base).mono h⟩
theorem FunAtK.calleeX (F : FunAtK K mg x st ps ks) (S : FnScope N (ps ++ ks) (defScope st)) (len : ∀ ds m P EX, d ds m P EX → ds.length = (ps ++ ks).length)
    (t : DX → TDS) (hread : ∀ ds m P EX, d ds m P EX → t (outX EX) { nx := fun _ m' => Ret P .non m', rt := Ret P } (dstart N ds) m)
    (hbody : ∀ (base : Heap) (f : Addr) (cdv : Value) (A : Around) (outer : List Env) (s : Shared) (H : Hp) (E : XK) (ex : DX), Room k (A.deeper (envOfC x (defScope st) s.heap.objs.size f cdv)) → WW K H ex (fun c d _ H' => E c d H') →
      PSs (cxOf (L2.CX P w) P w K mg base N x (defScope st) f cdv A outer s H E) (defBody st) (lS K H (t ex))) : CalleeKX P w K mg (k + 1) x ps ks d := by
  obtain ⟨f, fd, F1, a, c⟩ := F.ex
  exact ⟨f, fd, a, F1.kp, c, fun base => Fun.okXD F1 S len t hread (hbody base f)⟩
end
section
variable {X : Cx} {H0 : Hp} {ex : DX} {W : WX} {CX : CXT} {k : Nat} {f : Addr} {fd : FuncData} {ps ks : List Str} {sp : Sp} {E : L2.St → XK} {x : Str} {p pos : Pos} {e : Expr} {es : List Expr} {kws : List Keyword} {t tk : TA} {g : List Value → List Value → List Value} {gV : List V → List V → List V}
theorem run_fnkS {pins : List (Addr × Obj)} {σ : L2.St} {H : Hp} {s : Shared} {Q : VK} {us ws : List Value} {vs zs : List V} (F : FnOk X.prog X.w X.K X.mg X.base CX k f fd ps sp) (hr : Room k X.A) (hb : KBinds X.K fd ps ks g gV) (hx : PassesAt CX X σ (E σ))
    (I : Inv X pins σ H s) (r : Vals vs us) (rz : Vals zs ws) (h : sp (gV vs zs) H Q (E σ)) : wpAny (model X.prog X.w) X.A (call (.ref f) us (ks.zip ws)) (EP X pins σ Q) X.xe s := by
  have r2 := hb.rel r rz
  have hl : (g us ws).length = ps.length := by rw [← r2.length]; exact F.len _ _ _ _ h
  refine wpAny_call (codeAny_mono (F.run X.A X.stack s H ⟨us, ks.zip ws⟩ (g us ws) (gV vs zs) Q (E σ) hr I.env0 (hb.to s us ws I.kIn hl) r2 h) fun r s' hq => ?_)
  cases r with
  | error e => exact hx pins H s e s' I hq
  | ok fl =>
    cases fl with
    | ret u => exact I.after hq
    | next => exact False.elim hq
    | brk => exact False.elim hq
    | cont => exact False.elim hq
def tCallKS (sp : Sp) (gV : List V → List V → List V) (E : L2.St → XK) (t tk : TA) : TE := fun σ H Q => t σ H fun vs H1 => tk σ H1 fun zs H2 => sp (gV vs zs) H2 Q (E σ)
theorem pe_callKS (F : FnOk X.prog X.w X.K X.mg X.base CX k f fd ps sp) (hr : Room k X.A) (hg : Gl X x) (hm : X.mg x = some (.ref f)) (hk : PySem.W.keepIn X.K (.ref f) = true) (hb : KBinds X.K fd ps ks g gV) (hx : ∀ σ, PassesAt CX X σ (E σ))
    (ha : PA X (e :: es) t) (hkw : PK X kws tk) (hall : (backToKw pos (keywordEach kws X.env)).all (·.1.isSome) = true := by rfl) (hks : (backToKw pos (keywordEach kws X.env)).filterMap (·.1) = ks := by rfl)
    (hdb : (x == ("__debug__" : Str)) = false := by decide) (he : starEach (e :: es) X.env = (false, eval e X.env) :: starEach es X.env := by rfl)
    (hpl : ((backTo pos (starEach (e :: es) X.env)).any (·.1) || (backToKw pos (keywordEach kws X.env)).any (·.1.isNone)) = false := by rfl) :
    PE X (.Call (.Name x p) (e :: es) kws pos) (tCallKS sp gV E t tk) := by
  refine ⟨fun pins s σ H Q I h => ?_⟩
  refine wpAny_Call_Name_kw (ld_glob I hg hm ?_ hdb)
  refine PySem.W.callWith_KW (h₀ := X.base) I.ok.mod.kin hk hall (thn (ha.run pos pins s σ H _ I h) fun us s1 ⟨vs, H1, I1, r, q⟩ => ?_) hpl he
  refine thn (hkw.run pos pins s1 σ H1 _ I1 q) fun ws s2 ⟨zs, H2, I2, rz, q2⟩ => ⟨I2.kIn, ?_⟩
  rw [hks]
  exact run_fnkS F hr hb (hx σ) I2 r rz q2
end
section
variable {X : Cx} {H0 : Hp} {ex : DX} {W : WX}
theorem qe_fnKX {k : Nat} {ps ks : List Str} {d : DSp} {x : Str} {p pos : Pos} {e : Expr} {es : List Expr} {kws : List Keyword} {t tk : TDA} (C : CalleeKX X.prog X.w X.K X.mg k x ps ks d) (hr : Room k X.A) (tkk : Takes X W) (ww : WW X.K H0 ex W) (hg : Gl X x)
    (ha : PA X (e :: es) (lA X.K H0 t)) (hkw : PK X kws (lA X.K H0 tk)) (hne : 0 < (ps ++ ks).length) {na nb : Nat} (hna : ps.length = na) (hnb : ks.length = nb) (hall : (backToKw pos (keywordEach kws X.env)).all (·.1.isSome) = true := by rfl) (hks : (backToKw pos (keywordEach kws X.env)).filterMap (·.1) = ks := by rfl)
    (hdb : (x == ("__debug__" : Str)) = false := by decide) (he : starEach (e :: es) X.env = (false, eval e X.env) :: starEach es X.env := by rfl)
    (hpl : ((backTo pos (starEach (e :: es) X.env)).any (·.1) || (backToKw pos (keywordEach kws X.env)).any (·.1.isNone)) = false := by rfl) :
    PE X (.Call (.Name x p) (e :: es) kws pos) (lE X.K H0 (dCallKX ex d na nb t tk)) := by
  subst hna hnb
  obtain ⟨f, fd, a, b, c, F⟩ := C.ex
  have kb : KBinds X.K fd (ps ++ ks) ks (both ps.length ks.length) (both ps.length ks.length) := by
    refine ⟨fun s us ws _ hl => ?_, fun {vs us zs ws} r rz => ?_⟩
    · unfold both at hl ⊢
      split at hl
      · rename_i z
        rw [if_pos z]
        exact .of_eq (c us ws z.1 z.2)
      · rw [List.length_nil] at hl
        omega
    · unfold both
      rw [← r.length, ← rz.length]
      split
      · exact r.append rz
      · exact .nil
  refine peL (pe_callKS (E := WE W) (F X.base) hr hg a b kb (fun σ => passAt tkk σ) ha hkw hall hks hdb he hpl) fun σ H Q h => ?_
  obtain ⟨sd, m, P, aa, p, q⟩ := h
  refine ⟨sd, m, _, aa, p, fun xs m1 us H1 k1 r1 d1 p1 => ⟨sd, m1, _, aa.to k1 r1, p1, fun ys m2 ws H2 k2 r2 d2 p2 => ?_⟩⟩
  obtain ⟨l1, l2, p3⟩ := p2
  unfold both
  rw [if_pos ⟨by rw [← d1.length]; exact l1, by rw [← d2.length]; exact l2⟩]
  exact ⟨xs ++ ys, m2, P, ex sd, (d1.mono k2).append d2, r2, p3, fun d m' w H' k => q d m' w H' ((k1.trans k2).trans k), fun c fo m' od H' k r x e => ww sd σ c fo m' od H' (((aa.k.trans k1).trans k2).trans k) (aa.s.mono ((k1.trans k2).trans k)) r x e⟩
end
end Q4
namespace Q4
open PySem L2 PySem.Spec PyProof.Rows
def hitOf (E : Addr) : Value → Option Bool
  | .ref a => if a = E then some true else none
  | _ => none
theorem hitOf_ok {K : PySem.W.Frag} {E : Addr} (h : PySem.W.exmOne K (.ref E) (.ref E) = some true) : ∀ cls bb, hitOf E cls = some bb → PySem.W.exmOne K cls (.ref E) = some bb ∧ (bb = true → cls = .ref E) := fun cls bb e => by
  unfold hitOf at e
  split at e
  · split at e
    · rename_i a ha
      cases e
      subst ha
      exact ⟨h, fun _ => rfl⟩
    · cases e
  · cases e
theorem wwNo {K : PySem.W.Frag} {H0 : Hp} : WW K H0 (fun _ => noX) (fun _ _ _ _ => False) := fun _ _ _ _ _ _ _ _ _ _ _ h => h
/-- what isinstance answers by the program's own tables -/
def isaK (K : PySem.W.Frag) (E : Addr) : D → Option Bool
  | .ref C => PySem.W.kitOne K (.ref E) (.ref C)
  | .ty T => PySem.W.kitOne K (.ref E) (.type T)
  | _ => none
theorem isaK_ok {K : PySem.W.Frag} {E : Addr} : Isa K E (isaK K E) := ⟨fun c b h => by
  unfold isaK at h
  split at h
  · exact ⟨_, _, .own _, h⟩
  · exact ⟨_, _, .ty _, h⟩
  · cases h⟩
section
variable {X : Cx} {H0 : Hp}
/-- a call of a def that may raise, where it does not -/
theorem qe_fnX0 {k : Nat} {ps : List Str} {d : DSp} {x : Str} {p pos : Pos} {e : Expr} {es : List Expr} {t : TDA} (C : CalleeX X.prog X.w X.K X.mg k x ps d) (hr : Room k X.A) (hg : Gl X x)
    (ha : PA X (e :: es) (lA X.K H0 t)) (hdb : (x == ("__debug__" : Str)) = false := by decide) (he : starEach (e :: es) X.env = (false, eval e X.env) :: starEach es X.env := by rfl) (hpl : (backTo pos (starEach es X.env)).any (·.1) = false := by rfl) :
    PE X (.Call (.Name x p) (e :: es) [] pos) (lE X.K H0 (dCall d t)) := by
  obtain ⟨f, fd, a, b, c, F⟩ := C.ex
  exact qe_call (F X.base) hr hg a b (.all c) (E := E0) passL ha hdb he hpl
/-- an own class as a value -/
theorem ExcAt.const {K : PySem.W.Frag} {mg : Str → Option Value} {x : Str} {C : Addr} (h : mg x = some (.ref C)) : ConstAt K mg x (.ref C) := ⟨.ref C, .ref C, h, rfl, fun _ => .ref C⟩
end
end Q4
namespace Q4
open PySem L2 PySem.Spec PyProof.Rows
section
variable {X : Cx} {H0 : Hp}
/-- a call by name of a def that may raise, where it does not -/
theorem qe_fnKX0 {k : Nat} {ps ks : List Str} {d : DSp} {x : Str} {p pos : Pos} {e : Expr} {es : List Expr} {kws : List Keyword} {t tk : TDA} (C : CalleeKX X.prog X.w X.K X.mg k x ps ks d) (hr : Room k X.A) (hg : Gl X x)
    (ha : PA X (e :: es) (lA X.K H0 t)) (hkw : PK X kws (lA X.K H0 tk)) (hne : 0 < (ps ++ ks).length) {na nb : Nat} (hna : ps.length = na) (hnb : ks.length = nb) (hall : (backToKw pos (keywordEach kws X.env)).all (·.1.isSome) = true := by rfl) (hks : (backToKw pos (keywordEach kws X.env)).filterMap (·.1) = ks := by rfl)
    (hdb : (x == ("__debug__" : Str)) = false := by decide) (he : starEach (e :: es) X.env = (false, eval e X.env) :: starEach es X.env := by rfl)
    (hpl : ((backTo pos (starEach (e :: es) X.env)).any (·.1) || (backToKw pos (keywordEach kws X.env)).any (·.1.isNone)) = false := by rfl) :
    PE X (.Call (.Name x p) (e :: es) kws pos) (lE X.K H0 (dCallK d na nb t tk)) := by
  subst hna hnb
  obtain ⟨f, fd, a, b, c, F⟩ := C.ex
  have kb : KBinds X.K fd (ps ++ ks) ks (both ps.length ks.length) (both ps.length ks.length) := by
    refine ⟨fun s us ws _ hl => ?_, fun {vs us zs ws} r rz => ?_⟩
    · unfold both at hl ⊢
      split at hl
      · rename_i z
        rw [if_pos z]
        exact .of_eq (c us ws z.1 z.2)
      · rw [List.length_nil] at hl
        omega
    · unfold both
      rw [← r.length, ← rz.length]
      split
      · exact r.append rz
      · exact .nil
  refine peL (pe_callK (E := E0) (F X.base) hr hg a b kb passL ha hkw hall hks hdb he hpl) fun σ H Q h => ?_
  obtain ⟨sd, m, P, aa, p, q⟩ := h
  refine ⟨sd, m, _, aa, p, fun xs m1 us H1 k1 r1 d1 p1 => ⟨sd, m1, _, aa.to k1 r1, p1, fun ys m2 ws H2 k2 r2 d2 p2 => ?_⟩⟩
  obtain ⟨l1, l2, p3⟩ := p2
  unfold both
  rw [if_pos ⟨by rw [← d1.length]; exact l1, by rw [← d2.length]; exact l2⟩]
  exact ⟨xs ++ ys, m2, P, noX, (d1.mono k2).append d2, r2, p3, fun d m' w H' k => q d m' w H' ((k1.trans k2).trans k), wantsX0⟩
end
end Q4

set_option Elab.async false
set_option linter.all false
set_option maxRecDepth 100000
namespace Q4
open PySem L2 PySem.Spec PyProof.Rows
/-! ### l.index(x), len of a dict, a clause that names a base class -/
def rIdx : RmD := fun x ys m P => match x, ys with
  | .ref a, [y] => ∃ (xs : List D) (j : Nat) (z : D), m a = some (.lst xs) ∧ okL xs ∧ okD y ∧ xs[j]? = some z ∧ eqD z y = true ∧ (∀ (i : Nat) (z' : D), i < j → xs[i]? = some z' → eqD z' y = false) ∧ P (.int (j : Nat)) m
  | _, _ => False
theorem D.pys_at : ∀ {xs : List D} {j : Nat}, (D.pys xs)[j]? = (xs[j]?).map D.py
  | [], _ => by simp [D.pys]
  | x :: xs, 0 => by simp [D.pys]
  | x :: xs, j + 1 => by rw [D.pys, List.getElem?_cons_succ, List.getElem?_cons_succ]; exact D.pys_at
section
variable {X : Cx}
theorem md_index (hu : X.A.units + 65 < cLine) : MethD X "list" "list.index" isLst rIdx := by
  refine ⟨_, mt_indexD hu, fun H m x u rm rx h => ?_, fun H m x u xs us P Q rm rx rs p q => ?_⟩
  · unfold isLst at h
    split at h
    · cases rx.ref_
      obtain ⟨xs, h⟩ := h
      obtain ⟨vs, e, _⟩ := rm _ _ h
      exact .inl ⟨rfl, _, .inl (.inl e)⟩
    · exact h.elim
  · unfold rIdx at p
    split at p
    · rename_i a y
      cases rx.ref_
      obtain ⟨w, rfl, r⟩ := rs.one_
      obtain ⟨xs, j, z, hm, ol, od, hz, e, hno, p⟩ := p
      obtain ⟨vs, ev, rr⟩ := rm _ _ hm
      have c1 := SeqAt.canLay_of_shaped ol
      have c2 := SeqAt.canLay_of_shaped od
      refine ⟨a, w, y.py, D.pys xs, j, z.py, rfl, rfl, .lst (.inl (.inl ev)) (dps_of rr (by simpa [PyData.canLay0] using c1)), dp_of r c2, ol, od, by rw [D.pys_at, hz]; rfl, e, fun i z' hi hz' => ?_, q _ m _ H (Keep.refl _) rm (.int _) p⟩
      rw [D.pys_at] at hz'
      cases e2 : xs[i]? with
      | none => rw [e2] at hz'; cases hz'
      | some x2 =>
        rw [e2] at hz'
        cases hz'
        exact hno i x2 hi e2
    · exact p.elim
def rLenK : RnD := fun xs m P => ∃ a kvs, xs = [.ref a] ∧ m a = some (.dct kvs) ∧ P (.int kvs.length) m
theorem call_lenK : CallR X (.builtin "len") (fun xs H Q => ∃ (a : Addr) (gs : List (Key × V)), xs = [.ref a] ∧ H a = some (.dK gs) ∧ Q (.int gs.length) H) := by
  intro pins s σ H xs us Q I r h
  obtain ⟨a, gs, rfl, e, q⟩ := h
  obtain ⟨u, rfl, rx⟩ := vals1 r
  cases rx
  exact d_len I (.of e) fun t s' I' => ⟨.int _, H, I', ⟨_, rfl⟩, q⟩
theorem cd_lenK : CallD X (.builtin "len") rLenK := by
  refine ⟨_, call_lenK, fun H m xs us P Q rm rx p q => ?_⟩
  obtain ⟨a, kvs, rfl, hm, p⟩ := p
  obtain ⟨u, rfl, r⟩ := rx.one_
  obtain rfl := r.ref_
  obtain ⟨gs, e, rk⟩ := rm.dict hm
  exact ⟨a, gs, rfl, e, q _ m _ H (Keep.refl _) rm (by rw [← rk.length]; exact .int _) p⟩
end
theorem hitOf_ok2 {K : PySem.W.Frag} {E C : Addr} (h : PySem.W.exmOne K (.ref E) (.ref C) = some true) : ∀ cls bb, hitOf E cls = some bb → PySem.W.exmOne K cls (.ref C) = some bb ∧ (bb = true → cls = .ref E) := fun cls bb e => by
  unfold hitOf at e
  split at e
  · split at e
    · rename_i a ha
      cases e
      subst ha
      exact ⟨h, fun _ => rfl⟩
    · cases e
  · cases e
end Q4

set_option Elab.async false
set_option linter.all false
set_option maxRecDepth 100000
set_option maxHeartbeats 0
namespace Q4
open PySem L2 PySem.Spec PyProof.Rows
/-! ### try with two clauses that give the error a name; each error of the body fits one of them -/
def offE (D : Ends) (i : Nat) : Ends := { nx := fun σ H => D.nx (σ.set i none) H, rt := D.rt, bk := fun σ H => D.bk (σ.set i none) H, ct := fun σ H => D.ct (σ.set i none) H }
abbrev TSu := Addr → Value → Option Addr → TS
def wTwo (K : PySem.W.Frag) (c1 c2 : Value) (i : Nat) (u1 u2 : TSu) (D : Ends) : WX := fun cls d σ H => ∃ b, PySem.W.exmOne K cls c1 = some b ∧
  (b = true → ∀ a, H a = none → u1 a cls d (offE D i) (σ.set i (some (.ref a))) H) ∧ (b = false → PySem.W.exmOne K cls c2 = some true ∧ ∀ a, H a = none → u2 a cls d (offE D i) (σ.set i (some (.ref a))) H)
section
variable {X : Cx} {x1 x2 n : Str} {c1 c2 : Value} {i : Nat} {body r1 r2 : List Stmt} {f1 f2 : Stmt} {np1 np2 pos p1 p2 : Pos} {tb : WX → TS} {u1 u2 : TSu}
theorem ps_two (eS : X.stack = X.env :: X.outer) (eF : X.env.frame = some X.env.locals) (nd : X.N.Nodup) (at_ : X.N[i]? = some n) (loc : X.env.kindOf n = some .local) (C1 : Names X x1 c1) (C2 : Names X x2 c2)
    (B : ∀ (W : WX) (pn : List (Addr × Obj)) (xe : Value → Shared → Prop), Takes (X.tr pn xe) W → PassesOwn (model X.prog X.w) X.A X.env xe → PSs (X.tr pn xe) body (tb W))
    (U1 : ∀ (a : Addr) (oe : Obj) (cls : Value) (d : Option Addr) (pn : List (Addr × Obj)), Zc cls d oe → (∃ vs, oe.data = .fields vs) → PSs (X.suite a ((a, oe) :: pn)) (f1 :: r1) (u1 a cls d))
    (U2 : ∀ (a : Addr) (oe : Obj) (cls : Value) (d : Option Addr) (pn : List (Addr × Obj)), Zc cls d oe → (∃ vs, oe.data = .fields vs) → PSs (X.suite a ((a, oe) :: pn)) (f2 :: r2) (u2 a cls d)) :
    PS X (.Try body [.ExceptHandler (some (.Name x1 np1)) (some n) (f1 :: r1) p1, .ExceptHandler (some (.Name x2 np2)) (some n) (f2 :: r2) p2] [] [] pos) (fun D σ H => tb (wTwo X.K c1 c2 i u1 u2 D) D σ H) := by
  refine ⟨fun pins s σ H D I start => ?_⟩
  have ok := I.ok
  have eFr : X.A.frames = some (X.env :: X.outer) := ok.frames.trans (congrArg some eS)
  refine wpAny_Try_except ?_
  refine wpAny_mono ((B (wTwo X.K c1 c2 i u1 u2 D) (X.pn ++ pins)
    (fun e t1 => wpAny (model X.prog X.w) X.A (noteFrame e X.env)
      (fun _ t2 => wpAny (model X.prog X.w) X.A (setFlight e none)
        (fun _ t3 => wpAny (model X.prog X.w) X.A
          (handleBy e X.env [.ExceptHandler (some (.Name x1 np1)) (some n) (f1 :: r1) p1, .ExceptHandler (some (.Name x2 np2)) (some n) (f2 :: r2) p2]) (SP X pins D) X.xe t3) X.xe t2) X.xe t1)
    (fun u sE caught => ?_) PassesOwn.looking).run [] s σ H D (I.toTry _) start)
    (fun f t hsp => ?_) (fun _ _ he => he)
  · -- an error is caught
    obtain ⟨a, Bd, sB, pB, σ', H', cls, d, rfl, JT, nb, grown, sky, free, os, ag, b, hb1, yes, no⟩ := caught
    have J0 : Inv X pins σ' H' sB := JT.ofTry ok
    rw [eS] at sky
    change wpAny (model X.prog X.w) X.A (noteFrame (Value.ref a) X.env) _ _ _
    refine Sky.land Zc.steady eFr eF sky fun h3 flies up3 => ?_
    have JL : Inv X pins σ' H' { sE with heap := h3 } := J0.landed nb flies.1 (grown.trans up3) os ag
    obtain ⟨ob, fv, obAt, obZ, obD⟩ := flies.there
    have apart : a ∉ frs (X.env :: X.outer) := fun hm => by
      obtain ⟨_, o2, at2, isnt⟩ := flies.2.2.1.mem hm
      cases obAt.symm.trans at2
      exact isnt _ obD
    have apart1 : a ≠ X.env.locals := fun z => apart (List.mem_filterMap.mpr ⟨X.env, List.mem_cons_self, eF.trans (congrArg some z.symm)⟩)
    have apart2 : a ∉ X.fs := fun hm => by
      obtain ⟨en, mem, q⟩ := List.mem_filterMap.mp hm
      exact apart (List.mem_filterMap.mpr ⟨en, List.mem_cons_of_mem _ mem, q⟩)
    have SL := JL.suite obAt obD free apart1 apart2
    have clause : ∀ {x : Str} {c : Value} {np p : Pos} {f : Stmt} {r : List Stmt} {u : TSu} {more : List ExceptHandler} {bb : Bool}, Names X x c →
        (∀ (a : Addr) (oe : Obj) (cls : Value) (d : Option Addr) (pn : List (Addr × Obj)), Zc cls d oe → (∃ vs, oe.data = .fields vs) → PSs (X.suite a ((a, oe) :: pn)) (f :: r) (u a cls d)) →
        PySem.W.exmOne X.K cls c = some bb → (bb = true → u a cls d (offE D i) (σ'.set i (some (.ref a))) H') →
        (bb = false → wpAny (model X.prog X.w) X.A (handleBy (.ref a) X.env more) (SP X pins D) X.xe { sE with heap := h3 }) →
        wpAny (model X.prog X.w) X.A (handleBy (.ref a) X.env (.ExceptHandler (some (.Name x np)) (some n) (f :: r) p :: more)) (SP X pins D) X.xe { sE with heap := h3 } := by
      intro x c np p f r u more bb hc hu hbb hyes hno
      refine wpAny_handleBy_cons (codeAny_handlers_test ?_) (fun q => by cases q)
      have kind_ : PySem.W.Looks (model X.prog X.w) h3 (typeOf (.ref a)) cls := fun _ _ _ _ kp q =>
        wpAny_typeOf_ref (kp _ _ obAt) (by rw [obZ.1]; exact q)
      have fits := PySem.W.exm_one (M := model X.prog X.w) JL.kIn kind_ hbb
      have named : ∀ {Q E : Value → Shared → Prop}, Q c { sE with heap := h3 } →
          wpAny (model X.prog X.w) (X.A.mark (some (.ref a))) (eval (.Name x np) X.env) Q E { sE with heap := h3 } := fun {Q E} q => by
        obtain ⟨hg, hd, own | ⟨none_, blt, nn⟩⟩ := hc
        · exact ld_glob (X := X.suite a ((a, ob) :: (X.pn ++ pins))) SL hg own q hd
        · exact ld_blt (X := X.suite a ((a, ob) :: (X.pn ++ pins))) SL hg none_ blt q nn hd
      refine named (fits.here ?_)
      cases bb with
      | false =>
        show wpAny _ X.A (handleBy (.ref a) X.env more) _ _ _
        exact hno rfl
      | true =>
        refine codeAny_handlers_suite_as (HandSPX.lands_againZ flies fun h4 flies4 up4 => ?_)
        have J4 : Inv X pins σ' H' { sE with heap := h4 } := J0.landed nb flies4.1 ((grown.trans up3).trans up4) os ag
        obtain ⟨ob4, fv4, at4, z4, d4⟩ := flies4.there
        have sl4 := J4.suite at4 d4 free apart1 apart2
        refine store_ok (X := X.suite a ((a, ob4) :: (X.pn ++ pins))) (v := .ref a) sl4 nd at_ (.inl loc) rfl (fun s5 S5 => ?_) (.inr loc)
        have done_ : ∀ {σz : L2.St} {Hz : Hp} {sz : Shared} {Q : Shared → Prop}, Inv (X.suite a ((a, ob4) :: (X.pn ++ pins))) [] σz Hz sz → (∀ t, Inv X pins (σz.set i none) Hz t → Q t) →
            wpAny (model X.prog X.w) X.A (do bindName X.env n .none; unbindBehindTheSuite X.env n p) (fun _ t => Q t) X.xe sz := fun Sz hq => gone_ok (Sz.unsuite ok) nd at_ loc hq
        refine wpAny_mono ((hu a ob4 cls d (X.pn ++ pins) z4 ⟨_, d4⟩).run [] s5 _ H' _ S5 (hyes rfl)) (fun f6 s6 end6 => ?_) (fun _ _ z => z.elim)
        cases f6 with
        | ret u6 =>
          obtain ⟨v6, σ6, H6, S6, r6, q6⟩ := end6
          exact done_ S6 fun t Jt => ⟨_, _, _, Jt, r6, q6⟩
        | _ =>
          obtain ⟨σ6, H6, S6, q6⟩ := end6
          exact done_ S6 fun t Jt => ⟨_, _, Jt, q6⟩
    exact clause C1 U1 hb1 (fun e => yes e a free) fun e => clause C2 U2 (no e).1 (fun _ => (no e).2 a free) fun e2 => by cases e2
  · cases f with
    | ret u =>
      obtain ⟨v, σr, Hr, JT, rr, q⟩ := hsp
      exact ⟨v, σr, Hr, JT.ofTry ok, rr, q⟩
    | next =>
      obtain ⟨σr, Hr, JT, q⟩ := hsp
      exact wpAny_execs_nil ⟨σr, Hr, JT.ofTry ok, q⟩
    | _ =>
      obtain ⟨σr, Hr, JT, q⟩ := hsp
      exact ⟨σr, Hr, JT.ofTry ok, q⟩
end
def dTry2 (E1 E2 : Addr) (i : Nat) (b : DX → TDS) (s1 s2 : Addr → TDS) : TDS := fun DD sd m =>
  b (fun sd' cls fo m' => fo = none ∧ ((cls = .ref E1 ∧ ∀ a, m' a = none → s1 a (DD.off i) (sd'.set i (some (.ref a))) m') ∨ (cls = .ref E2 ∧ ∀ a, m' a = none → s2 a (DD.off i) (sd'.set i (some (.ref a))) m'))) DD sd m
section
variable {X : Cx} {H0 : Hp} {x1 x2 n : Str} {c1 c2 : Value} {E1 E2 : Addr} {i : Nat} {body r1 r2 : List Stmt} {f1 f2 : Stmt} {np1 np2 pos p1 p2 : Pos} {b : DX → TDS} {s1 s2 : Addr → TDS}
theorem qs_try2 (hs : X.stack = X.env :: X.outer) (hf : X.env.frame = some X.env.locals) (hN : X.N.Nodup) (hi : X.N[i]? = some n) (hln : X.env.kindOf n = some .local) (hc1 : Names X x1 c1) (hc2 : Names X x2 c2)
    (h11 : PySem.W.exmOne X.K (.ref E1) c1 = some true) (h21 : PySem.W.exmOne X.K (.ref E2) c1 = some false) (h22 : PySem.W.exmOne X.K (.ref E2) c2 = some true)
    (hb : ∀ (H1 : Hp) (exx : DX) (W : WX) (pn : List (Addr × Obj)) (xe : Value → Shared → Prop), Takes (X.tr pn xe) W → PassesOwn (model X.prog X.w) X.A X.env xe → WW X.K H1 exx W → PSs (X.tr pn xe) body (lS X.K H1 (b exx)))
    (hs1 : ∀ (a : Addr) (oe : Obj) (pn : List (Addr × Obj)), Zc (.ref E1) none oe → (∃ vs, oe.data = .fields vs) → PSs (X.suite a ((a, oe) :: pn)) (f1 :: r1) (lS X.K H0 (s1 a)))
    (hs2 : ∀ (a : Addr) (oe : Obj) (pn : List (Addr × Obj)), Zc (.ref E2) none oe → (∃ vs, oe.data = .fields vs) → PSs (X.suite a ((a, oe) :: pn)) (f2 :: r2) (lS X.K H0 (s2 a))) :
    PS X (.Try body [.ExceptHandler (some (.Name x1 np1)) (some n) (f1 :: r1) p1, .ExceptHandler (some (.Name x2 np2)) (some n) (f2 :: r2) p2] [] [] pos) (lS X.K H0 (dTry2 E1 E2 i b s1 s2)) :=
  psL (ps_two (tb := fun W D σ H => ∃ exx, WW X.K H exx W ∧ lS X.K H (b exx) D σ H) (u1 := fun a cls d D σ H => cls = .ref E1 ∧ d = none ∧ lS X.K H0 (s1 a) D σ H) (u2 := fun a cls d D σ H => cls = .ref E2 ∧ d = none ∧ lS X.K H0 (s2 a) D σ H) hs hf hN hi hln hc1 hc2
    (fun W pn xe tkk po => ⟨fun pins s σ H D I h => by
      obtain ⟨exx, w1, h⟩ := h
      exact (hb H exx W pn xe tkk po w1).run pins s σ H D I h⟩)
    (fun a oe cls d pn hz hd => ⟨fun pins s σ H D I h => by
      obtain ⟨e1, e2, h⟩ := h
      subst e1 e2
      exact (hs1 a oe pn hz hd).run pins s σ H D I h⟩)
    (fun a oe cls d pn hz hd => ⟨fun pins s σ H D I h => by
      obtain ⟨e1, e2, h⟩ := h
      subst e1 e2
      exact (hs2 a oe pn hz hd).run pins s σ H D I h⟩)) fun D σ H h => by
    obtain ⟨sd, m, DD, a0, p, q1, q2, q3, q4⟩ := h
    refine ⟨_, fun sd' σ' cls fo m' od H' k rs rm xr he => ?_, sd, m, DD, ⟨a0.s, a0.m, Keep.refl _⟩, p, q1, q2, q3, q4⟩
    obtain ⟨hfo, he⟩ := he
    subst hfo
    have hod : od = none := by
      cases od with
      | none => rfl
      | some d => exact xr.elim
    have ends : ∀ (st : Addr → TDS) (a : Addr), H' a = none → st a (DD.off i) (sd'.set i (some (.ref a))) m' → lS X.K H0 (st a) (offE D i) (σ'.set i (some (.ref a))) H' := fun st a ha h3 => by
      refine ⟨_, m', DD.off i, ⟨rs.set i (.ref a), rm, a0.k.trans k⟩, h3, ?_, ?_, ?_, ?_⟩
      · exact fun sd2 m2 σ2 H2 k2 r2 rm2 p2 => q1 _ m2 _ H2 (k.trans k2) (r2.setNone i) rm2 p2
      · exact fun d m2 v H2 k2 rm2 rd p2 => q2 d m2 v H2 (k.trans k2) rm2 rd p2
      · exact fun sd2 m2 σ2 H2 k2 r2 rm2 p2 => q3 _ m2 _ H2 (k.trans k2) (r2.setNone i) rm2 p2
      · exact fun sd2 m2 σ2 H2 k2 r2 rm2 p2 => q4 _ m2 _ H2 (k.trans k2) (r2.setNone i) rm2 p2
    rcases he with ⟨rfl, h3⟩ | ⟨rfl, h3⟩
    · exact ⟨true, h11, fun _ a ha => ⟨rfl, hod, ends s1 a ha (h3 a (rm.free ha))⟩, (fun e => by cases e)⟩
    · exact ⟨false, h21, (fun e => by cases e), fun _ => ⟨h22, fun a ha => ⟨rfl, hod, ends s2 a ha (h3 a (rm.free ha))⟩⟩⟩
end
end Q4

set_option Elab.async false
set_option linter.all false
set_option maxRecDepth 100000
namespace Q4
open PySem L2 PySem.Spec PyProof.Rows
open PyProof.Rows (envOfC)
/-! ### objects of own classes -/
theorem ins_lookup {K : PySem.W.Frag} {H : Hp} {f : Str} : ∀ {fs : List (Str × D)} {gs : List (Str × V)}, RDs K H (fs.map (·.2)) (gs.map (·.2)) → fs.map (·.1) = gs.map (·.1) →
    (fs.lookup f = none → gs.lookup f = none) ∧ ∀ d, fs.lookup f = some d → ∃ v, gs.lookup f = some v ∧ RD K H d v
  | [], [], _, _ => ⟨fun _ => rfl, fun d h => by cases h⟩
  | [], _ :: _, r, _ => by have := r.length; cases this
  | _ :: _, [], r, _ => by have := r.length; cases this
  | (g, d) :: fs, (g', v) :: gs, r, e => by
    rw [List.map_cons, List.map_cons] at r e
    obtain ⟨e1, e2⟩ := List.cons.inj e
    have e1 : g = g' := e1
    subst e1
    cases r with
    | cons r0 rr =>
      obtain ⟨h1, h2⟩ := ins_lookup (f := f) rr e2
      rw [List.lookup_cons, List.lookup_cons]
      cases hb : f == g with
      | true => exact ⟨(fun h => by cases h), (fun d' h => by cases h; exact ⟨v, rfl, r0⟩)⟩
      | false => exact ⟨h1, h2⟩
def putFD (f : Str) (v : D) : List (Str × D) → List (Str × D)
  | [] => [(f, v)]
  | (g, x) :: r => if g = f then (g, v) :: r else (g, x) :: putFD f v r
theorem ins_put {K : PySem.W.Frag} {H : Hp} {f : Str} {d : D} {v : V} (h : RD K H d v) : ∀ {fs : List (Str × D)} {gs : List (Str × V)}, RDs K H (fs.map (·.2)) (gs.map (·.2)) → fs.map (·.1) = gs.map (·.1) →
    RDs K H ((putFD f d fs).map (·.2)) ((putF f v gs).map (·.2)) ∧ (putFD f d fs).map (·.1) = (putF f v gs).map (·.1)
  | [], [], _, _ => ⟨.cons h .nil, rfl⟩
  | [], _ :: _, r, _ => by have := r.length; cases this
  | _ :: _, [], r, _ => by have := r.length; cases this
  | (g, x) :: fs, (g', y) :: gs, r, e => by
    rw [List.map_cons, List.map_cons] at r e
    obtain ⟨e1, e2⟩ := List.cons.inj e
    have e1 : g = g' := e1
    subst e1
    cases r with
    | cons r0 rr =>
      obtain ⟨h1, h2⟩ := ins_put h rr e2
      rw [putFD, putF]
      by_cases hg : g = f
      · rw [if_pos hg, if_pos hg]
        exact ⟨.cons h rr, by rw [List.map_cons, List.map_cons, e2]⟩
      · rw [if_neg hg, if_neg hg]
        exact ⟨.cons r0 h1, by rw [List.map_cons, List.map_cons, h2]⟩
theorem RM.ins {K : PySem.W.Frag} {H : Hp} {m : M} {a C dx : Addr} {fs : List (Str × D)} (r : RM K H m) (h : m a = some (.ins C dx fs)) : ∃ gs, H a = some (.ins C dx gs) ∧ RDs K H (fs.map (·.2)) (gs.map (·.2)) ∧ fs.map (·.1) = gs.map (·.1) := r a _ h
theorem Keep.ins {K : PySem.W.Frag} {H : Hp} {p C dx : Addr} {gs : List (Str × V)} {o : HO} (h : H p = some (.ins C dx gs)) : Keep K H (upd H p o) := by
  refine ⟨fun a xs q => ?_, fun a xs q => ?_⟩
  · rcases q with (q | ⟨o', q⟩) | q
    · exact .inl (.inl ((upd_ne (ne_of q h (by simp))).trans q))
    · exact .inl (.inr ⟨o', (upd_ne (ne_of q h (by simp))).trans q⟩)
    · exact .inr q
  · rcases q with ⟨o', q⟩ | q
    · exact .inl ⟨o', (upd_ne (ne_of q h (by simp))).trans q⟩
    · exact .inr q
theorem RM.setIns {K : PySem.W.Frag} {H : Hp} {m : M} (r : RM K H m) {p C dx : Addr} {gs gs' : List (Str × V)} {fs : List (Str × D)} (h : H p = some (.ins C dx gs)) (q : RDs K H (fs.map (·.2)) (gs'.map (·.2))) (q2 : fs.map (·.1) = gs'.map (·.1)) :
    RM K (upd H p (.ins C dx gs')) (put m p (.ins C dx fs)) := fun a u e => by
  by_cases n : a = p
  · subst n
    rw [put_same] at e
    cases e
    exact ⟨gs', upd_same, q.mono (Keep.ins h), q2⟩
  · rw [put_ne n] at e
    exact (r a u e).stay (Keep.ins h) (upd_ne n)
/-- t.f of an object of the class C -/
def dFld (C : Addr) (t : TDE) (f : Str) : TDE := fun sd m P => t sd m fun x m1 => ∃ a dx fs v, x = .ref a ∧ m1 a = some (.ins C dx fs) ∧ fs.lookup f = some v ∧ P v m1
/-- t.f = u -/
def dSetFld (C : Addr) (t u : TDE) (f : Str) : TDS := fun DD sd m => u sd m fun y m1 => t sd m1 fun x m2 => ∃ a dx fs, x = .ref a ∧ m2 a = some (.ins C dx fs) ∧ fs.length < 1000 ∧ DD.nx sd (put m2 a (.ins C dx (putFD f y fs)))
/-- t.m(u ..) of an object of the class C -/
def dMeth (C : Addr) (f : Str) (d : DSp) (t : TDE) (u : TDA) : TDE := fun sd m P => t sd m fun x m1 => ∃ a dx fs, x = .ref a ∧ m1 a = some (.ins C dx fs) ∧ fs.lookup f = none ∧ u sd m1 fun xs m2 => d (x :: xs) m2 P noX
/-- C() -/
def dMake0 (C : Addr) (d : DSp) : TDE := fun _ m P => ∀ x dx, m x = none → d [.ref x] (put m x (.ins C dx [])) (fun v m2 => v = .non ∧ P (.ref x) m2) noX
structure FunAtM (K : PySem.W.Frag) (C : Addr) (x qual : Str) (st : Stmt) (ps : List Str) : Prop where
  ex : ∃ f fd, Fun K x qual st f fd ∧ Meth K C x f ∧ ∀ us : List Value, us.length = ps.length → bindArgs fd ⟨us, []⟩ = pure (ps.zip us)
structure CalleeM (P : Program) (w : World) (K : PySem.W.Frag) (mg : Str → Option Value) (k : Nat) (C : Addr) (x : Str) (ps : List Str) (d : DSp) : Prop where
  ex : ∃ f fd, Meth K C x f ∧ (∀ us : List Value, us.length = ps.length → bindArgs fd ⟨us, []⟩ = pure (ps.zip us)) ∧ ∀ base, FnOk P w K mg base CX0 k f fd ps (lSp K d)
section
variable {P : Program} {w : World} {K : PySem.W.Frag} {mg : Str → Option Value} {C : Addr} {x qual : Str} {st : Stmt} {ps N : List Str} {d : DSp} {k j : Nat}
theorem CalleeM.mono (c : CalleeM P w K mg j C x ps d) (h : j ≤ k) : CalleeM P w K mg k C x ps d := by
  obtain ⟨f, fd, a, b, e⟩ := c.ex
  exact ⟨f, fd, a, b, fun base => (e base).mono h⟩
theorem FunAtM.callee (F : FunAtM K C x qual st ps) (S : FnScope N ps (defScope st)) (len : ∀ ds m P EX, d ds m P EX → ds.length = ps.length)
    (t : TDS) (hread : ∀ ds m P EX, d ds m P EX → t { nx := fun _ m' => Ret P .non m', rt := Ret P } (dstart N ds) m)
    (hbody : ∀ (base : Heap) (f : Addr) (cdv : Value) (A : Around) (outer : List Env) (s : Shared) (H : Hp) (E : XK), Room k (A.deeper (envOfC qual (defScope st) s.heap.objs.size f cdv)) → PSs (cxOf CX0 P w K mg base N qual (defScope st) f cdv A outer s H E).nox (defBody st) (lS K H t)) :
    CalleeM P w K mg (k + 1) C x ps d := by
  obtain ⟨f, fd, F1, a, c⟩ := F.ex
  exact ⟨f, fd, a, c, fun base => Fun.okD F1 S len t hread (hbody base f)⟩
end
section
variable {X : Cx} {H0 : Hp} {C : Addr}
theorem qe_fld {e : Expr} {t : TDE} {f : Str} {pos : Pos} (c : Cls X.K C) (n : NoAttr X.K C f) (he : PE X e (lE X.K H0 t)) (hb : attributeBase e f X.env (eval e X.env) = eval e X.env := by rfl) : PE X (.Attribute e f pos) (lE X.K H0 (dFld C t f)) := peL (pe_fld he hb) fun σ H Q h => by
  obtain ⟨sd, m, P, a, p, q⟩ := h
  refine ⟨sd, m, _, a, p, fun x m1 u H1 k1 r1 d1 p1 => ?_⟩
  obtain ⟨ad, dx, fs, v, rfl, hm, hf, p2⟩ := p1
  obtain rfl := d1.ref_
  obtain ⟨gs, e1, e2, e3⟩ := r1.ins hm
  obtain ⟨w, hw, rw⟩ := (ins_lookup e2 e3).2 v hf
  exact ⟨ad, C, dx, gs, w, rfl, e1, c, n, hw, q v m1 w H1 k1 r1 rw p2⟩
theorem qs_setFld {o e : Expr} {t u : TDE} {f : Str} {pos pos' : Pos} (c : Cls X.K C) (n : NoAttr X.K C f) (ho : PE X o (lE X.K H0 t)) (he : PE X e (lE X.K H0 u)) (hs : swapsWith e (some (.Attribute o f pos')) pos.line X.env = pure false := by rfl) :
    PS X (.Assign [.Attribute o f pos'] e pos) (lS X.K H0 (dSetFld C t u f)) := psL (ps_fld ho he hs) fun D σ H h => by
  obtain ⟨sd, m, DD, aa, p, q⟩ := h
  refine ⟨sd, m, _, aa, p, fun y m1 w1 H1 k1 r1 d1 p1 => ⟨sd, m1, _, aa.to k1 r1, p1, fun x m2 w2 H2 k2 r2 d2 p2 => ?_⟩⟩
  obtain ⟨ad, dx, fs, rfl, hm, hl, p3⟩ := p2
  obtain rfl := d2.ref_
  obtain ⟨gs, e1, e2, e3⟩ := r2.ins hm
  have el : fs.length = gs.length := by rw [← List.length_map (f := (·.1)) (as := fs), e3, List.length_map]
  obtain ⟨i1, i2⟩ := ins_put (f := f) (d1.mono k2) e2 e3
  have KK : Keep X.K H (upd H2 ad (.ins C dx (putF f w1 gs))) := (k1.trans k2).trans (Keep.ins e1)
  exact ⟨ad, C, dx, gs, rfl, e1, c, n, by omega, q.1 _ _ _ _ KK (aa.s.mono KK) (r2.setIns e1 i1 i2) p3⟩
theorem l_meth {K : PySem.W.Frag} {H0 : Hp} {f : Str} {d : DSp} {t : TDE} {u : TDA} {σ : L2.St} {H : Hp} {Q : VK} (h : lE K H0 (dMeth C f d t u) σ H Q) : tMeth C f (lSp K d) [] E0 (lE K H0 t) (lA K H0 u) σ H Q := by
  obtain ⟨sd, m, P, aa, p, q⟩ := h
  refine ⟨sd, m, _, aa, p, fun x m1 w1 H1 k1 r1 d1 p1 => ?_⟩
  obtain ⟨ad, dx, fs, rfl, hm, hf, p2⟩ := p1
  obtain rfl := d1.ref_
  obtain ⟨gs, e1, e2, e3⟩ := r1.ins hm
  refine ⟨ad, dx, gs, rfl, e1, (ins_lookup e2 e3).1 hf, sd, m1, _, aa.to k1 r1, p2, fun xs m2 us H2 k2 r2 d2 p3 => ?_⟩
  show lSp K d (.ref ad :: (us ++ [])) H2 Q E0
  rw [List.append_nil]
  exact ⟨.ref ad :: xs, m2, P, noX, .cons (.ref ad) d2, r2, p3, fun d m' w H' k => q d m' w H' ((k1.trans k2).trans k), wantsX0⟩
theorem l_meth0 {K : PySem.W.Frag} {H0 : Hp} {f : Str} {d : DSp} {t : TDE} {σ : L2.St} {H : Hp} {Q : VK} (h : lE K H0 (dMeth C f d t dNil) σ H Q) : tMeth C f (lSp K d) [] E0 (lE K H0 t) tNil σ H Q := by
  obtain ⟨sd, m, P, aa, p, q⟩ := h
  refine ⟨sd, m, _, aa, p, fun x m1 w1 H1 k1 r1 d1 p1 => ?_⟩
  obtain ⟨ad, dx, fs, rfl, hm, hf, p2⟩ := p1
  obtain rfl := d1.ref_
  obtain ⟨gs, e1, e2, e3⟩ := r1.ins hm
  exact ⟨ad, dx, gs, rfl, e1, (ins_lookup e2 e3).1 hf, [.ref ad], m1, P, noX, .cons (.ref ad) .nil, r1, p2, fun d m' w H' k => q d m' w H' (k1.trans k), wantsX0⟩
theorem qe_meth {k : Nat} {f : Str} {ps : List Str} {d : DSp} {o e : Expr} {es : List Expr} {apos pos : Pos} {t : TDE} {u : TDA} {pl : Sem Bool} (c : Cls X.K C) (M : CalleeM X.prog X.w X.K X.mg k C f ps d) (hr : Room k X.A) (ho : PE X o (lE X.K H0 t)) (ha : PA X (e :: es) (lA X.K H0 u))
    (e1 : starEach (e :: es) X.env = (false, eval e X.env) :: starEach es X.env := by rfl) (e2 : (backTo pos (starEach es X.env)).any (·.1) = false := by rfl)
    (ht : eval (.Call (.Attribute o f apos) (e :: es) [] pos) X.env = (do
      let ov ← eval o X.env
      standAt apos.atName
      let (g, first) ← holding [ov] (getMethod ov f pl)
      callWith pos g first (backTo pos (starEach (e :: es) X.env)) (backToKw pos (keywordEach [] X.env))) := by rfl) :
    PE X (.Call (.Attribute o f apos) (e :: es) [] pos) (lE X.K H0 (dMeth C f d t u)) := by
  obtain ⟨g, fd, a, b, F⟩ := M.ex
  exact peL (pe_meth (pl := pl) (E := E0) ho c a (F X.base) hr (.all b) .nil pass0 ha e1 e2 ht) fun _ _ _ => l_meth
theorem qe_meth0 {k : Nat} {f : Str} {ps : List Str} {d : DSp} {o : Expr} {apos pos : Pos} {t : TDE} {pl : Sem Bool} (c : Cls X.K C) (M : CalleeM X.prog X.w X.K X.mg k C f ps d) (hr : Room k X.A) (ho : PE X o (lE X.K H0 t))
    (ht : eval (.Call (.Attribute o f apos) [] [] pos) X.env = (do
      let ov ← eval o X.env
      standAt apos.atName
      let (g, first) ← holding [ov] (getMethod ov f pl)
      callWith pos g first (backTo pos (starEach [] X.env)) (backToKw pos (keywordEach [] X.env))) := by rfl) :
    PE X (.Call (.Attribute o f apos) [] [] pos) (lE X.K H0 (dMeth C f d t dNil)) := by
  obtain ⟨g, fd, a, b, F⟩ := M.ex
  exact peL (pe_meth0 (pl := pl) (E := E0) ho c a (F X.base) hr (.all b) .nil pass0 ht) fun σ H Q h => l_meth0 h
theorem RM.newIns {K : PySem.W.Frag} {H : Hp} {m : M} (r : RM K H m) {p dx C : Addr} (h : H p = none) : RM K (upd H p (.ins C dx [])) (put m p (.ins C dx [])) := fun a u e => by
  by_cases n : a = p
  · subst n
    rw [put_same] at e
    cases e
    exact ⟨[], upd_same, .nil, rfl⟩
  · rw [put_ne n] at e
    exact (r a u e).stay (Keep.new h) (upd_ne n)
theorem qe_make0 {k : Nat} {d : DSp} {x : Str} {p pos : Pos} (mk : PySem.W.makesIn X.K C = true) (kc : PySem.W.keepIn X.K (.ref C) = true) (I : CalleeM X.prog X.w X.K X.mg k C "__init__" ["self"] d) (hr : Room (k + 1) X.A) (hg : Gl X x) (hm : X.mg x = some (.ref C))
    (hdb : (x == ("__debug__" : Str)) = false := by decide) : PE X (.Call (.Name x p) [] [] pos) (lE X.K H0 (dMake0 C d)) := by
  obtain ⟨g, fd, a, b, F⟩ := I.ex
  refine peL (pe_make0 (E := E0) ⟨mk, a.at_, a.fn, kc⟩ (F X.base) hr hg hm (.all b) .nil pass0 hdb) fun σ H Q h => ?_
  obtain ⟨sd, m, P, aa, p, q⟩ := h
  intro y dx hy hdx hne
  have hy2 : upd H dx (.own y) y = none := (upd_ne (Ne.symm hne)).trans hy
  have kk : Keep X.K H (upd (upd H dx (.own y)) y (.ins C dx [])) := (Keep.new hdx).trans (Keep.new hy2)
  refine ⟨[.ref y], _, fun v m2 => v = .non ∧ P (.ref y) m2, noX, .cons (.ref y) .nil, (aa.m.new hdx).newIns hy2, p y dx (aa.m.free hy), fun v m' w H' k r rd ⟨ev, pp⟩ => ?_, wantsX0⟩
  subst ev
  exact ⟨rd.non_, q _ m' _ H' (kk.trans k) r (.ref y) pp⟩
end
/-! ### del d[k], l.insert(i, x), l.pop(i) -/
def dropD (kvs : List (Key × D)) (k : Key) : List (Key × D) := kvs.filter fun p => decide (p.1 ≠ k)
/-- del t[u] of a dict -/
def dDDel (t u : TDE) : TDS := fun DD sd m => t sd m fun x m1 => u sd m1 fun y m2 => ∃ a kvs k, x = .ref a ∧ y = kD k ∧ m2 a = some (.dct kvs) ∧ (valD kvs k).isSome = true ∧ DD.nx sd (put m2 a (.dct (dropD kvs k)))
def rInsert : RmD := fun x ys m P => match x, ys with
  | .ref a, [.int i, y] => ∃ xs, m a = some (.lst xs) ∧ xs.length < sizeLine ∧ 0 ≤ i ∧ i < 2 ^ 63 ∧ P .non (put m a (.lst (xs.take i.toNat ++ [y] ++ xs.drop i.toNat)))
  | _, _ => False
def rPopAtD : RmD := fun x ys m P => match x, ys with
  | .ref a, [.int i] => ∃ xs y, m a = some (.lst xs) ∧ 0 ≤ i ∧ i < 2 ^ 62 ∧ xs[i.toNat]? = some y ∧ P y (put m a (.lst (xs.eraseIdx i.toNat)))
  | _, _ => False
theorem RK.drop {K : PySem.W.Frag} {H : Hp} (k : Key) : ∀ {kvs : List (Key × D)} {gs : List (Key × V)}, RK K H kvs gs → RK K H (dropD kvs k) (dropK gs k)
  | [], [], _ => .nil
  | [], _ :: _, r => by have := r.length; cases this
  | _ :: _, [], r => by have := r.length; cases this
  | p :: kvs, q :: gs, r => by
    obtain ⟨e, h, r2⟩ := r.cons
    have ih := RK.drop k r2
    unfold dropD dropK at ih ⊢
    rw [List.filter_cons, List.filter_cons]
    by_cases hk : p.1 = k
    · rw [if_neg (by simp [hk]), if_neg (by simp [← e, hk])]
      exact ih
    · rw [if_pos (by simp [hk]), if_pos (by simp [← e, hk])]
      exact .mk_cons e h ih
theorem RDs.erase {K : PySem.W.Frag} {H : Hp} : ∀ {xs : List D} {vs : List V}, RDs K H xs vs → ∀ n, RDs K H (xs.eraseIdx n) (vs.eraseIdx n)
  | _, _, .nil, _ => .nil
  | _, _, .cons h r, 0 => r
  | _, _, .cons h r, n + 1 => .cons h (r.erase n)
section
variable {X : Cx} {H0 : Hp}
theorem qs_ddel {o i : Expr} {t u : TDE} {pos tpos : Pos} (ho : PE X o (lE X.K H0 t)) (hi : PE X i (lE X.K H0 u)) : PS X (.Delete [.Subscript o i tpos] pos) (lS X.K H0 (dDDel t u)) := psL (ps_ddel ho hi) fun DD σ H h => by
  obtain ⟨sd, m, EE, aa, p, q⟩ := h
  refine ⟨sd, m, _, aa, p, fun x m1 w1 H1 k1 r1 d1 p1 => ⟨sd, m1, _, aa.to k1 r1, p1, fun y m2 w2 H2 k2 r2 d2 p2 => ?_⟩⟩
  obtain ⟨ad, kvs, k, rfl, rfl, hm, hv, p3⟩ := p2
  obtain rfl := (d1.mono k2).ref_
  obtain rfl := d2.key_
  obtain ⟨gs, e, rk⟩ := r2.dict hm
  have KK : Keep X.K H (upd H2 ad (.dK (dropK gs k))) := (k1.trans k2).trans (Keep.dk e)
  exact ⟨ad, gs, k, rfl, e, rfl, by rw [isSome_eq rk k]; exact hv, q.1 _ _ _ _ KK (aa.s.mono KK) (r2.setDct e (rk.drop k)) p3⟩
theorem isLst_ty {H : Hp} {m : M} {x : D} {u : V} (rm : RM X.K H m) (rx : RD X.K H x u) (h : isLst x m) : tyV X.K "list" u H := by
  unfold isLst at h
  split at h
  · cases rx.ref_
    obtain ⟨xs, h⟩ := h
    obtain ⟨vs, e, _⟩ := rm _ _ h
    exact .inl ⟨rfl, _, .inl (.inl e)⟩
  · exact h.elim
theorem md_insert : MethD X "list" "list.insert" isLst rInsert := by
  refine ⟨_, mt_insert, fun H m x u rm rx h => isLst_ty rm rx h, fun H m x u xs us P Q rm rx rs p q => ?_⟩
  unfold rInsert at p
  split at p
  · rename_i a i y
    cases rx.ref_
    obtain ⟨w1, w2, rfl, r1, r2⟩ := rs.two_
    obtain rfl := r1.int_
    obtain ⟨xs, hm, hl, h0, h1, p⟩ := p
    obtain ⟨vs, e, rr⟩ := rm _ _ hm
    refine ⟨a, vs, i, w2, rfl, rfl, e, by rw [← rr.length]; exact hl, h0, h1, q _ _ _ _ (Keep.lst e) (rm.setPut e (((rr.take _).append (.cons r2 .nil)).append (rr.drop _))) .non p⟩
  · exact p.elim
theorem md_popAt : MethD X "list" "list.pop" isLst rPopAtD := by
  refine ⟨_, mt_popAt, fun H m x u rm rx h => isLst_ty rm rx h, fun H m x u xs us P Q rm rx rs p q => ?_⟩
  unfold rPopAtD at p
  split at p
  · rename_i a i
    cases rx.ref_
    obtain ⟨w1, rfl, r1⟩ := rs.one_
    obtain rfl := r1.int_
    obtain ⟨xs, y, hm, h0, h1, hy, p⟩ := p
    obtain ⟨vs, e, rr⟩ := rm _ _ hm
    obtain ⟨v, hv, rv⟩ := rr.get hy
    have hlt := (List.getElem?_eq_some_iff.mp hv).1
    have hix : PySem.seqIndex? i vs.length = some i.toNat := by
      have n0 : ¬ i < 0 := by omega
      unfold PySem.seqIndex?
      simp only [if_neg n0]
      exact if_pos (by rw [Bool.and_eq_true]; exact ⟨decide_eq_true h0, decide_eq_true (by omega)⟩)
    exact ⟨a, vs, i, i.toNat, v, rfl, rfl, e, by omega, by omega, hix, hv, q _ _ _ _ (Keep.lst e) (rm.setPut e (rr.erase _)) (rv.mono (Keep.lst e)) p⟩
  · exact p.elim
end
/-! ### a comprehension over enumerate(l) of a list; a, b = t, u -/
def jNum (a : Addr) : DIt := fun i m o => ∃ xs, m a = some (.lst xs) ∧ o = (xs[i]?).map fun x => .tup [.int (i : Nat), x]
theorem lift_num {K : PySem.W.Frag} {H : Hp} {b : Addr} : LiftIt K H (jNum b) (Ite K b) := fun H2 k2 i m2 r2 o e => by
  obtain ⟨ys, hy, e⟩ := e
  obtain ⟨ws, e1, g2⟩ := r2 _ _ hy
  have g1 : SqL K H2 b ws := .inl (.inl e1)
  cases e2 : ys[i]? with
  | none =>
    rw [e2] at e
    subst e
    exact ⟨ws, g1, by rw [← g2.length]; exact List.getElem?_eq_none_iff.mp e2⟩
  | some x =>
    rw [e2] at e
    subst e
    obtain ⟨u, e3, r3⟩ := g2.get e2
    refine ⟨⟨ws, u, g1, e3⟩, fun v H3 y => ?_⟩
    obtain ⟨T, z, rfl, hn, rfl, hz⟩ := y
    have e5 := hz ws g1
    rw [e3] at e5
    cases e5
    have kk : Keep K H2 (upd H2 T (.tup [.int (i : Nat), u])) := Keep.new hn
    exact ⟨kk, r2.new hn, .tup (.inl (.inl upd_same)) ((RDs.cons (.int _) (.cons r3 .nil)).mono kk)⟩
def CN (a : Addr) (xs : List D) (g : TDG) (tt : TDT) (te : TDE) (vs : List Nat) (sd : DS) (m1 : M) (P : DK) : Prop := ∀ p, m1 p = none → ∃ W : Nat → List D → M → Prop, W 0 [] m1 ∧ (∀ i acc m2, i ≤ xs.length → W i acc m2 → m2 a = some (.lst xs)) ∧
  (∀ i x acc m2, xs[i]? = some x → W i acc m2 → CTurn g tt te vs sd p (W (i + 1)) (.tup [.int (i : Nat), x]) acc m2) ∧ ∀ acc m2, W xs.length acc m2 → P (.ref p) (put m2 p (.lst acc))
def dLcN (t : TDA) (g : TDG) (tt : TDT) (te : TDE) (vs : List Nat) : TDE := fun sd m P => t sd m fun ys m1 => match ys with | [.ref a] => ∃ xs, m1 a = some (.lst xs) ∧ CN a xs g tt te vs sd m1 P | _ => False
section
variable {K : PySem.W.Frag} {H0 H : Hp} {g : TDG} {tt : TDT} {te : TDE} {vs : List Nat} {sd : DS} {m1 : M} {P : DK} {p : Addr} {σ : L2.St} {Q : VK}
theorem c_num {a : Addr} {xs : List D} (hap : a ≠ p) (h : ∃ W : Nat → List D → M → Prop, W 0 [] m1 ∧ (∀ i acc m2, i ≤ xs.length → W i acc m2 → m2 a = some (.lst xs)) ∧ (∀ i x acc m2, xs[i]? = some x → W i acc m2 → CTurn g tt te vs sd p (W (i + 1)) (.tup [.int (i : Nat), x]) acc m2) ∧ ∀ acc m2, W xs.length acc m2 → P (.ref p) (put m2 p (.lst acc))) :
    ∃ (N : Nat) (W : Nat → List D → M → Prop), W 0 [] m1 ∧ ∀ i acc m2, W i acc m2 → i ≤ N ∧ ∃ o, jNum a i (put m2 p (.lst acc)) o ∧ match o with
      | none => P (.ref p) (put m2 p (.lst acc))
      | some x => CTurn g tt te vs sd p (W (i + 1)) x acc m2 := by
  obtain ⟨W, w0, wl, ws, wd⟩ := h
  refine ⟨xs.length, fun i acc m => i ≤ xs.length ∧ (i ≤ xs.length → W i acc m), ⟨Nat.zero_le _, fun _ => w0⟩, ?_⟩
  rintro i acc m2 ⟨hi, w⟩
  refine ⟨hi, ?_⟩
  have hl : put m2 p (.lst acc) a = some (.lst xs) := (put_ne hap).trans (wl i acc m2 hi (w hi))
  by_cases e : i < xs.length
  · exact ⟨some (.tup [.int (i : Nat), xs[i]]), ⟨xs, hl, by rw [List.getElem?_eq_getElem e]; rfl⟩, c_cut e (ws i xs[i] acc m2 (List.getElem?_eq_getElem e) (w hi))⟩
  · have : i = xs.length := by omega
    subst this
    exact ⟨none, ⟨xs, hl, by rw [List.getElem?_eq_none (Nat.le_refl _)]; rfl⟩, wd acc m2 (w hi)⟩
theorem l_lcN {t : TDA} (h : lE K H0 (dLcN t g tt te vs) σ H Q) : tLc (iEnum K (lA K H0 t)) (lG K H0 vs g) (lT K H0 tt) (lE K H0 te) vs σ H Q := by
  obtain ⟨sd, m, P, a, p, q⟩ := h
  refine ⟨sd, m, _, a, p, fun d m' v H' k r rd p' => ?_⟩
  split at p'
  · obtain ⟨u, rfl, r1⟩ := rd.one_
    cases r1.ref_
    obtain ⟨xs, h, p'⟩ := p'
    obtain ⟨ws, e1, rr⟩ := r _ _ h
    refine ⟨_, ws, rfl, .inl (.inl e1), fun D hD => lc_core a.k k a.s r lift_num q hD (c_num ?_ (p' D (r.free hD)))⟩
    intro e
    subst e
    rw [r.free hD] at h
    cases h
  · exact p'.elim
end
def dPar (i j : Nat) (t : TDA) : TDS := fun DD sd m => t sd m fun xs m1 => ∃ v w, xs = [v, w] ∧ DD.nx ((sd.set i (some v)).set j (some w)) m1
theorem qs_par {X : Cx} {H0 : Hp} {i j : Nat} {x y : Str} {a b : Expr} {t : TDA} {px py pt : Pos} {kt k2 : Nat} {pt2 pos : Pos} (hc : X.calm = true) (hN : X.N.Nodup) (hi : X.N[i]? = some x) (hj : X.N[j]? = some y) (hij : i ≠ j)
    (hx : X.env.scope.names.lookup x = some .local) (hy : X.env.scope.names.lookup y = some .local) (ha : PA X [a, b] (lA X.K H0 t))
    (hw : swappedStores [.Tuple [.Name x px, .Name y py] kt pt] (.Tuple [a, b] k2 pt2) X.env = pure (some [x, y])) (hs : swapsWithSole [.Tuple [.Name x px, .Name y py] kt pt] (.Tuple [a, b] k2 pt2) pos.line X.env = pure false := by rfl) :
    PS X (.Assign [.Tuple [.Name x px, .Name y py] kt pt] (.Tuple [a, b] k2 pt2) pos) (lS X.K H0 (dPar i j t)) := psL (ps_par hc hN hi hj hij hx hy ha hw hs) fun DD σ H h => by
  obtain ⟨sd, m, EE, aa, p, q⟩ := h
  refine ⟨sd, m, _, aa, p, fun xs m1 us H1 k1 r1 d1 p1 => ?_⟩
  obtain ⟨v, w, rfl, p2⟩ := p1
  obtain ⟨u1, u2, rfl, g1, g2⟩ := d1.two_
  exact ⟨u1, u2, rfl, q.1 _ _ _ _ k1 (((aa.s.mono k1).set i g1).set j g2) r1 p2⟩
theorem FunAtM.of {K : PySem.W.Frag} {C f : Addr} {x qual : Str} {st : Stmt} {ps : List Str} {oc kV doc pm cdv ct : Value} {od an : Option Addr} {osl : Array (Option Value)}
    (a1 : PySem.W.findIn K (.ref C) x = some (some (.ref f))) (i1 : PySem.W.isFn K (.ref f) = true) (l1 : K.lookup f = some ⟨oc, od, .func (PySem.W.fnOf x qual (defArgs st) (defBody st) (defScope st) .none kV doc pm an cdv ct), osl⟩) (c1 : PySem.W.codeIn K cdv qual = true) (k1 : PySem.W.keepIn K (.ref f) = true)
    (hb : ∀ (kV doc pm : Value) (an : Option Addr) (cdv ct : Value) (us : List Value), us.length = ps.length → bindArgs (PySem.W.fnOf x qual (defArgs st) (defBody st) (defScope st) .none kV doc pm an cdv ct) ⟨us, []⟩ = pure (ps.zip us)) : FunAtM K C x qual st ps :=
  ⟨f, _, fun_mk l1 c1 k1, ⟨a1, i1, k1⟩, hb kV doc pm an cdv ct⟩
end Q4

set_option Elab.async false
set_option linter.all false
set_option maxRecDepth 100000
namespace Q4
open PySem L2 PySem.Spec PyProof.Rows
/-! ### sep.join(x), l.extend(k) -/
def isTxt (x : D) (_ : M) : Prop := match x with | .str _ => True | _ => False
def rJoin : RmD := fun x xs m P => match x, xs with
  | .str a, [t] => ∃ ys : List Str, (t = .tup (ys.map D.str) ∨ isL m t (ys.map D.str)) ∧ (ys.map (·.length)).sum + ys.length * a.length ≤ 16777216 ∧ P (.str (Str.join a ys)) m
  | _, _ => False
def rExt : RmD := fun x ys m P => match x, ys with
  | .ref a, [.ref b] => ∃ xs zs, m a = some (.lst xs) ∧ m b = some (.lst zs) ∧ xs.length + zs.length ≤ sizeLine ∧ P .non (put m a (.lst (xs ++ zs)))
  | _, _ => False
section
variable {X : Cx}
theorem md_join : MethD X "str" "str.join" isTxt rJoin := by
  refine ⟨_, mt_join, fun H m x u rm rx h => ?_, fun H m x u xs us P Q rm rx rs p q => ?_⟩
  · unfold isTxt at h
    split at h
    · obtain rfl := rx.str_
      rfl
    · exact h.elim
  · unfold rJoin at p
    split at p
    · rename_i a t
      obtain rfl := rx.str_
      obtain ⟨w, rfl, r⟩ := rs.one_
      obtain ⟨ys, ht, hz, p⟩ := p
      rcases ht with rfl | ht
      · obtain ⟨b, vs, rfl, h1, h2⟩ := r.tup_
        obtain rfl := rds_strs h2
        exact ⟨a, b, ys, rfl, rfl, .inr h1, hz, by rw [TL.join_eq]; exact q _ m _ H (Keep.refl _) rm (.str _) p⟩
      · obtain ⟨b, vs, rfl, h1, h2⟩ := rm.list r ht
        obtain rfl := rds_strs h2
        exact ⟨a, b, ys, rfl, rfl, .inl h1, hz, by rw [TL.join_eq]; exact q _ m _ H (Keep.refl _) rm (.str _) p⟩
    · exact p.elim
theorem md_extend : MethD X "list" "list.extend" isLst rExt := by
  refine ⟨_, mt_extend, fun H m x u rm rx h => isLst_ty rm rx h, fun H m x u xs us P Q rm rx rs p q => ?_⟩
  unfold rExt at p
  split at p
  · rename_i a b
    cases rx.ref_
    obtain ⟨w, rfl, r⟩ := rs.one_
    cases r.ref_
    obtain ⟨xs, zs, h1, h2, hz, p⟩ := p
    obtain ⟨vs, e1, r1⟩ := rm _ _ h1
    obtain ⟨us, e2, r2⟩ := rm _ _ h2
    exact ⟨a, b, vs, us, rfl, rfl, e1, e2, by rw [← r1.length, ← r2.length]; exact hz, q _ _ _ _ (Keep.lst e1) (rm.setPut e1 (r1.append r2)) .non p⟩
  · exact p.elim
/-! ### str(x) of an int or a text -/
def rStrA : RnD := fun xs m P => match xs with | [.int i] => i.natAbs.log2 < 1920 ∧ P (.str (toString i)) m | [.str y] => P (.str y) m | _ => False
theorem cd_strA : CallD X (.type "str") rStrA := by
  have h1 : CallD X (.type "str") rStr := cd_str
  have h2 : CallD X (.type "str") (fun xs m P => ∃ y, xs = [.str y] ∧ P (.str y) m) := by
    refine ⟨_, SkE.call_str_str, fun H m xs us P Q rm rx p q => ?_⟩
    obtain ⟨y, rfl, p⟩ := p
    obtain ⟨u, rfl, r⟩ := rx.one_
    obtain rfl := r.str_
    exact ⟨_, rfl, q _ m _ H (Keep.refl _) rm (.str _) p⟩
  refine (h1.or h2).imp fun xs m P p => ?_
  unfold rStrA at p
  split at p
  · exact .inl p
  · exact .inr ⟨_, rfl, p⟩
  · exact p.elim
/-! ### x in a written tuple, x a text or any data -/
def rInDT : R2D := fun x y m P => rInD x y m P ∨ rInT x y m P
theorem od_inDT (hu : X.A.units + 65 < cLine) : OpD X (compareOp .In) rInDT := od_inD.or (od_inT hu)
/-! ### name += e -/
def rIAdd : R2D := fun x y m P => match x, y with
  | .int i, .int j => P (.int (i + j)) m
  | .str a, .str b => a.length + b.length ≤ sizeLine ∧ P (.str (a ++ b)) m
  | .ref a, .ref b => ∃ xs zs, m a = some (.lst xs) ∧ m b = some (.lst zs) ∧ xs.length + zs.length ≤ sizeLine ∧ P (.ref a) (put m a (.lst (xs ++ zs)))
  | _, _ => False
theorem od_iadd : OpD X (inplaceOp .Add) rIAdd := by
  have h1 : OpD X (inplaceOp .Add) (rI2 (fun _ _ => True) fun i j => .int (i + j)) := opd_I0 iop_add fun _ _ _ => .int _
  have h2 : OpD X (inplaceOp .Add) (fun x y m P => ∃ a b, x = .str a ∧ y = .str b ∧ a.length + b.length ≤ sizeLine ∧ P (.str (a ++ b)) m) := by
    refine ⟨_, iop_add_str, fun H m x y u v P Q rm rx ry p q => ?_⟩
    obtain ⟨a, b, rfl, rfl, z, p⟩ := p
    cases rx.str_
    cases ry.str_
    exact ⟨_, _, rfl, rfl, z, q _ m _ H (Keep.refl _) rm (.str _) p⟩
  have h4 : OpD X (inplaceOp .Add) (fun x y m P => ∃ a b xs ys, x = .ref a ∧ y = .ref b ∧ m a = some (.lst xs) ∧ m b = some (.lst ys) ∧ xs.length + ys.length ≤ sizeLine ∧ P (.ref a) (put m a (.lst (xs ++ ys)))) := by
    refine ⟨_, iop_ext, fun H m x y u v P Q rm rx ry p q => ?_⟩
    obtain ⟨a, b, xs, ys, rfl, rfl, ha, hb, z, p⟩ := p
    cases rx.ref_
    cases ry.ref_
    obtain ⟨vs, e1, r1⟩ := rm a _ ha
    obtain ⟨us, e2, r2⟩ := rm b _ hb
    exact ⟨a, b, vs, us, rfl, rfl, e1, e2, by rw [← r1.length, ← r2.length]; exact z, q _ _ _ _ (Keep.lst e1) (rm.setPut e1 (r1.append r2)) (.ref a) p⟩
  refine (h1.or (h2.or h4)).imp fun x y m P p => ?_
  unfold rIAdd at p
  split at p
  · exact .inl ⟨trivial, p⟩
  · exact .inr (.inl ⟨_, _, rfl, rfl, p⟩)
  · obtain ⟨xs, ys, p⟩ := p
    exact .inr (.inr ⟨_, _, xs, ys, rfl, rfl, p⟩)
  · exact p.elim
theorem qs_augO {H0 : Hp} {r : R2D} {i : Nat} {x : Str} {e : Expr} {t : TDE} {op : Operator} {pos pos' : Pos} (hN : X.N.Nodup) (hi : X.N[i]? = some x) (hx : Loc X.env.scope x) (he : PE X e (lE X.K H0 t)) (ho : OpD X (inplaceOp op) r) (hf : X.fn x = true ∨ X.env.scope.names.lookup x = some .local := by first | exact .inl rfl | exact .inr rfl | assumption) :
    PS X (.AugAssign (.Name x pos') op e pos) (lS X.K H0 (dAug i t r)) := by
  obtain ⟨r', h1, h2⟩ := ho.ex
  refine psL (ps_aug hN hi hx he (ti := r') (fun pins s σ H x y v u Q I rx ry q => h1 pins s σ H x y v u Q I rx ry q) hf) fun D σ H h => ?_
  obtain ⟨sd, m, DD, a, ⟨d, e1, p⟩, q⟩ := h
  obtain ⟨v, e2, rd⟩ := a.s.get i d e1
  refine ⟨v, e2, sd, m, _, a, p, fun y m1 w H1 k1 r1 d1 p1 => ?_⟩
  exact h2 H1 m1 d y v w _ _ r1 (rd.mono k1) d1 p1 fun z m2 w2 H2 k2 r2 d2 p2 => q.1 _ m2 _ H2 (k1.trans k2) ((a.s.mono (k1.trans k2)).set i d2) r2 p2
/-! ### text * int, min of two ints -/
def rMulS : R2D := fun x y m P => match x, y with | .str z, .int n => MulOk z n ∧ P (.str (Txt.mul z n)) m | _, _ => False
theorem od_mulS : OpD X (binaryOp .Mult) rMulS := by
  refine ⟨fun x y H Q => ∃ z n, x = .str z ∧ y = .int n ∧ MulOk z n ∧ Q (.str (Txt.mul z n)) H, ?_, fun H m x y u v P Q rm rx ry p q => ?_⟩
  · intro pins s σ H x y v u Q I rx ry h
    obtain ⟨z, n, rfl, rfl, hk, q⟩ := h
    obtain ⟨t, rfl⟩ := rx
    obtain ⟨t2, rfl⟩ := ry
    exact SB.mul hk fun t' k => ⟨.str _, H, I.tok k, ⟨t', rfl⟩, q⟩
  · unfold rMulS at p
    split at p
    · cases rx.str_
      cases ry.int_
      exact ⟨_, _, rfl, rfl, p.1, q _ m _ H (Keep.refl _) rm (.str _) p.2⟩
    · exact p.elim
def rMin2 : RnD := fun xs m P => match xs with | [.int i, .int j] => P (.int (if j < i then j else i)) m | _ => False
theorem cd_min2 (hc : X.calm = true) : CallD X (.builtin "min") rMin2 := by
  refine ⟨_, call_min2 hc, fun H m xs us P Q rm rx p q => ?_⟩
  unfold rMin2 at p
  split at p
  · obtain ⟨u, v, rfl, r1, r2⟩ := rx.two_
    cases r1.int_
    cases r2.int_
    exact ⟨_, _, rfl, q _ m _ H (Keep.refl _) rm (.int _) p⟩
  · exact p.elim
end
/-! ### a dict of the module: texts by texts -/
/-- ks: what stands at a key, or that nothing stands there -/
structure KMap (K : PySem.W.Frag) (w : World) (d : Addr) (ks : List (Str × Option Str)) : Prop where
  kd : ∃ es n, KDict K w d es n
  at_ : ∀ z o, (z, o) ∈ ks → match o with | none => PySem.W.nsIn K d z = some none | some y => ∃ t, PySem.W.nsIn K d z = some (some (.str y t))
section
variable {X : Cx} {H0 : Hp} {d : Addr} {ks : List (Str × Option Str)}
def rInKM (d : Addr) (ks : List (Str × Option Str)) : R2D := fun x y m P => ∃ z o, x = .str z ∧ y = .ref d ∧ (z, o) ∈ ks ∧ P (.bl o.isSome) m
theorem od_inKM (k : KMap X.K X.w d ks) : OpD X (compareOp .In) (rInKM d ks) := by
  obtain ⟨es, n, D⟩ := k.kd
  refine ⟨_, op_in_kd D, fun H m x y u v P Q rm rx ry p q => ?_⟩
  obtain ⟨z, o, rfl, rfl, hm, p⟩ := p
  cases rx.str_
  cases ry.ref_
  have e := k.at_ z o hm
  cases o with
  | none => exact ⟨z, none, rfl, rfl, e, q _ m _ H (Keep.refl _) rm (.bl _) p⟩
  | some y =>
    obtain ⟨t, e⟩ := e
    exact ⟨z, _, rfl, rfl, e, q _ m _ H (Keep.refl _) rm (.bl _) p⟩
def rGetKM (d : Addr) (ks : List (Str × Option Str)) : R2D := fun x y m P => ∃ z w, x = .ref d ∧ y = .str z ∧ (z, some w) ∈ ks ∧ P (.str w) m
theorem ix_km {es : Array DictEntry} {n : Nat} (D : KDict X.K X.w d es n) : IxR X (fun x y H Q => ∃ (z : Str) (u0 : Value) (v0 : V), x = .ref d ∧ y = .str z ∧ PySem.W.nsIn X.K d z = some (some u0) ∧ RelV v0 u0 ∧ Q v0 H) := by
  intro value slice pins s σ H x y v u Q I rx ry h hs
  have e : v = .ref d := by
    obtain ⟨z, u0, v0, rfl, _⟩ := h
    exact rx
  subst e
  exact tail_any (kd_type D I) PySem.F.slot_dict_getitem.lookup (op_item_kd D pins s σ H x y _ u Q I rx ry h) hs
theorem qe_getKM {a b : Expr} {ta tb : TDE} {pos : Pos} (k : KMap X.K X.w d ks) (ha : PE X a (lE X.K H0 ta)) (hb : PE X b (lE X.K H0 tb)) (hs : PlainIx b) : PE X (.Subscript a b pos) (lE X.K H0 (dOp (rGetKM d ks) ta tb)) := by
  obtain ⟨es, n, D⟩ := k.kd
  refine peL (pe_ix (ix_km D) ha hb hs) fun _ _ _ => l_op fun H m x y u v P Q rm rx ry p q => ?_
  obtain ⟨z, w, rfl, rfl, hm, p⟩ := p
  cases rx.ref_
  cases ry.str_
  obtain ⟨t, e⟩ := k.at_ z (some w) hm
  exact ⟨z, _, .str w, rfl, rfl, e, ⟨t, rfl⟩, q _ m _ H (Keep.refl _) rm (.str _) p⟩
end
end Q4

set_option maxHeartbeats 0
namespace Q4
open PySem L2
def topS (i : Nat) : Stmt := PySem.Challenge.pw_lendback_k13_write_expressions.main.body.getD i (.Pass ⟨0, 0, 0, 0⟩)
abbrev tab_MODES : List (Str × Option Str) := [("shared", some "&"), ("exclusive", some "&mut "), ("int", none), ("bool", none), ("unit", none), ("box", none), ("maybe", none), ("tuple", none), ("record", none)]
abbrev c_INDENT : D := .str "    "
abbrev s_write_program : Stmt := topS 3
theorem sc_write_program : FnScope ["program", "lines", "function", "records", "functions", "record", "line"] ["program"] (defScope s_write_program) := ⟨rfl, rfl, rfl, by decide +kernel, rfl, by decide +kernel, by decide +kernel⟩
def b_write_program (d_record_line d_function_lines : DSp) : TDS := (dSeq (dAsg (dVar 0) (dGTup 2 (dGCons (dName 3) (dGCons (dName 4) dGNil))))
    (dSeq (dAsg (dLcS (dVar 3) (dName 5) dYes (dCall d_record_line (dCons (dVar 5) dNil)) [5]) (dName 1))
    (dSeq (dForS (dVar 4) (dName 2)
    (dAug 1 (dCall d_function_lines (dCons (dVar 2) dNil)) rIAdd))
    (dRet (dBM isTxt rJoin (dC (.str "")) (dCons (dLcS (dVar 1) (dName 6) dYes (dOp rAdd (dVar 6) (dC (.str "\n"))) [6]) dNil))))))
theorem ok_write_program {P : Program} {w : World} {K : PySem.W.Frag} {mg : Str → Option Value} {k : Nat} {d d_record_line d_function_lines : DSp} (F : FunAt K mg "write_program" s_write_program ["program"]) (C_record_line : Callee P w K mg k "record_line" ["record"] d_record_line) (C_function_lines : Callee P w K mg k "function_lines" ["function"] d_function_lines)
    (len : ∀ ds m P EX, d ds m P EX → ds.length = 1) (rd : ∀ ds m P EX, d ds m P EX → Go P (b_write_program d_record_line d_function_lines) (dstart ["program", "lines", "function", "records", "functions", "record", "line"] ds) m) : Callee P w K mg (k + 1) "write_program" ["program"] d :=
  F.callee sc_write_program len (b_write_program d_record_line d_function_lines) rd fun base f cdv A outer s H E hr =>
    ((qss_cons (qs_asg (vs := [3, 4]) (qv 0) (qg_tup rfl (qgs_cons (qg_name (i := 3) sc_write_program.nd rfl (by first | exact Or.inl rfl | exact Or.inr rfl) (by decide)) (qgs_cons (qg_name (i := 4) sc_write_program.nd rfl (by first | exact Or.inl rfl | exact Or.inr rfl) (by decide)) qgs_nil))))
    (qss_cons (qs_lcX (i := 1) (own := [("record", 5)]) rfl sc_write_program.nd rfl rfl (sw_true rfl rfl rfl (by decide +kernel)) (pi_sq (qv 3)) (blkOk_by (N := ["program", "lines", "function", "records", "functions", "record", "line"]) (sc := defScope s_write_program) (by decide +kernel)) (fun _ _ _ _ _ => (qg_name (i := 5) sc_write_program.nd rfl (by first | exact Or.inl rfl | exact Or.inr rfl) (by decide))) (fun _ _ _ _ _ => qts_nil) (fun _ _ _ _ _ => (qe_fn C_record_line hr (by rfl) (qa_cons (qv 5) qa_nil))) (fun _ _ _ => l_lcS))
    (qss_cons (qs_forS (vs := [2]) PassesOwn.never rfl (qv 4) (qg_name (i := 2) sc_write_program.nd rfl (by first | exact Or.inl rfl | exact Or.inr rfl) (by decide))
    (qss_one (qs_augO (i := 1) sc_write_program.nd rfl (by first | exact Or.inl rfl | exact Or.inr rfl) (qe_fn C_function_lines hr (by rfl) (qa_cons (qv 2) qa_nil)) od_iadd)))
    (qss_one (qs_ret (qe_bm md_join PySem.F.plainAttrs_str PySem.F.slot_str_join PySem.F.type_str_join qe_str (qa_cons (qe_lcX (own := [("line", 6)]) rfl sc_write_program.nd (pi_sq (qv 1)) (blkOk_by (N := ["program", "lines", "function", "records", "functions", "record", "line"]) (sc := defScope s_write_program) (by decide +kernel)) (fun _ _ _ _ _ => (qg_name (i := 6) sc_write_program.nd rfl (by first | exact Or.inl rfl | exact Or.inr rfl) (by decide))) (fun _ _ _ _ _ => qts_nil) (fun _ _ _ _ _ => (qe_op od_add (qv 6) qe_str)) (fun _ _ _ => l_lcS)) qa_nil))))))))
abbrev s_record_line : Stmt := topS 4
theorem sc_record_line : FnScope ["record", "words", "name", "fields"] ["record"] (defScope s_record_line) := ⟨rfl, rfl, rfl, by decide +kernel, rfl, by decide +kernel, by decide +kernel⟩
def b_record_line (d_fields_text : DSp) : TDS := (dSeq (dAsg (dVar 0) (dGTup 2 (dGCons (dName 2) (dGCons (dName 3) dGNil))))
    (dSeq (dAsg (dLst (dCons (dC (.str "record")) (dCons (dVar 2) (dCons (dC (.str "{")) dNil)))) (dName 1))
    (dSeq (dIf (dTru (dVar 3))
    (dDrop (dBM isLst rApp (dVar 1) (dCons (dCall d_fields_text (dCons (dVar 3) dNil)) dNil)))
    dNext)
    (dRet (dBM isTxt rJoin (dC (.str " ")) (dCons (dOp rAdd (dVar 1) (dLst (dCons (dC (.str "}")) dNil))) dNil))))))
theorem ok_record_line {P : Program} {w : World} {K : PySem.W.Frag} {mg : Str → Option Value} {k : Nat} {d d_fields_text : DSp} (F : FunAt K mg "record_line" s_record_line ["record"]) (C_fields_text : Callee P w K mg k "fields_text" ["fields"] d_fields_text)
    (len : ∀ ds m P EX, d ds m P EX → ds.length = 1) (rd : ∀ ds m P EX, d ds m P EX → Go P (b_record_line d_fields_text) (dstart ["record", "words", "name", "fields"] ds) m) : Callee P w K mg (k + 1) "record_line" ["record"] d :=
  F.callee sc_record_line len (b_record_line d_fields_text) rd fun base f cdv A outer s H E hr =>
    ((qss_cons (qs_asg (vs := [2, 3]) (qv 0) (qg_tup rfl (qgs_cons (qg_name (i := 2) sc_record_line.nd rfl (by first | exact Or.inl rfl | exact Or.inr rfl) (by decide)) (qgs_cons (qg_name (i := 3) sc_record_line.nd rfl (by first | exact Or.inl rfl | exact Or.inr rfl) (by decide)) qgs_nil))))
    (qss_cons (qs_set (i := 1) sc_record_line.nd rfl (by first | exact Or.inl rfl | exact Or.inr rfl) (qe_lst (qa_cons qe_str (qa_cons (qv 2) (qa_cons qe_str qa_nil)))))
    (qss_cons (qs_if (qt_tru (qv 3))
    (qss_one (qs_expr (qe_bm md_append PySem.F.plainAttrs_list PySem.F.slot_list_append PySem.F.type_list_append (qv 1) (qa_cons (qe_fn C_fields_text hr (by rfl) (qa_cons (qv 3) qa_nil)) qa_nil))))
    qss_nil)
    (qss_one (qs_ret (qe_bm md_join PySem.F.plainAttrs_str PySem.F.slot_str_join PySem.F.type_str_join qe_str (qa_cons (qe_op od_add (qv 1) (qe_lst (qa_cons qe_str qa_nil))) qa_nil))))))))
abbrev s_function_lines : Stmt := topS 5
theorem sc_function_lines : FnScope ["function", "head", "name", "parameters", "result", "sources", "block"] ["function"] (defScope s_function_lines) := ⟨rfl, rfl, rfl, by decide +kernel, rfl, by decide +kernel, by decide +kernel⟩
def b_function_lines (d_kind_text d_fields_text d_block_lines : DSp) : TDS := (dSeq (dAsg (dVar 0) (dGTup 5 (dGCons (dName 2) (dGCons (dName 3) (dGCons (dName 4) (dGCons (dName 5) (dGCons (dName 6) dGNil)))))))
    (dSeq (dAsg (dJoin [(dC (.str "fn ")), (dFmt (dVar 2)), (dC (.str "(")), (dFmt (dCall d_fields_text (dCons (dVar 3) dNil))), (dC (.str ") -> ")), (dFmt (dCall d_kind_text (dCons (dVar 4) dNil)))]) (dName 1))
    (dSeq (dIf (dTru (dVar 5))
    (dAug 1 (dOp rAdd (dC (.str " from ")) (dBM isTxt rJoin (dC (.str ", ")) (dCons (dVar 5) dNil))) rIAdd)
    dNext)
    (dRet (dOp rAdd (dOp rAdd (dLst (dCons (dOp rAdd (dVar 1) (dC (.str " {"))) dNil)) (dCall d_block_lines (dCons (dVar 6) dNil))) (dLst (dCons (dC (.str "}")) dNil)))))))
theorem ok_function_lines {P : Program} {w : World} {K : PySem.W.Frag} {mg : Str → Option Value} {k : Nat} {d d_kind_text d_fields_text d_block_lines : DSp} (F : FunAt K mg "function_lines" s_function_lines ["function"]) (C_kind_text : Callee P w K mg k "kind_text" ["kind"] d_kind_text) (C_fields_text : Callee P w K mg k "fields_text" ["fields"] d_fields_text) (C_block_lines : Callee P w K mg k "block_lines" ["block"] d_block_lines)
    (len : ∀ ds m P EX, d ds m P EX → ds.length = 1) (rd : ∀ ds m P EX, d ds m P EX → Go P (b_function_lines d_kind_text d_fields_text d_block_lines) (dstart ["function", "head", "name", "parameters", "result", "sources", "block"] ds) m) : Callee P w K mg (k + 1) "function_lines" ["function"] d :=
  F.callee sc_function_lines len (b_function_lines d_kind_text d_fields_text d_block_lines) rd fun base f cdv A outer s H E hr =>
    ((qss_cons (qs_asg (vs := [2, 3, 4, 5, 6]) (qv 0) (qg_tup rfl (qgs_cons (qg_name (i := 2) sc_function_lines.nd rfl (by first | exact Or.inl rfl | exact Or.inr rfl) (by decide)) (qgs_cons (qg_name (i := 3) sc_function_lines.nd rfl (by first | exact Or.inl rfl | exact Or.inr rfl) (by decide)) (qgs_cons (qg_name (i := 4) sc_function_lines.nd rfl (by first | exact Or.inl rfl | exact Or.inr rfl) (by decide)) (qgs_cons (qg_name (i := 5) sc_function_lines.nd rfl (by first | exact Or.inl rfl | exact Or.inr rfl) (by decide)) (qgs_cons (qg_name (i := 6) sc_function_lines.nd rfl (by first | exact Or.inl rfl | exact Or.inr rfl) (by decide)) qgs_nil)))))))
    (qss_cons (qs_set (i := 1) sc_function_lines.nd rfl (by first | exact Or.inl rfl | exact Or.inr rfl) (qe_joined (.cons qe_str (.cons (qe_fmt (qv 2)) (.cons qe_str (.cons (qe_fmt (qe_fn C_fields_text hr (by rfl) (qa_cons (qv 3) qa_nil))) (.cons qe_str (.cons (qe_fmt (qe_fn C_kind_text hr (by rfl) (qa_cons (qv 4) qa_nil))) .nil))))))))
    (qss_cons (qs_if (qt_tru (qv 5))
    (qss_one (qs_augO (i := 1) sc_function_lines.nd rfl (by first | exact Or.inl rfl | exact Or.inr rfl) (qe_op od_add qe_str (qe_bm md_join PySem.F.plainAttrs_str PySem.F.slot_str_join PySem.F.type_str_join qe_str (qa_cons (qv 5) qa_nil))) od_iadd))
    qss_nil)
    (qss_one (qs_ret (qe_op od_add (qe_op od_add (qe_lst (qa_cons (qe_op od_add (qv 1) qe_str) qa_nil)) (qe_fn C_block_lines hr (by rfl) (qa_cons (qv 6) qa_nil))) (qe_lst (qa_cons qe_str qa_nil)))))))))
abbrev s_fields_text : Stmt := topS 6
theorem sc_fields_text : FnScope ["fields", "name", "kind"] ["fields"] (defScope s_fields_text) := ⟨rfl, rfl, rfl, by decide +kernel, rfl, by decide +kernel, by decide +kernel⟩
def b_fields_text (d_kind_text : DSp) : TDS := (dRet (dBM isTxt rJoin (dC (.str ", ")) (dCons (dLcS (dVar 0) (dGTup 2 (dGCons (dName 1) (dGCons (dName 2) dGNil))) dYes (dOp rAdd (dOp rAdd (dVar 1) (dC (.str ": "))) (dCall d_kind_text (dCons (dVar 2) dNil))) [1, 2]) dNil)))
theorem ok_fields_text {P : Program} {w : World} {K : PySem.W.Frag} {mg : Str → Option Value} {k : Nat} {d d_kind_text : DSp} (F : FunAt K mg "fields_text" s_fields_text ["fields"]) (C_kind_text : Callee P w K mg k "kind_text" ["kind"] d_kind_text)
    (len : ∀ ds m P EX, d ds m P EX → ds.length = 1) (rd : ∀ ds m P EX, d ds m P EX → Go P (b_fields_text d_kind_text) (dstart ["fields", "name", "kind"] ds) m) : Callee P w K mg (k + 1) "fields_text" ["fields"] d :=
  F.callee sc_fields_text len (b_fields_text d_kind_text) rd fun base f cdv A outer s H E hr =>
    ((qss_one (qs_ret (qe_bm md_join PySem.F.plainAttrs_str PySem.F.slot_str_join PySem.F.type_str_join qe_str (qa_cons (qe_lcX (own := [("name", 1), ("kind", 2)]) rfl sc_fields_text.nd (pi_sq (qv 0)) (blkOk_by (N := ["fields", "name", "kind"]) (sc := defScope s_fields_text) (by decide +kernel)) (fun _ _ _ _ _ => (qg_tup rfl (qgs_cons (qg_name (i := 1) sc_fields_text.nd rfl (by first | exact Or.inl rfl | exact Or.inr rfl) (by decide)) (qgs_cons (qg_name (i := 2) sc_fields_text.nd rfl (by first | exact Or.inl rfl | exact Or.inr rfl) (by decide)) qgs_nil)))) (fun _ _ _ _ _ => qts_nil) (fun _ _ _ _ _ => (qe_op od_add (qe_op od_add (qv 1) qe_str) (qe_fn C_kind_text hr (by rfl) (qa_cons (qv 2) qa_nil)))) (fun _ _ _ => l_lcS)) qa_nil)))))
abbrev s_kind_text : Stmt := topS 7
theorem sc_kind_text : FnScope ["kind", "shape", "part"] ["kind"] (defScope s_kind_text) := ⟨rfl, rfl, rfl, by decide +kernel, rfl, by decide +kernel, by decide +kernel⟩
def b_kind_text (x_MODES : Addr) (d_kind_text : DSp) : TDS := (dSeq (dAsg (dOp rIxD (dVar 0) (dC (.int 0))) (dName 1))
    (dSeq (dIf (dB (dOp rEqD (dVar 1) (dC (.str "record"))))
    (dRet (dOp rIxD (dVar 0) (dC (.int 1))))
    dNext)
    (dSeq (dIf (dB (dOp (rInKM x_MODES tab_MODES) (dVar 1) (dC (.ref x_MODES))))
    (dRet (dOp rAdd (dOp (rGetKM x_MODES tab_MODES) (dC (.ref x_MODES)) (dVar 1)) (dCall d_kind_text (dCons (dOp rIxD (dVar 0) (dC (.int 1))) dNil))))
    dNext)
    (dSeq (dIf (dB (dOp rEqD (dVar 1) (dC (.str "tuple"))))
    (dRet (dOp rAdd (dOp rAdd (dC (.str "(")) (dBM isTxt rJoin (dC (.str ", ")) (dCons (dLcS (dOp rIxD (dVar 0) (dC (.int 1))) (dName 2) dYes (dCall d_kind_text (dCons (dVar 2) dNil)) [2]) dNil))) (dC (.str ")"))))
    dNext)
    (dSeq (dIf (dB (dOp rInD (dVar 1) (dTup (dCons (dC (.str "box")) (dCons (dC (.str "maybe")) dNil)))))
    (dRet (dOp rAdd (dOp rAdd (dVar 1) (dC (.str " "))) (dCall d_kind_text (dCons (dOp rIxD (dVar 0) (dC (.int 1))) dNil))))
    dNext)
    (dRet (dVar 1)))))))
theorem ok_kind_text {P : Program} {w : World} {K : PySem.W.Frag} {mg : Str → Option Value} {k : Nat} {d d_kind_text : DSp} {x_MODES : Addr} (F : FunAt K mg "kind_text" s_kind_text ["kind"]) (C_kind_text : Callee P w K mg k "kind_text" ["kind"] d_kind_text) (g_MODES : mg "MODES" = some (.ref x_MODES)) (km_MODES : KMap K w x_MODES tab_MODES)
    (len : ∀ ds m P EX, d ds m P EX → ds.length = 1) (rd : ∀ ds m P EX, d ds m P EX → Go P (b_kind_text x_MODES d_kind_text) (dstart ["kind", "shape", "part"] ds) m) : Callee P w K mg (k + 1) "kind_text" ["kind"] d :=
  F.callee sc_kind_text len (b_kind_text x_MODES d_kind_text) rd fun base f cdv A outer s H E hr =>
    ((qss_cons (qs_set (i := 1) sc_kind_text.nd rfl (by first | exact Or.inl rfl | exact Or.inr rfl) (qe_ix (qv 0) qe_int (fun _ _ => rfl)))
    (qss_cons (qs_if (qt_cmp (od_eq hr.units) (qv 1) qe_str (nomark _))
    (qss_one (qs_ret (qe_ix (qv 0) qe_int (fun _ _ => rfl))))
    qss_nil)
    (qss_cons (qs_if (qt_cmp (od_inKM km_MODES) (qv 1) (qe_const (ExcAt.const g_MODES) (by rfl)) (by rfl))
    (qss_one (qs_ret (qe_op od_add (qe_getKM km_MODES (qe_const (ExcAt.const g_MODES) (by rfl)) (qv 1) (fun _ _ => rfl)) (qe_fn C_kind_text hr (by rfl) (qa_cons (qe_ix (qv 0) qe_int (fun _ _ => rfl)) qa_nil)))))
    qss_nil)
    (qss_cons (qs_if (qt_cmp (od_eq hr.units) (qv 1) qe_str (nomark _))
    (qss_one (qs_ret (qe_op od_add (qe_op od_add qe_str (qe_bm md_join PySem.F.plainAttrs_str PySem.F.slot_str_join PySem.F.type_str_join qe_str (qa_cons (qe_lcX (own := [("part", 2)]) rfl sc_kind_text.nd (pi_sq (qe_ix (qv 0) qe_int (fun _ _ => rfl))) (blkOk_by (N := ["kind", "shape", "part"]) (sc := defScope s_kind_text) (by decide +kernel)) (fun _ _ _ _ _ => (qg_name (i := 2) sc_kind_text.nd rfl (by first | exact Or.inl rfl | exact Or.inr rfl) (by decide))) (fun _ _ _ _ _ => qts_nil) (fun _ _ _ _ _ => (qe_fn C_kind_text hr (by rfl) (qa_cons (qv 2) qa_nil))) (fun _ _ _ => l_lcS)) qa_nil))) qe_str)))
    qss_nil)
    (qss_cons (qs_if (qt_cmp od_inD (qv 1) (qe_tup (qa_cons qe_str (qa_cons qe_str qa_nil))) (by rfl))
    (qss_one (qs_ret (qe_op od_add (qe_op od_add (qv 1) qe_str) (qe_fn C_kind_text hr (by rfl) (qa_cons (qe_ix (qv 0) qe_int (fun _ _ => rfl)) qa_nil)))))
    qss_nil)
    (qss_one (qs_ret (qv 1)))))))))
abbrev s_block_lines : Stmt := topS 8
theorem sc_block_lines : FnScope ["block", "lines", "statement", "line"] ["block"] (defScope s_block_lines) := ⟨rfl, rfl, rfl, by decide +kernel, rfl, by decide +kernel, by decide +kernel⟩
def b_block_lines (d_statement_lines : DSp) : TDS := (dSeq (dAsg (dLst dNil) (dName 1))
    (dSeq (dForS (dVar 0) (dName 2)
    (dAug 1 (dCall d_statement_lines (dCons (dVar 2) dNil)) rIAdd))
    (dRet (dLcS (dVar 1) (dName 3) dYes (dOp rAdd (dC c_INDENT) (dVar 3)) [3]))))
theorem ok_block_lines {P : Program} {w : World} {K : PySem.W.Frag} {mg : Str → Option Value} {k : Nat} {d d_statement_lines : DSp} (F : FunAt K mg "block_lines" s_block_lines ["block"]) (C_statement_lines : Callee P w K mg k "statement_lines" ["statement"] d_statement_lines) (k_INDENT : ConstAt K mg "INDENT" c_INDENT)
    (len : ∀ ds m P EX, d ds m P EX → ds.length = 1) (rd : ∀ ds m P EX, d ds m P EX → Go P (b_block_lines d_statement_lines) (dstart ["block", "lines", "statement", "line"] ds) m) : Callee P w K mg (k + 1) "block_lines" ["block"] d :=
  F.callee sc_block_lines len (b_block_lines d_statement_lines) rd fun base f cdv A outer s H E hr =>
    ((qss_cons (qs_set (i := 1) sc_block_lines.nd rfl (by first | exact Or.inl rfl | exact Or.inr rfl) (qe_lst qa_nil))
    (qss_cons (qs_forS (vs := [2]) PassesOwn.never rfl (qv 0) (qg_name (i := 2) sc_block_lines.nd rfl (by first | exact Or.inl rfl | exact Or.inr rfl) (by decide))
    (qss_one (qs_augO (i := 1) sc_block_lines.nd rfl (by first | exact Or.inl rfl | exact Or.inr rfl) (qe_fn C_statement_lines hr (by rfl) (qa_cons (qv 2) qa_nil)) od_iadd)))
    (qss_one (qs_ret (qe_lcX (own := [("line", 3)]) rfl sc_block_lines.nd (pi_sq (qv 1)) (blkOk_by (N := ["block", "lines", "statement", "line"]) (sc := defScope s_block_lines) (by decide +kernel)) (fun _ _ _ _ _ => (qg_name (i := 3) sc_block_lines.nd rfl (by first | exact Or.inl rfl | exact Or.inr rfl) (by decide))) (fun _ _ _ _ _ => qts_nil) (fun _ _ _ _ _ => (qe_op od_add (qe_const k_INDENT (by rfl)) (qv 3))) (fun _ _ _ => l_lcS)))))))
abbrev s_statement_lines : Stmt := topS 9
theorem sc_statement_lines : FnScope ["statement", "word", "start"] ["statement"] (defScope s_statement_lines) := ⟨rfl, rfl, rfl, by decide +kernel, rfl, by decide +kernel, by decide +kernel⟩
def b_statement_lines (d_expression_text d_place_text d_block_lines : DSp) : TDS := (dSeq (dAsg (dOp rIxD (dVar 0) (dC (.int 0))) (dName 1))
    (dSeq (dIf (dB (dOp rEqD (dVar 1) (dC (.str "let"))))
    (dRet (dLst (dCons (dJoin [(dC (.str "let ")), (dFmt (dOp rIxD (dVar 0) (dC (.int 1)))), (dC (.str " = ")), (dFmt (dCall d_expression_text (dCons (dOp rIxD (dVar 0) (dC (.int 2))) dNil))), (dC (.str ";"))]) dNil)))
    dNext)
    (dSeq (dIf (dB (dOp rEqD (dVar 1) (dC (.str "store"))))
    (dRet (dLst (dCons (dJoin [(dFmt (dCall d_place_text (dCons (dOp rIxD (dVar 0) (dC (.int 1))) dNil))), (dC (.str " = ")), (dFmt (dCall d_expression_text (dCons (dOp rIxD (dVar 0) (dC (.int 2))) dNil))), (dC (.str ";"))]) dNil)))
    dNext)
    (dSeq (dAsg (dOp rAdd (dOp rAdd (dVar 1) (dC (.str " "))) (dCall d_expression_text (dCons (dOp rIxD (dVar 0) (dC (.int 1))) dNil))) (dName 2))
    (dSeq (dIf (dB (dOp rEqD (dVar 1) (dC (.str "if"))))
    (dRet (dOp rAdd (dOp rAdd (dOp rAdd (dOp rAdd (dLst (dCons (dOp rAdd (dVar 2) (dC (.str " {"))) dNil)) (dCall d_block_lines (dCons (dOp rIxD (dVar 0) (dC (.int 2))) dNil))) (dLst (dCons (dC (.str "} else {")) dNil))) (dCall d_block_lines (dCons (dOp rIxD (dVar 0) (dC (.int 3))) dNil))) (dLst (dCons (dC (.str "}")) dNil))))
    dNext)
    (dSeq (dIf (dB (dOp rEqD (dVar 1) (dC (.str "while"))))
    (dRet (dOp rAdd (dOp rAdd (dLst (dCons (dOp rAdd (dVar 2) (dC (.str " {"))) dNil)) (dCall d_block_lines (dCons (dOp rIxD (dVar 0) (dC (.int 2))) dNil))) (dLst (dCons (dC (.str "}")) dNil))))
    dNext)
    (dRet (dLst (dCons (dOp rAdd (dVar 2) (dC (.str ";"))) dNil)))))))))
theorem ok_statement_lines {P : Program} {w : World} {K : PySem.W.Frag} {mg : Str → Option Value} {k : Nat} {d d_expression_text d_place_text d_block_lines : DSp} (F : FunAt K mg "statement_lines" s_statement_lines ["statement"]) (C_expression_text : Callee P w K mg k "expression_text" ["expression"] d_expression_text) (C_place_text : Callee P w K mg k "place_text" ["place"] d_place_text) (C_block_lines : Callee P w K mg k "block_lines" ["block"] d_block_lines)
    (len : ∀ ds m P EX, d ds m P EX → ds.length = 1) (rd : ∀ ds m P EX, d ds m P EX → Go P (b_statement_lines d_expression_text d_place_text d_block_lines) (dstart ["statement", "word", "start"] ds) m) : Callee P w K mg (k + 1) "statement_lines" ["statement"] d :=
  F.callee sc_statement_lines len (b_statement_lines d_expression_text d_place_text d_block_lines) rd fun base f cdv A outer s H E hr =>
    ((qss_cons (qs_set (i := 1) sc_statement_lines.nd rfl (by first | exact Or.inl rfl | exact Or.inr rfl) (qe_ix (qv 0) qe_int (fun _ _ => rfl)))
    (qss_cons (qs_if (qt_cmp (od_eq hr.units) (qv 1) qe_str (nomark _))
    (qss_one (qs_ret (qe_lst (qa_cons (qe_joined (.cons qe_str (.cons (qe_fmt (qe_ix (qv 0) qe_int (fun _ _ => rfl))) (.cons qe_str (.cons (qe_fmt (qe_fn C_expression_text hr (by rfl) (qa_cons (qe_ix (qv 0) qe_int (fun _ _ => rfl)) qa_nil))) (.cons qe_str .nil)))))) qa_nil))))
    qss_nil)
    (qss_cons (qs_if (qt_cmp (od_eq hr.units) (qv 1) qe_str (nomark _))
    (qss_one (qs_ret (qe_lst (qa_cons (qe_joined (.cons (qe_fmt (qe_fn C_place_text hr (by rfl) (qa_cons (qe_ix (qv 0) qe_int (fun _ _ => rfl)) qa_nil))) (.cons qe_str (.cons (qe_fmt (qe_fn C_expression_text hr (by rfl) (qa_cons (qe_ix (qv 0) qe_int (fun _ _ => rfl)) qa_nil))) (.cons qe_str .nil))))) qa_nil))))
    qss_nil)
    (qss_cons (qs_set (i := 2) sc_statement_lines.nd rfl (by first | exact Or.inl rfl | exact Or.inr rfl) (qe_op od_add (qe_op od_add (qv 1) qe_str) (qe_fn C_expression_text hr (by rfl) (qa_cons (qe_ix (qv 0) qe_int (fun _ _ => rfl)) qa_nil))))
    (qss_cons (qs_if (qt_cmp (od_eq hr.units) (qv 1) qe_str (nomark _))
    (qss_one (qs_ret (qe_op od_add (qe_op od_add (qe_op od_add (qe_op od_add (qe_lst (qa_cons (qe_op od_add (qv 2) qe_str) qa_nil)) (qe_fn C_block_lines hr (by rfl) (qa_cons (qe_ix (qv 0) qe_int (fun _ _ => rfl)) qa_nil))) (qe_lst (qa_cons qe_str qa_nil))) (qe_fn C_block_lines hr (by rfl) (qa_cons (qe_ix (qv 0) qe_int (fun _ _ => rfl)) qa_nil))) (qe_lst (qa_cons qe_str qa_nil)))))
    qss_nil)
    (qss_cons (qs_if (qt_cmp (od_eq hr.units) (qv 1) qe_str (nomark _))
    (qss_one (qs_ret (qe_op od_add (qe_op od_add (qe_lst (qa_cons (qe_op od_add (qv 2) qe_str) qa_nil)) (qe_fn C_block_lines hr (by rfl) (qa_cons (qe_ix (qv 0) qe_int (fun _ _ => rfl)) qa_nil))) (qe_lst (qa_cons qe_str qa_nil)))))
    qss_nil)
    (qss_one (qs_ret (qe_lst (qa_cons (qe_op od_add (qv 2) qe_str) qa_nil)))))))))))
abbrev s_place_text : Stmt := topS 10
theorem sc_place_text : FnScope ["place", "variable", "steps", "step"] ["place"] (defScope s_place_text) := ⟨rfl, rfl, rfl, by decide +kernel, rfl, by decide +kernel, by decide +kernel⟩
def b_place_text (d_step_text : DSp) : TDS := (dSeq (dAsg (dVar 0) (dGTup 2 (dGCons (dName 1) (dGCons (dName 2) dGNil))))
    (dRet (dOp rAdd (dVar 1) (dBM isTxt rJoin (dC (.str "")) (dCons (dLcS (dVar 2) (dName 3) dYes (dCall d_step_text (dCons (dVar 3) dNil)) [3]) dNil)))))
theorem ok_place_text {P : Program} {w : World} {K : PySem.W.Frag} {mg : Str → Option Value} {k : Nat} {d d_step_text : DSp} (F : FunAt K mg "place_text" s_place_text ["place"]) (C_step_text : Callee P w K mg k "step_text" ["step"] d_step_text)
    (len : ∀ ds m P EX, d ds m P EX → ds.length = 1) (rd : ∀ ds m P EX, d ds m P EX → Go P (b_place_text d_step_text) (dstart ["place", "variable", "steps", "step"] ds) m) : Callee P w K mg (k + 1) "place_text" ["place"] d :=
  F.callee sc_place_text len (b_place_text d_step_text) rd fun base f cdv A outer s H E hr =>
    ((qss_cons (qs_asg (vs := [1, 2]) (qv 0) (qg_tup rfl (qgs_cons (qg_name (i := 1) sc_place_text.nd rfl (by first | exact Or.inl rfl | exact Or.inr rfl) (by decide)) (qgs_cons (qg_name (i := 2) sc_place_text.nd rfl (by first | exact Or.inl rfl | exact Or.inr rfl) (by decide)) qgs_nil))))
    (qss_one (qs_ret (qe_op od_add (qv 1) (qe_bm md_join PySem.F.plainAttrs_str PySem.F.slot_str_join PySem.F.type_str_join qe_str (qa_cons (qe_lcX (own := [("step", 3)]) rfl sc_place_text.nd (pi_sq (qv 2)) (blkOk_by (N := ["place", "variable", "steps", "step"]) (sc := defScope s_place_text) (by decide +kernel)) (fun _ _ _ _ _ => (qg_name (i := 3) sc_place_text.nd rfl (by first | exact Or.inl rfl | exact Or.inr rfl) (by decide))) (fun _ _ _ _ _ => qts_nil) (fun _ _ _ _ _ => (qe_fn C_step_text hr (by rfl) (qa_cons (qv 3) qa_nil))) (fun _ _ _ => l_lcS)) qa_nil)))))))
abbrev s_step_text : Stmt := topS 11
theorem sc_step_text : FnScope ["step"] ["step"] (defScope s_step_text) := ⟨rfl, rfl, rfl, by decide +kernel, rfl, by decide +kernel, by decide +kernel⟩
def b_step_text : TDS := (dSeq (dIf (dB (dOp rInDT (dVar 0) (dTup (dCons (dC (.str "?")) (dCons (dC (.str "^")) dNil)))))
    (dRet (dVar 0))
    dNext)
    (dRet (dJoin [(dC (.str ".")), (dFmt (dVar 0))])))
theorem ok_step_text {P : Program} {w : World} {K : PySem.W.Frag} {mg : Str → Option Value} {k : Nat} {d : DSp} (F : FunAt K mg "step_text" s_step_text ["step"])
    (len : ∀ ds m P EX, d ds m P EX → ds.length = 1) (rd : ∀ ds m P EX, d ds m P EX → Go P (b_step_text) (dstart ["step"] ds) m) : Callee P w K mg (k + 1) "step_text" ["step"] d :=
  F.callee sc_step_text len (b_step_text) rd fun base f cdv A outer s H E hr =>
    ((qss_cons (qs_if (qt_cmp (od_inDT (units65 hr)) (qv 0) (qe_tup (qa_cons qe_str (qa_cons qe_str qa_nil))) (by rfl))
    (qss_one (qs_ret (qv 0)))
    qss_nil)
    (qss_one (qs_ret (qe_joined (.cons qe_str (.cons (qe_fmt (qv 0)) .nil)))))))
abbrev s_expression_text : Stmt := topS 12
theorem sc_expression_text : FnScope ["expression", "shape"] ["expression"] (defScope s_expression_text) := ⟨rfl, rfl, rfl, by decide +kernel, rfl, by decide +kernel, by decide +kernel⟩
def b_expression_text (x_MODES : Addr) (d_kind_text d_place_text d_outer_text : DSp) : TDS := (dSeq (dAsg (dOp rIxD (dVar 0) (dC (.int 0))) (dName 1))
    (dSeq (dIf (dB (dOp rEqD (dVar 1) (dC (.str "int"))))
    (dRet (dCB rStrA (dCons (dOp rIxD (dVar 0) (dC (.int 1))) dNil)))
    dNext)
    (dSeq (dIf (dB (dOp rEqD (dVar 1) (dC (.str "bool"))))
    (dRet (dIfE (dTru (dOp rIxD (dVar 0) (dC (.int 1)))) (dC (.str "true")) (dC (.str "false"))))
    dNext)
    (dSeq (dIf (dB (dOp rEqD (dVar 1) (dC (.str "unit"))))
    (dRet (dC (.str "unit")))
    dNext)
    (dSeq (dIf (dB (dOp rEqD (dVar 1) (dC (.str "none"))))
    (dRet (dOp rAdd (dOp rAdd (dC (.str "none[")) (dCall d_kind_text (dCons (dOp rIxD (dVar 0) (dC (.int 1))) dNil))) (dC (.str "]"))))
    dNext)
    (dSeq (dIf (dB (dOp rEqD (dVar 1) (dC (.str "borrow"))))
    (dRet (dOp rAdd (dOp (rGetKM x_MODES tab_MODES) (dC (.ref x_MODES)) (dOp rIxD (dVar 0) (dC (.int 1)))) (dCall d_place_text (dCons (dOp rIxD (dVar 0) (dC (.int 2))) dNil))))
    dNext)
    (dSeq (dIf (dB (dOp rEqD (dVar 1) (dC (.str "use"))))
    (dRet (dCall d_place_text (dCons (dOp rIxD (dVar 0) (dC (.int 1))) dNil)))
    dNext)
    (dSeq (dIf (dB (dOp rEqD (dVar 1) (dC (.str "is"))))
    (dRet (dOp rAdd (dCall d_place_text (dCons (dOp rIxD (dVar 0) (dC (.int 1))) dNil)) (dC (.str " is some"))))
    dNext)
    (dRet (dCall d_outer_text (dCons (dVar 0) dNil)))))))))))
theorem ok_expression_text {P : Program} {w : World} {K : PySem.W.Frag} {mg : Str → Option Value} {k : Nat} {d d_kind_text d_place_text d_outer_text : DSp} {x_MODES : Addr} (F : FunAt K mg "expression_text" s_expression_text ["expression"]) (C_kind_text : Callee P w K mg k "kind_text" ["kind"] d_kind_text) (C_place_text : Callee P w K mg k "place_text" ["place"] d_place_text) (C_outer_text : Callee P w K mg k "outer_text" ["expression"] d_outer_text) (g_MODES : mg "MODES" = some (.ref x_MODES)) (km_MODES : KMap K w x_MODES tab_MODES) (z_str : mg "str" = none)
    (len : ∀ ds m P EX, d ds m P EX → ds.length = 1) (rd : ∀ ds m P EX, d ds m P EX → Go P (b_expression_text x_MODES d_kind_text d_place_text d_outer_text) (dstart ["expression", "shape"] ds) m) : Callee P w K mg (k + 1) "expression_text" ["expression"] d :=
  F.callee sc_expression_text len (b_expression_text x_MODES d_kind_text d_place_text d_outer_text) rd fun base f cdv A outer s H E hr =>
    ((qss_cons (qs_set (i := 1) sc_expression_text.nd rfl (by first | exact Or.inl rfl | exact Or.inr rfl) (qe_ix (qv 0) qe_int (fun _ _ => rfl)))
    (qss_cons (qs_if (qt_cmp (od_eq hr.units) (qv 1) qe_str (nomark _))
    (qss_one (qs_ret (qe_callTy cd_strA (by rfl) z_str PyProof.Rows.boot_str (qa_cons (qe_ix (qv 0) qe_int (fun _ _ => rfl)) qa_nil))))
    qss_nil)
    (qss_cons (qs_if (qt_cmp (od_eq hr.units) (qv 1) qe_str (nomark _))
    (qss_one (qs_ret (qe_if (qt_tru (qe_ix (qv 0) qe_int (fun _ _ => rfl))) qe_str qe_str)))
    qss_nil)
    (qss_cons (qs_if (qt_cmp (od_eq hr.units) (qv 1) qe_str (nomark _))
    (qss_one (qs_ret qe_str))
    qss_nil)
    (qss_cons (qs_if (qt_cmp (od_eq hr.units) (qv 1) qe_str (nomark _))
    (qss_one (qs_ret (qe_op od_add (qe_op od_add qe_str (qe_fn C_kind_text hr (by rfl) (qa_cons (qe_ix (qv 0) qe_int (fun _ _ => rfl)) qa_nil))) qe_str)))
    qss_nil)
    (qss_cons (qs_if (qt_cmp (od_eq hr.units) (qv 1) qe_str (nomark _))
    (qss_one (qs_ret (qe_op od_add (qe_getKM km_MODES (qe_const (ExcAt.const g_MODES) (by rfl)) (qe_ix (qv 0) qe_int (fun _ _ => rfl)) (fun _ _ => rfl)) (qe_fn C_place_text hr (by rfl) (qa_cons (qe_ix (qv 0) qe_int (fun _ _ => rfl)) qa_nil)))))
    qss_nil)
    (qss_cons (qs_if (qt_cmp (od_eq hr.units) (qv 1) qe_str (nomark _))
    (qss_one (qs_ret (qe_fn C_place_text hr (by rfl) (qa_cons (qe_ix (qv 0) qe_int (fun _ _ => rfl)) qa_nil))))
    qss_nil)
    (qss_cons (qs_if (qt_cmp (od_eq hr.units) (qv 1) qe_str (nomark _))
    (qss_one (qs_ret (qe_op od_add (qe_fn C_place_text hr (by rfl) (qa_cons (qe_ix (qv 0) qe_int (fun _ _ => rfl)) qa_nil)) qe_str)))
    qss_nil)
    (qss_one (qs_ret (qe_fn C_outer_text hr (by rfl) (qa_cons (qv 0) qa_nil)))))))))))))
abbrev s_outer_text : Stmt := topS 13
theorem sc_outer_text : FnScope ["expression", "shape"] ["expression"] (defScope s_outer_text) := ⟨rfl, rfl, rfl, by decide +kernel, rfl, by decide +kernel, by decide +kernel⟩
def b_outer_text (d_expression_text d_place_text d_list_text : DSp) : TDS := (dSeq (dAsg (dOp rIxD (dVar 0) (dC (.int 0))) (dName 1))
    (dSeq (dIf (dB (dOp rEqD (dVar 1) (dC (.str "swap"))))
    (dRet (dJoin [(dC (.str "swap ")), (dFmt (dCall d_place_text (dCons (dOp rIxD (dVar 0) (dC (.int 1))) dNil))), (dC (.str " with ")), (dFmt (dCall d_expression_text (dCons (dOp rIxD (dVar 0) (dC (.int 2))) dNil)))]))
    dNext)
    (dSeq (dIf (dB (dOp rEqD (dVar 1) (dC (.str "op"))))
    (dRet (dJoin [(dC (.str "(")), (dFmt (dCall d_expression_text (dCons (dOp rIxD (dVar 0) (dC (.int 2))) dNil))), (dC (.str " ")), (dFmt (dOp rIxD (dVar 0) (dC (.int 1)))), (dC (.str " ")), (dFmt (dCall d_expression_text (dCons (dOp rIxD (dVar 0) (dC (.int 3))) dNil))), (dC (.str ")"))]))
    dNext)
    (dSeq (dIf (dB (dOp rEqD (dVar 1) (dC (.str "tuple"))))
    (dRet (dCall d_list_text (dCons (dOp rIxD (dVar 0) (dC (.int 1))) dNil)))
    dNext)
    (dSeq (dIf (dB (dOp rInD (dVar 1) (dTup (dCons (dC (.str "record")) (dCons (dC (.str "call")) dNil)))))
    (dRet (dOp rAdd (dOp rIxD (dVar 0) (dC (.int 1))) (dCall d_list_text (dCons (dOp rIxD (dVar 0) (dC (.int 2))) dNil))))
    dNext)
    (dRet (dOp rAdd (dOp rAdd (dVar 1) (dC (.str " "))) (dCall d_expression_text (dCons (dOp rIxD (dVar 0) (dC (.int 1))) dNil)))))))))
theorem ok_outer_text {P : Program} {w : World} {K : PySem.W.Frag} {mg : Str → Option Value} {k : Nat} {d d_expression_text d_place_text d_list_text : DSp} (F : FunAt K mg "outer_text" s_outer_text ["expression"]) (C_expression_text : Callee P w K mg k "expression_text" ["expression"] d_expression_text) (C_place_text : Callee P w K mg k "place_text" ["place"] d_place_text) (C_list_text : Callee P w K mg k "list_text" ["expressions"] d_list_text)
    (len : ∀ ds m P EX, d ds m P EX → ds.length = 1) (rd : ∀ ds m P EX, d ds m P EX → Go P (b_outer_text d_expression_text d_place_text d_list_text) (dstart ["expression", "shape"] ds) m) : Callee P w K mg (k + 1) "outer_text" ["expression"] d :=
  F.callee sc_outer_text len (b_outer_text d_expression_text d_place_text d_list_text) rd fun base f cdv A outer s H E hr =>
    ((qss_cons (qs_set (i := 1) sc_outer_text.nd rfl (by first | exact Or.inl rfl | exact Or.inr rfl) (qe_ix (qv 0) qe_int (fun _ _ => rfl)))
    (qss_cons (qs_if (qt_cmp (od_eq hr.units) (qv 1) qe_str (nomark _))
    (qss_one (qs_ret (qe_joined (.cons qe_str (.cons (qe_fmt (qe_fn C_place_text hr (by rfl) (qa_cons (qe_ix (qv 0) qe_int (fun _ _ => rfl)) qa_nil))) (.cons qe_str (.cons (qe_fmt (qe_fn C_expression_text hr (by rfl) (qa_cons (qe_ix (qv 0) qe_int (fun _ _ => rfl)) qa_nil))) .nil)))))))
    qss_nil)
    (qss_cons (qs_if (qt_cmp (od_eq hr.units) (qv 1) qe_str (nomark _))
    (qss_one (qs_ret (qe_joined (.cons qe_str (.cons (qe_fmt (qe_fn C_expression_text hr (by rfl) (qa_cons (qe_ix (qv 0) qe_int (fun _ _ => rfl)) qa_nil))) (.cons qe_str (.cons (qe_fmt (qe_ix (qv 0) qe_int (fun _ _ => rfl))) (.cons qe_str (.cons (qe_fmt (qe_fn C_expression_text hr (by rfl) (qa_cons (qe_ix (qv 0) qe_int (fun _ _ => rfl)) qa_nil))) (.cons qe_str .nil))))))))))
    qss_nil)
    (qss_cons (qs_if (qt_cmp (od_eq hr.units) (qv 1) qe_str (nomark _))
    (qss_one (qs_ret (qe_fn C_list_text hr (by rfl) (qa_cons (qe_ix (qv 0) qe_int (fun _ _ => rfl)) qa_nil))))
    qss_nil)
    (qss_cons (qs_if (qt_cmp od_inD (qv 1) (qe_tup (qa_cons qe_str (qa_cons qe_str qa_nil))) (by rfl))
    (qss_one (qs_ret (qe_op od_add (qe_ix (qv 0) qe_int (fun _ _ => rfl)) (qe_fn C_list_text hr (by rfl) (qa_cons (qe_ix (qv 0) qe_int (fun _ _ => rfl)) qa_nil)))))
    qss_nil)
    (qss_one (qs_ret (qe_op od_add (qe_op od_add (qv 1) qe_str) (qe_fn C_expression_text hr (by rfl) (qa_cons (qe_ix (qv 0) qe_int (fun _ _ => rfl)) qa_nil)))))))))))
abbrev s_list_text : Stmt := topS 14
theorem sc_list_text : FnScope ["expressions", "part"] ["expressions"] (defScope s_list_text) := ⟨rfl, rfl, rfl, by decide +kernel, rfl, by decide +kernel, by decide +kernel⟩
def b_list_text (d_expression_text : DSp) : TDS := (dRet (dOp rAdd (dOp rAdd (dC (.str "(")) (dBM isTxt rJoin (dC (.str ", ")) (dCons (dLcS (dVar 0) (dName 1) dYes (dCall d_expression_text (dCons (dVar 1) dNil)) [1]) dNil))) (dC (.str ")"))))
theorem ok_list_text {P : Program} {w : World} {K : PySem.W.Frag} {mg : Str → Option Value} {k : Nat} {d d_expression_text : DSp} (F : FunAt K mg "list_text" s_list_text ["expressions"]) (C_expression_text : Callee P w K mg k "expression_text" ["expression"] d_expression_text)
    (len : ∀ ds m P EX, d ds m P EX → ds.length = 1) (rd : ∀ ds m P EX, d ds m P EX → Go P (b_list_text d_expression_text) (dstart ["expressions", "part"] ds) m) : Callee P w K mg (k + 1) "list_text" ["expressions"] d :=
  F.callee sc_list_text len (b_list_text d_expression_text) rd fun base f cdv A outer s H E hr =>
    ((qss_one (qs_ret (qe_op od_add (qe_op od_add qe_str (qe_bm md_join PySem.F.plainAttrs_str PySem.F.slot_str_join PySem.F.type_str_join qe_str (qa_cons (qe_lcX (own := [("part", 1)]) rfl sc_list_text.nd (pi_sq (qv 0)) (blkOk_by (N := ["expressions", "part"]) (sc := defScope s_list_text) (by decide +kernel)) (fun _ _ _ _ _ => (qg_name (i := 1) sc_list_text.nd rfl (by first | exact Or.inl rfl | exact Or.inr rfl) (by decide))) (fun _ _ _ _ _ => qts_nil) (fun _ _ _ _ _ => (qe_fn C_expression_text hr (by rfl) (qa_cons (qv 1) qa_nil))) (fun _ _ _ => l_lcS)) qa_nil))) qe_str))))
abbrev s_law_pick : Stmt := topS 16
theorem sc_law_pick : FnScope ["state", "script", "many", "place", "number", "cell"] ["state", "script", "many"] (defScope s_law_pick) := ⟨rfl, rfl, rfl, by decide +kernel, rfl, by decide +kernel, by decide +kernel⟩
def b_law_pick : TDS := (dSeq (dIf (dB (dOp rGtD (dOp rIxD (dVar 0) (dC (.int 1))) (dC (.int 0))))
    (dSeq (dAsg (dOp rMod (dCB rInt (dCons (dOp rIxD (dVar 0) (dC (.int 1))) dNil)) (dVar 2)) (dName 4))
    (dSeq (dAsg (dOp rFdiv (dOp rIxD (dVar 0) (dC (.int 1))) (dVar 2)) (dGSub (dVar 0) (dC (.int 1))))
    (dRet (dVar 4))))
    dNext)
    (dSeq (dAsg (dOp rIxD (dVar 0) (dC (.int 0))) (dName 3))
    (dSeq (dAsg (dOp rAdd (dVar 3) (dC (.int 1))) (dGSub (dVar 0) (dC (.int 0))))
    (dSeq (dIf (dB (dOp rLtD (dVar 3) (dCB rLen (dCons (dVar 1) dNil))))
    (dSeq (dAsg (dCB rAbs (dCons (dCB rInt (dCons (dOp rIxD (dVar 1) (dVar 3)) dNil)) dNil)) (dName 5))
    (dSeq (dIf (dB (dOp rGeD (dVar 5) (dOp rPow (dC (.int 10)) (dC (.int 18)))))
    (dSeq (dAsg (dOp rFdiv (dVar 5) (dVar 2)) (dGSub (dVar 0) (dC (.int 1))))
    (dRet (dOp rMod (dCB rInt (dCons (dVar 5) dNil)) (dVar 2))))
    dNext)
    (dAsg (dOp rMod (dCB rInt (dCons (dOp rAdd (dOp rAdd (dOp rMul (dOp rIxD (dVar 0) (dC (.int 2))) (dC (.int 40014))) (dOp rMul (dVar 5) (dC (.int 69621)))) (dC (.int 17))) dNil)) (dC (.int 2147483563))) (dGSub (dVar 0) (dC (.int 2))))))
    dNext)
    (dSeq (dAsg (dOp rMod (dCB rInt (dCons (dOp rAdd (dOp rAdd (dOp rMul (dOp rIxD (dVar 0) (dC (.int 2))) (dC (.int 48271))) (dOp rMul (dC (.int 11)) (dVar 3))) (dC (.int 5))) dNil)) (dC (.int 2147483647))) (dGSub (dVar 0) (dC (.int 2))))
    (dRet (dOp rMod (dCB rInt (dCons (dOp rFdiv (dOp rMul (dOp rIxD (dVar 0) (dC (.int 2))) (dOp rIxD (dVar 0) (dC (.int 2)))) (dC (.int 8191))) dNil)) (dVar 2))))))))
theorem ok_law_pick {P : Program} {w : World} {K : PySem.W.Frag} {mg : Str → Option Value} {k : Nat} {d : DSp} (F : FunAt K mg "_law_pick" s_law_pick ["state", "script", "many"]) (z_int : mg "int" = none) (z_len : mg "len" = none) (z_abs : mg "abs" = none)
    (len : ∀ ds m P EX, d ds m P EX → ds.length = 3) (rd : ∀ ds m P EX, d ds m P EX → Go P (b_law_pick) (dstart ["state", "script", "many", "place", "number", "cell"] ds) m) : Callee P w K mg (k + 1) "_law_pick" ["state", "script", "many"] d :=
  F.callee sc_law_pick len (b_law_pick) rd fun base f cdv A outer s H E hr =>
    ((qss_cons (qs_if (qt_cmp od_gt (qe_ix (qv 0) qe_int (fun _ _ => rfl)) qe_int (nomark _))
    (qss_cons (qs_set (i := 4) sc_law_pick.nd rfl (by first | exact Or.inl rfl | exact Or.inr rfl) (qe_op od_mod (qe_callTy cd_int (by rfl) z_int PyProof.Rows.boot_int (qa_cons (qe_ix (qv 0) qe_int (fun _ _ => rfl)) qa_nil)) (qv 2)))
    (qss_cons (qs_asg (vs := []) (qe_op od_fdiv (qe_ix (qv 0) qe_int (fun _ _ => rfl)) (qv 2)) (qg_sub (qv 0) qe_int))
    (qss_one (qs_ret (qv 4)))))
    qss_nil)
    (qss_cons (qs_set (i := 3) sc_law_pick.nd rfl (by first | exact Or.inl rfl | exact Or.inr rfl) (qe_ix (qv 0) qe_int (fun _ _ => rfl)))
    (qss_cons (qs_asg (vs := []) (qe_op od_add (qv 3) qe_int) (qg_sub (qv 0) qe_int))
    (qss_cons (qs_if (qt_cmp od_lt (qv 3) (qe_callB (cd_len) (by rfl) z_len PySem.boot_len (qa_cons (qv 1) qa_nil)) (nomark _))
    (qss_cons (qs_set (i := 5) sc_law_pick.nd rfl (by first | exact Or.inl rfl | exact Or.inr rfl) (qe_callB (cd_abs) (by rfl) z_abs PyProof.Rows.boot_abs (qa_cons (qe_callTy cd_int (by rfl) z_int PyProof.Rows.boot_int (qa_cons (qe_ix (qv 1) (qv 3) (fun _ _ => rfl)) qa_nil)) qa_nil)))
    (qss_cons (qs_if (qt_cmp od_ge (qv 5) (qe_op od_pow qe_int qe_int) (nomark _))
    (qss_cons (qs_asg (vs := []) (qe_op od_fdiv (qv 5) (qv 2)) (qg_sub (qv 0) qe_int))
    (qss_one (qs_ret (qe_op od_mod (qe_callTy cd_int (by rfl) z_int PyProof.Rows.boot_int (qa_cons (qv 5) qa_nil)) (qv 2)))))
    qss_nil)
    (qss_one (qs_asg (vs := []) (qe_op od_mod (qe_callTy cd_int (by rfl) z_int PyProof.Rows.boot_int (qa_cons (qe_op od_add (qe_op od_add (qe_op od_mul (qe_ix (qv 0) qe_int (fun _ _ => rfl)) qe_int) (qe_op od_mul (qv 5) qe_int)) qe_int) qa_nil)) qe_int) (qg_sub (qv 0) qe_int)))))
    qss_nil)
    (qss_cons (qs_asg (vs := []) (qe_op od_mod (qe_callTy cd_int (by rfl) z_int PyProof.Rows.boot_int (qa_cons (qe_op od_add (qe_op od_add (qe_op od_mul (qe_ix (qv 0) qe_int (fun _ _ => rfl)) qe_int) (qe_op od_mul qe_int (qv 3))) qe_int) qa_nil)) qe_int) (qg_sub (qv 0) qe_int))
    (qss_one (qs_ret (qe_op od_mod (qe_callTy cd_int (by rfl) z_int PyProof.Rows.boot_int (qa_cons (qe_op od_fdiv (qe_op od_mul (qe_ix (qv 0) qe_int (fun _ _ => rfl)) (qe_ix (qv 0) qe_int (fun _ _ => rfl))) qe_int) qa_nil)) (qv 2))))))))))
abbrev s_law_words : Stmt := topS 17
theorem sc_law_words : FnScope ["words"] [] (defScope s_law_words) := ⟨rfl, rfl, rfl, by decide +kernel, rfl, by decide +kernel, by decide +kernel⟩
def b_law_words : TDS := (dSeq (dAsg (dLst (dCons (dC (.str "and")) (dCons (dC (.str "bool")) (dCons (dC (.str "box")) (dCons (dC (.str "do")) (dCons (dC (.str "else")) (dCons (dC (.str "false")) (dCons (dC (.str "fn")) (dCons (dC (.str "from")) (dCons (dC (.str "if")) (dCons (dC (.str "int")) (dCons (dC (.str "is")) (dCons (dC (.str "let")) (dCons (dC (.str "maybe")) (dCons (dC (.str "mut")) dNil))))))))))))))) (dName 0))
    (dSeq (dAsg (dOp rAdd (dVar 0) (dLst (dCons (dC (.str "none")) (dCons (dC (.str "not")) (dCons (dC (.str "or")) (dCons (dC (.str "print")) (dCons (dC (.str "record")) (dCons (dC (.str "return")) (dCons (dC (.str "some")) (dCons (dC (.str "swap")) (dCons (dC (.str "true")) (dCons (dC (.str "unbox")) dNil)))))))))))) (dName 0))
    (dRet (dOp rAdd (dVar 0) (dLst (dCons (dC (.str "unit")) (dCons (dC (.str "while")) (dCons (dC (.str "with")) dNil))))))))
theorem ok_law_words {P : Program} {w : World} {K : PySem.W.Frag} {mg : Str → Option Value} {k : Nat} {d : DSp} (F : FunAt K mg "_law_words" s_law_words [])
    (len : ∀ ds m P EX, d ds m P EX → ds.length = 0) (rd : ∀ ds m P EX, d ds m P EX → Go P (b_law_words) (dstart ["words"] ds) m) : Callee P w K mg (k + 1) "_law_words" [] d :=
  F.callee sc_law_words len (b_law_words) rd fun base f cdv A outer s H E hr =>
    ((qss_cons (qs_set (i := 0) sc_law_words.nd rfl (by first | exact Or.inl rfl | exact Or.inr rfl) (qe_lst (qa_cons qe_str (qa_cons qe_str (qa_cons qe_str (qa_cons qe_str (qa_cons qe_str (qa_cons qe_str (qa_cons qe_str (qa_cons qe_str (qa_cons qe_str (qa_cons qe_str (qa_cons qe_str (qa_cons qe_str (qa_cons qe_str (qa_cons qe_str qa_nil))))))))))))))))
    (qss_cons (qs_set (i := 0) sc_law_words.nd rfl (by first | exact Or.inl rfl | exact Or.inr rfl) (qe_op od_add (qv 0) (qe_lst (qa_cons qe_str (qa_cons qe_str (qa_cons qe_str (qa_cons qe_str (qa_cons qe_str (qa_cons qe_str (qa_cons qe_str (qa_cons qe_str (qa_cons qe_str (qa_cons qe_str qa_nil)))))))))))))
    (qss_one (qs_ret (qe_op od_add (qv 0) (qe_lst (qa_cons qe_str (qa_cons qe_str (qa_cons qe_str qa_nil))))))))))
abbrev s_law_name : Stmt := topS 18
theorem sc_law_name : FnScope ["state", "script", "letters", "chars", "size", "word", "k"] ["state", "script"] (defScope s_law_name) := ⟨rfl, rfl, rfl, by decide +kernel, rfl, by decide +kernel, by decide +kernel⟩
def b_law_name (d_law_pick d_law_words : DSp) : TDS := (dSeq (dAsg (dC (.str "abcdefghijklmnopqrstuvwxyz")) (dName 2))
    (dSeq (dAsg (dOp rAdd (dVar 2) (dC (.str "0123456789_"))) (dName 3))
    (dSeq (dAsg (dOp rAdd (dC (.int 1)) (dCall d_law_pick (dCons (dVar 0) (dCons (dVar 1) (dCons (dC (.int 4)) dNil))))) (dName 4))
    (dSeq (dIf (dB (dOp rEqD (dVar 4) (dC (.int 4))))
    (dAsg (dOp rAdd (dC (.int 1)) (dCall d_law_pick (dCons (dVar 0) (dCons (dVar 1) (dCons (dC (.int 20)) dNil))))) (dName 4))
    dNext)
    (dSeq (dAsg (dOp rIxD (dVar 2) (dCall d_law_pick (dCons (dVar 0) (dCons (dVar 1) (dCons (dC (.int 26)) dNil))))) (dName 5))
    (dSeq (dForR1 (dCons (dOp rSub (dVar 4) (dC (.int 1))) dNil) (dName 6)
    (dAsg (dOp rAdd (dVar 5) (dOp rIxD (dVar 3) (dCall d_law_pick (dCons (dVar 0) (dCons (dVar 1) (dCons (dC (.int 37)) dNil)))))) (dName 5)))
    (dSeq (dIf (dB (dOp rInD (dVar 5) (dCall d_law_words dNil)))
    (dRet (dOp rAdd (dVar 5) (dC (.str "_"))))
    dNext)
    (dRet (dVar 5)))))))))
theorem ok_law_name {P : Program} {w : World} {K : PySem.W.Frag} {mg : Str → Option Value} {k : Nat} {d d_law_pick d_law_words : DSp} (F : FunAt K mg "_law_name" s_law_name ["state", "script"]) (C_law_pick : Callee P w K mg k "_law_pick" ["state", "script", "many"] d_law_pick) (C_law_words : Callee P w K mg k "_law_words" [] d_law_words) (z_range : mg "range" = none)
    (len : ∀ ds m P EX, d ds m P EX → ds.length = 2) (rd : ∀ ds m P EX, d ds m P EX → Go P (b_law_name d_law_pick d_law_words) (dstart ["state", "script", "letters", "chars", "size", "word", "k"] ds) m) : Callee P w K mg (k + 1) "_law_name" ["state", "script"] d :=
  F.callee sc_law_name len (b_law_name d_law_pick d_law_words) rd fun base f cdv A outer s H E hr =>
    ((qss_cons (qs_set (i := 2) sc_law_name.nd rfl (by first | exact Or.inl rfl | exact Or.inr rfl) qe_str)
    (qss_cons (qs_set (i := 3) sc_law_name.nd rfl (by first | exact Or.inl rfl | exact Or.inr rfl) (qe_op od_add (qv 2) qe_str))
    (qss_cons (qs_set (i := 4) sc_law_name.nd rfl (by first | exact Or.inl rfl | exact Or.inr rfl) (qe_op od_add qe_int (qe_fn C_law_pick hr (by rfl) (qa_cons (qv 0) (qa_cons (qv 1) (qa_cons qe_int qa_nil))))))
    (qss_cons (qs_if (qt_cmp (od_eq hr.units) (qv 4) qe_int (nomark _))
    (qss_one (qs_set (i := 4) sc_law_name.nd rfl (by first | exact Or.inl rfl | exact Or.inr rfl) (qe_op od_add qe_int (qe_fn C_law_pick hr (by rfl) (qa_cons (qv 0) (qa_cons (qv 1) (qa_cons qe_int qa_nil)))))))
    qss_nil)
    (qss_cons (qs_set (i := 5) sc_law_name.nd rfl (by first | exact Or.inl rfl | exact Or.inr rfl) (qe_ix (qv 2) (qe_fn C_law_pick hr (by rfl) (qa_cons (qv 0) (qa_cons (qv 1) (qa_cons qe_int qa_nil)))) (fun _ _ => rfl)))
    (qss_cons (qs_forR1 (vs := [6]) PassesOwn.never rfl (by rfl) z_range (qa_cons (qe_op od_sub (qv 4) qe_int) qa_nil) (qg_name (i := 6) sc_law_name.nd rfl (by first | exact Or.inl rfl | exact Or.inr rfl) (by decide))
    (qss_one (qs_set (i := 5) sc_law_name.nd rfl (by first | exact Or.inl rfl | exact Or.inr rfl) (qe_op od_add (qv 5) (qe_ix (qv 3) (qe_fn C_law_pick hr (by rfl) (qa_cons (qv 0) (qa_cons (qv 1) (qa_cons qe_int qa_nil)))) (fun _ _ => rfl))))))
    (qss_cons (qs_if (qt_cmp od_inD (qv 5) (qe_fn0 C_law_words hr (by rfl)) (by rfl))
    (qss_one (qs_ret (qe_op od_add (qv 5) qe_str)))
    qss_nil)
    (qss_one (qs_ret (qv 5)))))))))))
abbrev s_law_big : Stmt := topS 19
theorem sc_law_big : FnScope ["state", "script", "letters", "chars", "size", "word", "k"] ["state", "script"] (defScope s_law_big) := ⟨rfl, rfl, rfl, by decide +kernel, rfl, by decide +kernel, by decide +kernel⟩
def b_law_big (d_law_pick : DSp) : TDS := (dSeq (dAsg (dC (.str "ABCDEFGHIJKLMNOPQRSTUVWXYZ")) (dName 2))
    (dSeq (dAsg (dOp rAdd (dVar 2) (dC (.str "abcdefghijklmnopqrstuvwxyz0123456789"))) (dName 3))
    (dSeq (dAsg (dOp rAdd (dC (.int 1)) (dCall d_law_pick (dCons (dVar 0) (dCons (dVar 1) (dCons (dC (.int 4)) dNil))))) (dName 4))
    (dSeq (dIf (dB (dOp rEqD (dVar 4) (dC (.int 4))))
    (dAsg (dOp rAdd (dC (.int 1)) (dCall d_law_pick (dCons (dVar 0) (dCons (dVar 1) (dCons (dC (.int 20)) dNil))))) (dName 4))
    dNext)
    (dSeq (dAsg (dOp rIxD (dVar 2) (dCall d_law_pick (dCons (dVar 0) (dCons (dVar 1) (dCons (dC (.int 26)) dNil))))) (dName 5))
    (dSeq (dForR1 (dCons (dOp rSub (dVar 4) (dC (.int 1))) dNil) (dName 6)
    (dAsg (dOp rAdd (dVar 5) (dOp rIxD (dVar 3) (dCall d_law_pick (dCons (dVar 0) (dCons (dVar 1) (dCons (dC (.int 62)) dNil)))))) (dName 5)))
    (dRet (dVar 5))))))))
theorem ok_law_big {P : Program} {w : World} {K : PySem.W.Frag} {mg : Str → Option Value} {k : Nat} {d d_law_pick : DSp} (F : FunAt K mg "_law_big" s_law_big ["state", "script"]) (C_law_pick : Callee P w K mg k "_law_pick" ["state", "script", "many"] d_law_pick) (z_range : mg "range" = none)
    (len : ∀ ds m P EX, d ds m P EX → ds.length = 2) (rd : ∀ ds m P EX, d ds m P EX → Go P (b_law_big d_law_pick) (dstart ["state", "script", "letters", "chars", "size", "word", "k"] ds) m) : Callee P w K mg (k + 1) "_law_big" ["state", "script"] d :=
  F.callee sc_law_big len (b_law_big d_law_pick) rd fun base f cdv A outer s H E hr =>
    ((qss_cons (qs_set (i := 2) sc_law_big.nd rfl (by first | exact Or.inl rfl | exact Or.inr rfl) qe_str)
    (qss_cons (qs_set (i := 3) sc_law_big.nd rfl (by first | exact Or.inl rfl | exact Or.inr rfl) (qe_op od_add (qv 2) qe_str))
    (qss_cons (qs_set (i := 4) sc_law_big.nd rfl (by first | exact Or.inl rfl | exact Or.inr rfl) (qe_op od_add qe_int (qe_fn C_law_pick hr (by rfl) (qa_cons (qv 0) (qa_cons (qv 1) (qa_cons qe_int qa_nil))))))
    (qss_cons (qs_if (qt_cmp (od_eq hr.units) (qv 4) qe_int (nomark _))
    (qss_one (qs_set (i := 4) sc_law_big.nd rfl (by first | exact Or.inl rfl | exact Or.inr rfl) (qe_op od_add qe_int (qe_fn C_law_pick hr (by rfl) (qa_cons (qv 0) (qa_cons (qv 1) (qa_cons qe_int qa_nil)))))))
    qss_nil)
    (qss_cons (qs_set (i := 5) sc_law_big.nd rfl (by first | exact Or.inl rfl | exact Or.inr rfl) (qe_ix (qv 2) (qe_fn C_law_pick hr (by rfl) (qa_cons (qv 0) (qa_cons (qv 1) (qa_cons qe_int qa_nil)))) (fun _ _ => rfl)))
    (qss_cons (qs_forR1 (vs := [6]) PassesOwn.never rfl (by rfl) z_range (qa_cons (qe_op od_sub (qv 4) qe_int) qa_nil) (qg_name (i := 6) sc_law_big.nd rfl (by first | exact Or.inl rfl | exact Or.inr rfl) (by decide))
    (qss_one (qs_set (i := 5) sc_law_big.nd rfl (by first | exact Or.inl rfl | exact Or.inr rfl) (qe_op od_add (qv 5) (qe_ix (qv 3) (qe_fn C_law_pick hr (by rfl) (qa_cons (qv 0) (qa_cons (qv 1) (qa_cons qe_int qa_nil)))) (fun _ _ => rfl))))))
    (qss_one (qs_ret (qv 5))))))))))
abbrev s_law_tree_kind : Stmt := topS 20
theorem sc_law_tree_kind : FnScope ["state", "script", "room", "choice", "items", "k"] ["state", "script", "room"] (defScope s_law_tree_kind) := ⟨rfl, rfl, rfl, by decide +kernel, rfl, by decide +kernel, by decide +kernel⟩
def b_law_tree_kind (d_law_pick d_law_tree_kind d_law_big : DSp) : TDS := (dSeq (dAsg (dCall d_law_pick (dCons (dVar 0) (dCons (dVar 1) (dCons (dC (.int 10)) dNil)))) (dName 3))
    (dSeq (dIf (dAnd (dB (dOp rGtD (dVar 2) (dC (.int 1)))) (dB (dOp rGtD (dVar 3) (dC (.int 3)))))
    (dSeq (dIf (dB (dOp rEqD (dVar 3) (dC (.int 8))))
    (dSeq (dAsg (dLst dNil) (dName 4))
    (dSeq (dForR1 (dCons (dOp rAdd (dC (.int 2)) (dCall d_law_pick (dCons (dVar 0) (dCons (dVar 1) (dCons (dC (.int 5)) dNil))))) dNil) (dName 5)
    (dDrop (dBM isLst rApp (dVar 4) (dCons (dCall d_law_tree_kind (dCons (dVar 0) (dCons (dVar 1) (dCons (dCB rMin2 (dCons (dOp rSub (dVar 2) (dC (.int 1))) (dCons (dC (.int 2)) dNil))) dNil)))) dNil))))
    (dRet (dTup (dCons (dC (.str "tuple")) (dCons (dCB rTuple (dCons (dVar 4) dNil)) dNil))))))
    dNext)
    (dRet (dTup (dCons (dOp rIxD (dLst (dCons (dC (.str "box")) (dCons (dC (.str "maybe")) (dCons (dC (.str "shared")) (dCons (dC (.str "exclusive")) dNil))))) (dOp rMod (dCB rInt (dCons (dVar 3) dNil)) (dC (.int 4)))) (dCons (dCall d_law_tree_kind (dCons (dVar 0) (dCons (dVar 1) (dCons (dOp rSub (dVar 2) (dC (.int 1))) dNil)))) dNil)))))
    dNext)
    (dSeq (dIf (dB (dOp rEqD (dVar 3) (dC (.int 3))))
    (dRet (dTup (dCons (dC (.str "record")) (dCons (dCall d_law_big (dCons (dVar 0) (dCons (dVar 1) dNil))) dNil))))
    dNext)
    (dRet (dTup (dCons (dOp rIxD (dLst (dCons (dC (.str "int")) (dCons (dC (.str "bool")) (dCons (dC (.str "unit")) dNil)))) (dOp rMod (dCB rInt (dCons (dVar 3) dNil)) (dC (.int 3)))) dNil))))))
theorem ok_law_tree_kind {P : Program} {w : World} {K : PySem.W.Frag} {mg : Str → Option Value} {k : Nat} {d d_law_pick d_law_tree_kind d_law_big : DSp} (F : FunAt K mg "_law_tree_kind" s_law_tree_kind ["state", "script", "room"]) (C_law_pick : Callee P w K mg k "_law_pick" ["state", "script", "many"] d_law_pick) (C_law_tree_kind : Callee P w K mg k "_law_tree_kind" ["state", "script", "room"] d_law_tree_kind) (C_law_big : Callee P w K mg k "_law_big" ["state", "script"] d_law_big) (z_min : mg "min" = none) (z_range : mg "range" = none) (z_tuple : mg "tuple" = none) (z_int : mg "int" = none)
    (len : ∀ ds m P EX, d ds m P EX → ds.length = 3) (rd : ∀ ds m P EX, d ds m P EX → Go P (b_law_tree_kind d_law_pick d_law_tree_kind d_law_big) (dstart ["state", "script", "room", "choice", "items", "k"] ds) m) : Callee P w K mg (k + 1) "_law_tree_kind" ["state", "script", "room"] d :=
  F.callee sc_law_tree_kind len (b_law_tree_kind d_law_pick d_law_tree_kind d_law_big) rd fun base f cdv A outer s H E hr =>
    ((qss_cons (qs_set (i := 3) sc_law_tree_kind.nd rfl (by first | exact Or.inl rfl | exact Or.inr rfl) (qe_fn C_law_pick hr (by rfl) (qa_cons (qv 0) (qa_cons (qv 1) (qa_cons qe_int qa_nil)))))
    (qss_cons (qs_if (PW.pt (qw_and (qt_cmp od_gt (qv 2) qe_int (nomark _)) (qw_and1 (qt_cmp od_gt (qv 3) qe_int (nomark _)))))
    (qss_cons (qs_if (qt_cmp (od_eq hr.units) (qv 3) qe_int (nomark _))
    (qss_cons (qs_set (i := 4) sc_law_tree_kind.nd rfl (by first | exact Or.inl rfl | exact Or.inr rfl) (qe_lst qa_nil))
    (qss_cons (qs_forR1 (vs := [5]) PassesOwn.never rfl (by rfl) z_range (qa_cons (qe_op od_add qe_int (qe_fn C_law_pick hr (by rfl) (qa_cons (qv 0) (qa_cons (qv 1) (qa_cons qe_int qa_nil))))) qa_nil) (qg_name (i := 5) sc_law_tree_kind.nd rfl (by first | exact Or.inl rfl | exact Or.inr rfl) (by decide))
    (qss_one (qs_expr (qe_bm md_append PySem.F.plainAttrs_list PySem.F.slot_list_append PySem.F.type_list_append (qv 4) (qa_cons (qe_fn C_law_tree_kind hr (by rfl) (qa_cons (qv 0) (qa_cons (qv 1) (qa_cons (qe_callB (cd_min2 rfl) (by rfl) z_min (by decide +kernel) (qa_cons (qe_op od_sub (qv 2) qe_int) (qa_cons qe_int qa_nil))) qa_nil)))) qa_nil)))))
    (qss_one (qs_ret (qe_tup (qa_cons qe_str (qa_cons (qe_callTy cd_tuple (by rfl) z_tuple PyProof.Rows.boot_tuple (qa_cons (qv 4) qa_nil)) qa_nil)))))))
    qss_nil)
    (qss_one (qs_ret (qe_tup (qa_cons (qe_ix (qe_lst (qa_cons qe_str (qa_cons qe_str (qa_cons qe_str (qa_cons qe_str qa_nil))))) (qe_op od_mod (qe_callTy cd_int (by rfl) z_int PyProof.Rows.boot_int (qa_cons (qv 3) qa_nil)) qe_int) (fun _ _ => rfl)) (qa_cons (qe_fn C_law_tree_kind hr (by rfl) (qa_cons (qv 0) (qa_cons (qv 1) (qa_cons (qe_op od_sub (qv 2) qe_int) qa_nil)))) qa_nil))))))
    qss_nil)
    (qss_cons (qs_if (qt_cmp (od_eq hr.units) (qv 3) qe_int (nomark _))
    (qss_one (qs_ret (qe_tup (qa_cons qe_str (qa_cons (qe_fn C_law_big hr (by rfl) (qa_cons (qv 0) (qa_cons (qv 1) qa_nil))) qa_nil)))))
    qss_nil)
    (qss_one (qs_ret (qe_tup (qa_cons (qe_ix (qe_lst (qa_cons qe_str (qa_cons qe_str (qa_cons qe_str qa_nil)))) (qe_op od_mod (qe_callTy cd_int (by rfl) z_int PyProof.Rows.boot_int (qa_cons (qv 3) qa_nil)) qe_int) (fun _ _ => rfl)) qa_nil))))))))
abbrev s_law_number : Stmt := topS 21
theorem sc_law_number : FnScope ["state", "script", "choice", "edges"] ["state", "script"] (defScope s_law_number) := ⟨rfl, rfl, rfl, by decide +kernel, rfl, by decide +kernel, by decide +kernel⟩
def b_law_number (d_law_pick : DSp) : TDS := (dSeq (dAsg (dCall d_law_pick (dCons (dVar 0) (dCons (dVar 1) (dCons (dC (.int 3)) dNil)))) (dName 2))
    (dSeq (dIf (dB (dOp rEqD (dVar 2) (dC (.int 0))))
    (dRet (dCall d_law_pick (dCons (dVar 0) (dCons (dVar 1) (dCons (dC (.int 12)) dNil)))))
    dNext)
    (dSeq (dIf (dB (dOp rEqD (dVar 2) (dC (.int 1))))
    (dSeq (dAsg (dLst (dCons (dC (.int 0)) (dCons (dC (.int 1)) (dCons (dUn rNegD (dC (.int 1))) (dCons (dC (.int 2147483647)) (dCons (dUn rNegD (dC (.int 2147483648))) (dCons (dC (.int 2147483646)) (dCons (dUn rNegD (dC (.int 2147483647))) dNil)))))))) (dName 3))
    (dRet (dOp rIxD (dVar 3) (dCall d_law_pick (dCons (dVar 0) (dCons (dVar 1) (dCons (dC (.int 7)) dNil)))))))
    dNext)
    (dRet (dOp rSub (dCall d_law_pick (dCons (dVar 0) (dCons (dVar 1) (dCons (dC (.int 4294967296)) dNil)))) (dC (.int 2147483648)))))))
theorem ok_law_number {P : Program} {w : World} {K : PySem.W.Frag} {mg : Str → Option Value} {k : Nat} {d d_law_pick : DSp} (F : FunAt K mg "_law_number" s_law_number ["state", "script"]) (C_law_pick : Callee P w K mg k "_law_pick" ["state", "script", "many"] d_law_pick)
    (len : ∀ ds m P EX, d ds m P EX → ds.length = 2) (rd : ∀ ds m P EX, d ds m P EX → Go P (b_law_number d_law_pick) (dstart ["state", "script", "choice", "edges"] ds) m) : Callee P w K mg (k + 1) "_law_number" ["state", "script"] d :=
  F.callee sc_law_number len (b_law_number d_law_pick) rd fun base f cdv A outer s H E hr =>
    ((qss_cons (qs_set (i := 2) sc_law_number.nd rfl (by first | exact Or.inl rfl | exact Or.inr rfl) (qe_fn C_law_pick hr (by rfl) (qa_cons (qv 0) (qa_cons (qv 1) (qa_cons qe_int qa_nil)))))
    (qss_cons (qs_if (qt_cmp (od_eq hr.units) (qv 2) qe_int (nomark _))
    (qss_one (qs_ret (qe_fn C_law_pick hr (by rfl) (qa_cons (qv 0) (qa_cons (qv 1) (qa_cons qe_int qa_nil))))))
    qss_nil)
    (qss_cons (qs_if (qt_cmp (od_eq hr.units) (qv 2) qe_int (nomark _))
    (qss_cons (qs_set (i := 3) sc_law_number.nd rfl (by first | exact Or.inl rfl | exact Or.inr rfl) (qe_lst (qa_cons qe_int (qa_cons qe_int (qa_cons (qe_neg qe_int) (qa_cons qe_int (qa_cons (qe_neg qe_int) (qa_cons qe_int (qa_cons (qe_neg qe_int) qa_nil)))))))))
    (qss_one (qs_ret (qe_ix (qv 3) (qe_fn C_law_pick hr (by rfl) (qa_cons (qv 0) (qa_cons (qv 1) (qa_cons qe_int qa_nil)))) (fun _ _ => rfl)))))
    qss_nil)
    (qss_one (qs_ret (qe_op od_sub (qe_fn C_law_pick hr (by rfl) (qa_cons (qv 0) (qa_cons (qv 1) (qa_cons qe_int qa_nil)))) qe_int)))))))
abbrev s_law_place : Stmt := topS 22
theorem sc_law_place : FnScope ["state", "script", "steps", "size", "k", "choice"] ["state", "script"] (defScope s_law_place) := ⟨rfl, rfl, rfl, by decide +kernel, rfl, by decide +kernel, by decide +kernel⟩
def b_law_place (d_law_pick d_law_name : DSp) : TDS := (dSeq (dAsg (dLst dNil) (dName 2))
    (dSeq (dAsg (dCall d_law_pick (dCons (dVar 0) (dCons (dVar 1) (dCons (dC (.int 4)) dNil)))) (dName 3))
    (dSeq (dIf (dB (dOp rEqD (dVar 3) (dC (.int 3))))
    (dAsg (dCall d_law_pick (dCons (dVar 0) (dCons (dVar 1) (dCons (dC (.int 13)) dNil)))) (dName 3))
    dNext)
    (dSeq (dForR1 (dCons (dVar 3) dNil) (dName 4)
    (dSeq (dAsg (dCall d_law_pick (dCons (dVar 0) (dCons (dVar 1) (dCons (dC (.int 4)) dNil)))) (dName 5))
    (dIf (dB (dOp rEqD (dVar 5) (dC (.int 0))))
    (dDrop (dBM isLst rApp (dVar 2) (dCons (dC (.str "?")) dNil)))
    (dIf (dB (dOp rEqD (dVar 5) (dC (.int 1))))
    (dDrop (dBM isLst rApp (dVar 2) (dCons (dC (.str "^")) dNil)))
    (dIf (dB (dOp rEqD (dVar 5) (dC (.int 2))))
    (dDrop (dBM isLst rApp (dVar 2) (dCons (dCall d_law_name (dCons (dVar 0) (dCons (dVar 1) dNil))) dNil)))
    (dDrop (dBM isLst rApp (dVar 2) (dCons (dCall d_law_pick (dCons (dVar 0) (dCons (dVar 1) (dCons (dOp rIxD (dLst (dCons (dC (.int 2)) (dCons (dC (.int 7)) (dCons (dC (.int 2147483648)) dNil)))) (dCall d_law_pick (dCons (dVar 0) (dCons (dVar 1) (dCons (dC (.int 3)) dNil))))) dNil)))) dNil))))))))
    (dRet (dTup (dCons (dCall d_law_name (dCons (dVar 0) (dCons (dVar 1) dNil))) (dCons (dCB rTuple (dCons (dVar 2) dNil)) dNil))))))))
theorem ok_law_place {P : Program} {w : World} {K : PySem.W.Frag} {mg : Str → Option Value} {k : Nat} {d d_law_pick d_law_name : DSp} (F : FunAt K mg "_law_place" s_law_place ["state", "script"]) (C_law_pick : Callee P w K mg k "_law_pick" ["state", "script", "many"] d_law_pick) (C_law_name : Callee P w K mg k "_law_name" ["state", "script"] d_law_name) (z_range : mg "range" = none) (z_tuple : mg "tuple" = none)
    (len : ∀ ds m P EX, d ds m P EX → ds.length = 2) (rd : ∀ ds m P EX, d ds m P EX → Go P (b_law_place d_law_pick d_law_name) (dstart ["state", "script", "steps", "size", "k", "choice"] ds) m) : Callee P w K mg (k + 1) "_law_place" ["state", "script"] d :=
  F.callee sc_law_place len (b_law_place d_law_pick d_law_name) rd fun base f cdv A outer s H E hr =>
    ((qss_cons (qs_set (i := 2) sc_law_place.nd rfl (by first | exact Or.inl rfl | exact Or.inr rfl) (qe_lst qa_nil))
    (qss_cons (qs_set (i := 3) sc_law_place.nd rfl (by first | exact Or.inl rfl | exact Or.inr rfl) (qe_fn C_law_pick hr (by rfl) (qa_cons (qv 0) (qa_cons (qv 1) (qa_cons qe_int qa_nil)))))
    (qss_cons (qs_if (qt_cmp (od_eq hr.units) (qv 3) qe_int (nomark _))
    (qss_one (qs_set (i := 3) sc_law_place.nd rfl (by first | exact Or.inl rfl | exact Or.inr rfl) (qe_fn C_law_pick hr (by rfl) (qa_cons (qv 0) (qa_cons (qv 1) (qa_cons qe_int qa_nil))))))
    qss_nil)
    (qss_cons (qs_forR1 (vs := [4]) PassesOwn.never rfl (by rfl) z_range (qa_cons (qv 3) qa_nil) (qg_name (i := 4) sc_law_place.nd rfl (by first | exact Or.inl rfl | exact Or.inr rfl) (by decide))
    (qss_cons (qs_set (i := 5) sc_law_place.nd rfl (by first | exact Or.inl rfl | exact Or.inr rfl) (qe_fn C_law_pick hr (by rfl) (qa_cons (qv 0) (qa_cons (qv 1) (qa_cons qe_int qa_nil)))))
    (qss_one (qs_if (qt_cmp (od_eq hr.units) (qv 5) qe_int (nomark _))
    (qss_one (qs_expr (qe_bm md_append PySem.F.plainAttrs_list PySem.F.slot_list_append PySem.F.type_list_append (qv 2) (qa_cons qe_str qa_nil))))
    (qss_one (qs_if (qt_cmp (od_eq hr.units) (qv 5) qe_int (nomark _))
    (qss_one (qs_expr (qe_bm md_append PySem.F.plainAttrs_list PySem.F.slot_list_append PySem.F.type_list_append (qv 2) (qa_cons qe_str qa_nil))))
    (qss_one (qs_if (qt_cmp (od_eq hr.units) (qv 5) qe_int (nomark _))
    (qss_one (qs_expr (qe_bm md_append PySem.F.plainAttrs_list PySem.F.slot_list_append PySem.F.type_list_append (qv 2) (qa_cons (qe_fn C_law_name hr (by rfl) (qa_cons (qv 0) (qa_cons (qv 1) qa_nil))) qa_nil))))
    (qss_one (qs_expr (qe_bm md_append PySem.F.plainAttrs_list PySem.F.slot_list_append PySem.F.type_list_append (qv 2) (qa_cons (qe_fn C_law_pick hr (by rfl) (qa_cons (qv 0) (qa_cons (qv 1) (qa_cons (qe_ix (qe_lst (qa_cons qe_int (qa_cons qe_int (qa_cons qe_int qa_nil)))) (qe_fn C_law_pick hr (by rfl) (qa_cons (qv 0) (qa_cons (qv 1) (qa_cons qe_int qa_nil)))) (fun _ _ => rfl)) qa_nil)))) qa_nil))))))))))))
    (qss_one (qs_ret (qe_tup (qa_cons (qe_fn C_law_name hr (by rfl) (qa_cons (qv 0) (qa_cons (qv 1) qa_nil))) (qa_cons (qe_callTy cd_tuple (by rfl) z_tuple PyProof.Rows.boot_tuple (qa_cons (qv 2) qa_nil)) qa_nil))))))))))
abbrev s_law_expression : Stmt := topS 23
theorem sc_law_expression : FnScope ["state", "script", "room", "choice", "parts", "size", "k", "word", "sign", "left"] ["state", "script", "room"] (defScope s_law_expression) := ⟨rfl, rfl, rfl, by decide +kernel, rfl, by decide +kernel, by decide +kernel⟩
def b_law_expression (d_law_pick d_law_number d_law_tree_kind d_law_place d_law_expression d_law_big d_law_name : DSp) : TDS := (dSeq (dAsg (dOp rSub (dOp rIxD (dVar 0) (dC (.int 3))) (dC (.int 1))) (dGSub (dVar 0) (dC (.int 3))))
    (dSeq (dAsg (dCall d_law_pick (dCons (dVar 0) (dCons (dVar 1) (dCons (dC (.int 16)) dNil)))) (dName 3))
    (dSeq (dIf (dOr (dB (dOp rLtD (dVar 2) (dC (.int 2)))) (dB (dOp rLtD (dOp rIxD (dVar 0) (dC (.int 3))) (dC (.int 1)))))
    (dAsg (dOp rMod (dCB rInt (dCons (dVar 3) dNil)) (dC (.int 7))) (dName 3))
    dNext)
    (dSeq (dIf (dB (dOp rEqD (dVar 3) (dC (.int 0))))
    (dRet (dTup (dCons (dC (.str "int")) (dCons (dCall d_law_number (dCons (dVar 0) (dCons (dVar 1) dNil))) dNil))))
    dNext)
    (dSeq (dIf (dB (dOp rEqD (dVar 3) (dC (.int 1))))
    (dRet (dTup (dCons (dC (.str "bool")) (dCons (dOp rEqD (dCall d_law_pick (dCons (dVar 0) (dCons (dVar 1) (dCons (dC (.int 2)) dNil)))) (dC (.int 1))) dNil))))
    dNext)
    (dSeq (dIf (dB (dOp rEqD (dVar 3) (dC (.int 2))))
    (dRet (dTup (dCons (dC (.str "unit")) dNil)))
    dNext)
    (dSeq (dIf (dB (dOp rEqD (dVar 3) (dC (.int 3))))
    (dRet (dTup (dCons (dC (.str "none")) (dCons (dCall d_law_tree_kind (dCons (dVar 0) (dCons (dVar 1) (dCons (dC (.int 3)) dNil)))) dNil))))
    dNext)
    (dSeq (dIf (dB (dOp rEqD (dVar 3) (dC (.int 5))))
    (dRet (dTup (dCons (dC (.str "borrow")) (dCons (dOp rIxD (dLst (dCons (dC (.str "shared")) (dCons (dC (.str "exclusive")) dNil))) (dCall d_law_pick (dCons (dVar 0) (dCons (dVar 1) (dCons (dC (.int 2)) dNil))))) (dCons (dCall d_law_place (dCons (dVar 0) (dCons (dVar 1) dNil))) dNil)))))
    dNext)
    (dSeq (dIf (dB (dOp rLtD (dVar 3) (dC (.int 7))))
    (dRet (dTup (dCons (dOp rIxD (dLst (dCons (dC (.str "use")) (dCons (dC (.str "borrow")) (dCons (dC (.str "is")) dNil)))) (dOp rSub (dVar 3) (dC (.int 4)))) (dCons (dCall d_law_place (dCons (dVar 0) (dCons (dVar 1) dNil))) dNil))))
    dNext)
    (dSeq (dIf (dB (dOp rLtD (dVar 3) (dC (.int 10))))
    (dSeq (dAsg (dOp rIxD (dLst (dCons (dC (.str "some")) (dCons (dC (.str "box")) (dCons (dC (.str "unbox")) (dCons (dC (.str "not")) dNil))))) (dCall d_law_pick (dCons (dVar 0) (dCons (dVar 1) (dCons (dC (.int 4)) dNil))))) (dName 7))
    (dRet (dTup (dCons (dVar 7) (dCons (dCall d_law_expression (dCons (dVar 0) (dCons (dVar 1) (dCons (dOp rSub (dVar 2) (dC (.int 1))) dNil)))) dNil)))))
    dNext)
    (dSeq (dIf (dB (dOp rEqD (dVar 3) (dC (.int 10))))
    (dRet (dTup (dCons (dC (.str "swap")) (dCons (dCall d_law_place (dCons (dVar 0) (dCons (dVar 1) dNil))) (dCons (dCall d_law_expression (dCons (dVar 0) (dCons (dVar 1) (dCons (dOp rSub (dVar 2) (dC (.int 1))) dNil)))) dNil)))))
    dNext)
    (dSeq (dIf (dB (dOp rLtD (dVar 3) (dC (.int 13))))
    (dSeq (dAsg (dOp rIxD (dLst (dCons (dC (.str "+")) (dCons (dC (.str "-")) (dCons (dC (.str "*")) (dCons (dC (.str "<")) (dCons (dC (.str "==")) (dCons (dC (.str "and")) (dCons (dC (.str "or")) dNil)))))))) (dCall d_law_pick (dCons (dVar 0) (dCons (dVar 1) (dCons (dC (.int 7)) dNil))))) (dName 8))
    (dSeq (dAsg (dCall d_law_expression (dCons (dVar 0) (dCons (dVar 1) (dCons (dOp rSub (dVar 2) (dC (.int 1))) dNil)))) (dName 9))
    (dRet (dTup (dCons (dC (.str "op")) (dCons (dVar 8) (dCons (dVar 9) (dCons (dCall d_law_expression (dCons (dVar 0) (dCons (dVar 1) (dCons (dOp rSub (dVar 2) (dC (.int 1))) dNil)))) dNil))))))))
    dNext)
    (dSeq (dAsg (dLst dNil) (dName 4))
    (dSeq (dAsg (dCall d_law_pick (dCons (dVar 0) (dCons (dVar 1) (dCons (dC (.int 6)) dNil)))) (dName 5))
    (dSeq (dIf (dB (dOp rEqD (dVar 3) (dC (.int 13))))
    (dAsg (dOp rAdd (dC (.int 2)) (dVar 5)) (dName 5))
    dNext)
    (dSeq (dForR1 (dCons (dVar 5) dNil) (dName 6)
    (dDrop (dBM isLst rApp (dVar 4) (dCons (dCall d_law_expression (dCons (dVar 0) (dCons (dVar 1) (dCons (dOp rSub (dVar 2) (dC (.int 1))) dNil)))) dNil))))
    (dSeq (dIf (dB (dOp rEqD (dVar 3) (dC (.int 13))))
    (dRet (dTup (dCons (dC (.str "tuple")) (dCons (dCB rTuple (dCons (dVar 4) dNil)) dNil))))
    dNext)
    (dSeq (dIf (dB (dOp rEqD (dVar 3) (dC (.int 14))))
    (dRet (dTup (dCons (dC (.str "record")) (dCons (dCall d_law_big (dCons (dVar 0) (dCons (dVar 1) dNil))) (dCons (dCB rTuple (dCons (dVar 4) dNil)) dNil)))))
    dNext)
    (dRet (dTup (dCons (dC (.str "call")) (dCons (dCall d_law_name (dCons (dVar 0) (dCons (dVar 1) dNil))) (dCons (dCB rTuple (dCons (dVar 4) dNil)) dNil)))))))))))))))))))))))
theorem ok_law_expression {P : Program} {w : World} {K : PySem.W.Frag} {mg : Str → Option Value} {k : Nat} {d d_law_pick d_law_number d_law_tree_kind d_law_place d_law_expression d_law_big d_law_name : DSp} (F : FunAt K mg "_law_expression" s_law_expression ["state", "script", "room"]) (C_law_pick : Callee P w K mg k "_law_pick" ["state", "script", "many"] d_law_pick) (C_law_number : Callee P w K mg k "_law_number" ["state", "script"] d_law_number) (C_law_tree_kind : Callee P w K mg k "_law_tree_kind" ["state", "script", "room"] d_law_tree_kind) (C_law_place : Callee P w K mg k "_law_place" ["state", "script"] d_law_place) (C_law_expression : Callee P w K mg k "_law_expression" ["state", "script", "room"] d_law_expression) (C_law_big : Callee P w K mg k "_law_big" ["state", "script"] d_law_big) (C_law_name : Callee P w K mg k "_law_name" ["state", "script"] d_law_name) (z_int : mg "int" = none) (z_range : mg "range" = none) (z_tuple : mg "tuple" = none)
    (len : ∀ ds m P EX, d ds m P EX → ds.length = 3) (rd : ∀ ds m P EX, d ds m P EX → Go P (b_law_expression d_law_pick d_law_number d_law_tree_kind d_law_place d_law_expression d_law_big d_law_name) (dstart ["state", "script", "room", "choice", "parts", "size", "k", "word", "sign", "left"] ds) m) : Callee P w K mg (k + 1) "_law_expression" ["state", "script", "room"] d :=
  F.callee sc_law_expression len (b_law_expression d_law_pick d_law_number d_law_tree_kind d_law_place d_law_expression d_law_big d_law_name) rd fun base f cdv A outer s H E hr =>
    ((qss_cons (qs_asg (vs := []) (qe_op od_sub (qe_ix (qv 0) qe_int (fun _ _ => rfl)) qe_int) (qg_sub (qv 0) qe_int))
    (qss_cons (qs_set (i := 3) sc_law_expression.nd rfl (by first | exact Or.inl rfl | exact Or.inr rfl) (qe_fn C_law_pick hr (by rfl) (qa_cons (qv 0) (qa_cons (qv 1) (qa_cons qe_int qa_nil)))))
    (qss_cons (qs_if (PW.pt (qw_or (qt_cmp od_lt (qv 2) qe_int (nomark _)) (qw_or1 (qt_cmp od_lt (qe_ix (qv 0) qe_int (fun _ _ => rfl)) qe_int (nomark _)))))
    (qss_one (qs_set (i := 3) sc_law_expression.nd rfl (by first | exact Or.inl rfl | exact Or.inr rfl) (qe_op od_mod (qe_callTy cd_int (by rfl) z_int PyProof.Rows.boot_int (qa_cons (qv 3) qa_nil)) qe_int)))
    qss_nil)
    (qss_cons (qs_if (qt_cmp (od_eq hr.units) (qv 3) qe_int (nomark _))
    (qss_one (qs_ret (qe_tup (qa_cons qe_str (qa_cons (qe_fn C_law_number hr (by rfl) (qa_cons (qv 0) (qa_cons (qv 1) qa_nil))) qa_nil)))))
    qss_nil)
    (qss_cons (qs_if (qt_cmp (od_eq hr.units) (qv 3) qe_int (nomark _))
    (qss_one (qs_ret (qe_tup (qa_cons qe_str (qa_cons (qe_cmp (od_eq hr.units) (qe_fn C_law_pick hr (by rfl) (qa_cons (qv 0) (qa_cons (qv 1) (qa_cons qe_int qa_nil)))) qe_int (nomark _)) qa_nil)))))
    qss_nil)
    (qss_cons (qs_if (qt_cmp (od_eq hr.units) (qv 3) qe_int (nomark _))
    (qss_one (qs_ret (qe_tup (qa_cons qe_str qa_nil))))
    qss_nil)
    (qss_cons (qs_if (qt_cmp (od_eq hr.units) (qv 3) qe_int (nomark _))
    (qss_one (qs_ret (qe_tup (qa_cons qe_str (qa_cons (qe_fn C_law_tree_kind hr (by rfl) (qa_cons (qv 0) (qa_cons (qv 1) (qa_cons qe_int qa_nil)))) qa_nil)))))
    qss_nil)
    (qss_cons (qs_if (qt_cmp (od_eq hr.units) (qv 3) qe_int (nomark _))
    (qss_one (qs_ret (qe_tup (qa_cons qe_str (qa_cons (qe_ix (qe_lst (qa_cons qe_str (qa_cons qe_str qa_nil))) (qe_fn C_law_pick hr (by rfl) (qa_cons (qv 0) (qa_cons (qv 1) (qa_cons qe_int qa_nil)))) (fun _ _ => rfl)) (qa_cons (qe_fn C_law_place hr (by rfl) (qa_cons (qv 0) (qa_cons (qv 1) qa_nil))) qa_nil))))))
    qss_nil)
    (qss_cons (qs_if (qt_cmp od_lt (qv 3) qe_int (nomark _))
    (qss_one (qs_ret (qe_tup (qa_cons (qe_ix (qe_lst (qa_cons qe_str (qa_cons qe_str (qa_cons qe_str qa_nil)))) (qe_op od_sub (qv 3) qe_int) (fun _ _ => rfl)) (qa_cons (qe_fn C_law_place hr (by rfl) (qa_cons (qv 0) (qa_cons (qv 1) qa_nil))) qa_nil)))))
    qss_nil)
    (qss_cons (qs_if (qt_cmp od_lt (qv 3) qe_int (nomark _))
    (qss_cons (qs_set (i := 7) sc_law_expression.nd rfl (by first | exact Or.inl rfl | exact Or.inr rfl) (qe_ix (qe_lst (qa_cons qe_str (qa_cons qe_str (qa_cons qe_str (qa_cons qe_str qa_nil))))) (qe_fn C_law_pick hr (by rfl) (qa_cons (qv 0) (qa_cons (qv 1) (qa_cons qe_int qa_nil)))) (fun _ _ => rfl)))
    (qss_one (qs_ret (qe_tup (qa_cons (qv 7) (qa_cons (qe_fn C_law_expression hr (by rfl) (qa_cons (qv 0) (qa_cons (qv 1) (qa_cons (qe_op od_sub (qv 2) qe_int) qa_nil)))) qa_nil))))))
    qss_nil)
    (qss_cons (qs_if (qt_cmp (od_eq hr.units) (qv 3) qe_int (nomark _))
    (qss_one (qs_ret (qe_tup (qa_cons qe_str (qa_cons (qe_fn C_law_place hr (by rfl) (qa_cons (qv 0) (qa_cons (qv 1) qa_nil))) (qa_cons (qe_fn C_law_expression hr (by rfl) (qa_cons (qv 0) (qa_cons (qv 1) (qa_cons (qe_op od_sub (qv 2) qe_int) qa_nil)))) qa_nil))))))
    qss_nil)
    (qss_cons (qs_if (qt_cmp od_lt (qv 3) qe_int (nomark _))
    (qss_cons (qs_set (i := 8) sc_law_expression.nd rfl (by first | exact Or.inl rfl | exact Or.inr rfl) (qe_ix (qe_lst (qa_cons qe_str (qa_cons qe_str (qa_cons qe_str (qa_cons qe_str (qa_cons qe_str (qa_cons qe_str (qa_cons qe_str qa_nil)))))))) (qe_fn C_law_pick hr (by rfl) (qa_cons (qv 0) (qa_cons (qv 1) (qa_cons qe_int qa_nil)))) (fun _ _ => rfl)))
    (qss_cons (qs_set (i := 9) sc_law_expression.nd rfl (by first | exact Or.inl rfl | exact Or.inr rfl) (qe_fn C_law_expression hr (by rfl) (qa_cons (qv 0) (qa_cons (qv 1) (qa_cons (qe_op od_sub (qv 2) qe_int) qa_nil)))))
    (qss_one (qs_ret (qe_tup (qa_cons qe_str (qa_cons (qv 8) (qa_cons (qv 9) (qa_cons (qe_fn C_law_expression hr (by rfl) (qa_cons (qv 0) (qa_cons (qv 1) (qa_cons (qe_op od_sub (qv 2) qe_int) qa_nil)))) qa_nil)))))))))
    qss_nil)
    (qss_cons (qs_set (i := 4) sc_law_expression.nd rfl (by first | exact Or.inl rfl | exact Or.inr rfl) (qe_lst qa_nil))
    (qss_cons (qs_set (i := 5) sc_law_expression.nd rfl (by first | exact Or.inl rfl | exact Or.inr rfl) (qe_fn C_law_pick hr (by rfl) (qa_cons (qv 0) (qa_cons (qv 1) (qa_cons qe_int qa_nil)))))
    (qss_cons (qs_if (qt_cmp (od_eq hr.units) (qv 3) qe_int (nomark _))
    (qss_one (qs_set (i := 5) sc_law_expression.nd rfl (by first | exact Or.inl rfl | exact Or.inr rfl) (qe_op od_add qe_int (qv 5))))
    qss_nil)
    (qss_cons (qs_forR1 (vs := [6]) PassesOwn.never rfl (by rfl) z_range (qa_cons (qv 5) qa_nil) (qg_name (i := 6) sc_law_expression.nd rfl (by first | exact Or.inl rfl | exact Or.inr rfl) (by decide))
    (qss_one (qs_expr (qe_bm md_append PySem.F.plainAttrs_list PySem.F.slot_list_append PySem.F.type_list_append (qv 4) (qa_cons (qe_fn C_law_expression hr (by rfl) (qa_cons (qv 0) (qa_cons (qv 1) (qa_cons (qe_op od_sub (qv 2) qe_int) qa_nil)))) qa_nil)))))
    (qss_cons (qs_if (qt_cmp (od_eq hr.units) (qv 3) qe_int (nomark _))
    (qss_one (qs_ret (qe_tup (qa_cons qe_str (qa_cons (qe_callTy cd_tuple (by rfl) z_tuple PyProof.Rows.boot_tuple (qa_cons (qv 4) qa_nil)) qa_nil)))))
    qss_nil)
    (qss_cons (qs_if (qt_cmp (od_eq hr.units) (qv 3) qe_int (nomark _))
    (qss_one (qs_ret (qe_tup (qa_cons qe_str (qa_cons (qe_fn C_law_big hr (by rfl) (qa_cons (qv 0) (qa_cons (qv 1) qa_nil))) (qa_cons (qe_callTy cd_tuple (by rfl) z_tuple PyProof.Rows.boot_tuple (qa_cons (qv 4) qa_nil)) qa_nil))))))
    qss_nil)
    (qss_one (qs_ret (qe_tup (qa_cons qe_str (qa_cons (qe_fn C_law_name hr (by rfl) (qa_cons (qv 0) (qa_cons (qv 1) qa_nil))) (qa_cons (qe_callTy cd_tuple (by rfl) z_tuple PyProof.Rows.boot_tuple (qa_cons (qv 4) qa_nil)) qa_nil)))))))))))))))))))))))))
abbrev s_law_kind_row : Stmt := topS 24
theorem sc_law_kind_row : FnScope ["kind", "row", "k"] ["kind"] (defScope s_law_kind_row) := ⟨rfl, rfl, rfl, by decide +kernel, rfl, by decide +kernel, by decide +kernel⟩
def b_law_kind_row (d_law_kind_row : DSp) : TDS := (dSeq (dIf (dB (dOp rEqD (dOp rIxD (dVar 0) (dC (.int 0))) (dC (.str "record"))))
    (dRet (dLst (dCons (dOp rIxD (dVar 0) (dC (.int 1))) dNil)))
    dNext)
    (dSeq (dIf (dB (dOp rEqD (dOp rIxD (dVar 0) (dC (.int 0))) (dC (.str "shared"))))
    (dRet (dOp rAdd (dLst (dCons (dC (.str "&")) dNil)) (dCall d_law_kind_row (dCons (dOp rIxD (dVar 0) (dC (.int 1))) dNil))))
    dNext)
    (dSeq (dIf (dB (dOp rEqD (dOp rIxD (dVar 0) (dC (.int 0))) (dC (.str "exclusive"))))
    (dRet (dOp rAdd (dLst (dCons (dC (.str "&mut")) dNil)) (dCall d_law_kind_row (dCons (dOp rIxD (dVar 0) (dC (.int 1))) dNil))))
    dNext)
    (dSeq (dIf (dB (dOp rEqD (dOp rIxD (dVar 0) (dC (.int 0))) (dC (.str "tuple"))))
    (dSeq (dAsg (dLst (dCons (dC (.str "(")) dNil)) (dName 1))
    (dSeq (dForR1 (dCons (dCB rLen (dCons (dOp rIxD (dVar 0) (dC (.int 1))) dNil)) dNil) (dName 2)
    (dSeq (dIf (dB (dOp rGtD (dVar 2) (dC (.int 0))))
    (dDrop (dBM isLst rApp (dVar 1) (dCons (dC (.str ",")) dNil)))
    dNext)
    (dDrop (dBM isLst rExt (dVar 1) (dCons (dCall d_law_kind_row (dCons (dOp rIxD (dOp rIxD (dVar 0) (dC (.int 1))) (dVar 2)) dNil)) dNil)))))
    (dRet (dOp rAdd (dVar 1) (dLst (dCons (dC (.str ")")) dNil))))))
    dNext)
    (dSeq (dIf (dB (dOp rEqD (dCB rLen (dCons (dVar 0) dNil)) (dC (.int 2))))
    (dRet (dOp rAdd (dLst (dCons (dOp rIxD (dVar 0) (dC (.int 0))) dNil)) (dCall d_law_kind_row (dCons (dOp rIxD (dVar 0) (dC (.int 1))) dNil))))
    dNext)
    (dRet (dLst (dCons (dOp rIxD (dVar 0) (dC (.int 0))) dNil))))))))
theorem ok_law_kind_row {P : Program} {w : World} {K : PySem.W.Frag} {mg : Str → Option Value} {k : Nat} {d d_law_kind_row : DSp} (F : FunAt K mg "_law_kind_row" s_law_kind_row ["kind"]) (C_law_kind_row : Callee P w K mg k "_law_kind_row" ["kind"] d_law_kind_row) (z_len : mg "len" = none) (z_range : mg "range" = none)
    (len : ∀ ds m P EX, d ds m P EX → ds.length = 1) (rd : ∀ ds m P EX, d ds m P EX → Go P (b_law_kind_row d_law_kind_row) (dstart ["kind", "row", "k"] ds) m) : Callee P w K mg (k + 1) "_law_kind_row" ["kind"] d :=
  F.callee sc_law_kind_row len (b_law_kind_row d_law_kind_row) rd fun base f cdv A outer s H E hr =>
    ((qss_cons (qs_if (qt_cmp (od_eq hr.units) (qe_ix (qv 0) qe_int (fun _ _ => rfl)) qe_str (nomark _))
    (qss_one (qs_ret (qe_lst (qa_cons (qe_ix (qv 0) qe_int (fun _ _ => rfl)) qa_nil))))
    qss_nil)
    (qss_cons (qs_if (qt_cmp (od_eq hr.units) (qe_ix (qv 0) qe_int (fun _ _ => rfl)) qe_str (nomark _))
    (qss_one (qs_ret (qe_op od_add (qe_lst (qa_cons qe_str qa_nil)) (qe_fn C_law_kind_row hr (by rfl) (qa_cons (qe_ix (qv 0) qe_int (fun _ _ => rfl)) qa_nil)))))
    qss_nil)
    (qss_cons (qs_if (qt_cmp (od_eq hr.units) (qe_ix (qv 0) qe_int (fun _ _ => rfl)) qe_str (nomark _))
    (qss_one (qs_ret (qe_op od_add (qe_lst (qa_cons qe_str qa_nil)) (qe_fn C_law_kind_row hr (by rfl) (qa_cons (qe_ix (qv 0) qe_int (fun _ _ => rfl)) qa_nil)))))
    qss_nil)
    (qss_cons (qs_if (qt_cmp (od_eq hr.units) (qe_ix (qv 0) qe_int (fun _ _ => rfl)) qe_str (nomark _))
    (qss_cons (qs_set (i := 1) sc_law_kind_row.nd rfl (by first | exact Or.inl rfl | exact Or.inr rfl) (qe_lst (qa_cons qe_str qa_nil)))
    (qss_cons (qs_forR1 (vs := [2]) PassesOwn.never rfl (by rfl) z_range (qa_cons (qe_callB (cd_len) (by rfl) z_len PySem.boot_len (qa_cons (qe_ix (qv 0) qe_int (fun _ _ => rfl)) qa_nil)) qa_nil) (qg_name (i := 2) sc_law_kind_row.nd rfl (by first | exact Or.inl rfl | exact Or.inr rfl) (by decide))
    (qss_cons (qs_if (qt_cmp od_gt (qv 2) qe_int (nomark _))
    (qss_one (qs_expr (qe_bm md_append PySem.F.plainAttrs_list PySem.F.slot_list_append PySem.F.type_list_append (qv 1) (qa_cons qe_str qa_nil))))
    qss_nil)
    (qss_one (qs_expr (qe_bm md_extend PySem.F.plainAttrs_list PySem.F.slot_list_extend PySem.F.type_list_extend (qv 1) (qa_cons (qe_fn C_law_kind_row hr (by rfl) (qa_cons (qe_ix (qe_ix (qv 0) qe_int (fun _ _ => rfl)) (qv 2) (fun _ _ => rfl)) qa_nil)) qa_nil))))))
    (qss_one (qs_ret (qe_op od_add (qv 1) (qe_lst (qa_cons qe_str qa_nil)))))))
    qss_nil)
    (qss_cons (qs_if (qt_cmp (od_eq hr.units) (qe_callB (cd_len) (by rfl) z_len PySem.boot_len (qa_cons (qv 0) qa_nil)) qe_int (nomark _))
    (qss_one (qs_ret (qe_op od_add (qe_lst (qa_cons (qe_ix (qv 0) qe_int (fun _ _ => rfl)) qa_nil)) (qe_fn C_law_kind_row hr (by rfl) (qa_cons (qe_ix (qv 0) qe_int (fun _ _ => rfl)) qa_nil)))))
    qss_nil)
    (qss_one (qs_ret (qe_lst (qa_cons (qe_ix (qv 0) qe_int (fun _ _ => rfl)) qa_nil))))))))))
abbrev s_law_place_row : Stmt := topS 25
theorem sc_law_place_row : FnScope ["place", "row", "step"] ["place"] (defScope s_law_place_row) := ⟨rfl, rfl, rfl, by decide +kernel, rfl, by decide +kernel, by decide +kernel⟩
def b_law_place_row : TDS := (dSeq (dAsg (dLst (dCons (dOp rIxD (dVar 0) (dC (.int 0))) dNil)) (dName 1))
    (dSeq (dForS (dOp rIxD (dVar 0) (dC (.int 1))) (dName 2)
    (dIf (dOr (dB (dOp rEqD (dVar 2) (dC (.str "?")))) (dB (dOp rEqD (dVar 2) (dC (.str "^")))))
    (dDrop (dBM isLst rApp (dVar 1) (dCons (dVar 2) dNil)))
    (dDrop (dBM isLst rExt (dVar 1) (dCons (dLst (dCons (dC (.str ".")) (dCons (dCB rStrA (dCons (dVar 2) dNil)) dNil))) dNil)))))
    (dRet (dVar 1))))
theorem ok_law_place_row {P : Program} {w : World} {K : PySem.W.Frag} {mg : Str → Option Value} {k : Nat} {d : DSp} (F : FunAt K mg "_law_place_row" s_law_place_row ["place"]) (z_str : mg "str" = none)
    (len : ∀ ds m P EX, d ds m P EX → ds.length = 1) (rd : ∀ ds m P EX, d ds m P EX → Go P (b_law_place_row) (dstart ["place", "row", "step"] ds) m) : Callee P w K mg (k + 1) "_law_place_row" ["place"] d :=
  F.callee sc_law_place_row len (b_law_place_row) rd fun base f cdv A outer s H E hr =>
    ((qss_cons (qs_set (i := 1) sc_law_place_row.nd rfl (by first | exact Or.inl rfl | exact Or.inr rfl) (qe_lst (qa_cons (qe_ix (qv 0) qe_int (fun _ _ => rfl)) qa_nil)))
    (qss_cons (qs_forS (vs := [2]) PassesOwn.never rfl (qe_ix (qv 0) qe_int (fun _ _ => rfl)) (qg_name (i := 2) sc_law_place_row.nd rfl (by first | exact Or.inl rfl | exact Or.inr rfl) (by decide))
    (qss_one (qs_if (PW.pt (qw_or (qt_cmp (od_eq hr.units) (qv 2) qe_str (nomark _)) (qw_or1 (qt_cmp (od_eq hr.units) (qv 2) qe_str (nomark _)))))
    (qss_one (qs_expr (qe_bm md_append PySem.F.plainAttrs_list PySem.F.slot_list_append PySem.F.type_list_append (qv 1) (qa_cons (qv 2) qa_nil))))
    (qss_one (qs_expr (qe_bm md_extend PySem.F.plainAttrs_list PySem.F.slot_list_extend PySem.F.type_list_extend (qv 1) (qa_cons (qe_lst (qa_cons qe_str (qa_cons (qe_callTy cd_strA (by rfl) z_str PyProof.Rows.boot_str (qa_cons (qv 2) qa_nil)) qa_nil))) qa_nil)))))))
    (qss_one (qs_ret (qv 1))))))
abbrev s_law_parts_row : Stmt := topS 26
theorem sc_law_parts_row : FnScope ["parts", "row", "k"] ["parts"] (defScope s_law_parts_row) := ⟨rfl, rfl, rfl, by decide +kernel, rfl, by decide +kernel, by decide +kernel⟩
def b_law_parts_row (d_law_row : DSp) : TDS := (dSeq (dAsg (dLst (dCons (dC (.str "(")) dNil)) (dName 1))
    (dSeq (dForR1 (dCons (dCB rLen (dCons (dVar 0) dNil)) dNil) (dName 2)
    (dSeq (dIf (dB (dOp rGtD (dVar 2) (dC (.int 0))))
    (dDrop (dBM isLst rApp (dVar 1) (dCons (dC (.str ",")) dNil)))
    dNext)
    (dDrop (dBM isLst rExt (dVar 1) (dCons (dCall d_law_row (dCons (dOp rIxD (dVar 0) (dVar 2)) dNil)) dNil)))))
    (dRet (dOp rAdd (dVar 1) (dLst (dCons (dC (.str ")")) dNil))))))
theorem ok_law_parts_row {P : Program} {w : World} {K : PySem.W.Frag} {mg : Str → Option Value} {k : Nat} {d d_law_row : DSp} (F : FunAt K mg "_law_parts_row" s_law_parts_row ["parts"]) (C_law_row : Callee P w K mg k "_law_row" ["tree"] d_law_row) (z_len : mg "len" = none) (z_range : mg "range" = none)
    (len : ∀ ds m P EX, d ds m P EX → ds.length = 1) (rd : ∀ ds m P EX, d ds m P EX → Go P (b_law_parts_row d_law_row) (dstart ["parts", "row", "k"] ds) m) : Callee P w K mg (k + 1) "_law_parts_row" ["parts"] d :=
  F.callee sc_law_parts_row len (b_law_parts_row d_law_row) rd fun base f cdv A outer s H E hr =>
    ((qss_cons (qs_set (i := 1) sc_law_parts_row.nd rfl (by first | exact Or.inl rfl | exact Or.inr rfl) (qe_lst (qa_cons qe_str qa_nil)))
    (qss_cons (qs_forR1 (vs := [2]) PassesOwn.never rfl (by rfl) z_range (qa_cons (qe_callB (cd_len) (by rfl) z_len PySem.boot_len (qa_cons (qv 0) qa_nil)) qa_nil) (qg_name (i := 2) sc_law_parts_row.nd rfl (by first | exact Or.inl rfl | exact Or.inr rfl) (by decide))
    (qss_cons (qs_if (qt_cmp od_gt (qv 2) qe_int (nomark _))
    (qss_one (qs_expr (qe_bm md_append PySem.F.plainAttrs_list PySem.F.slot_list_append PySem.F.type_list_append (qv 1) (qa_cons qe_str qa_nil))))
    qss_nil)
    (qss_one (qs_expr (qe_bm md_extend PySem.F.plainAttrs_list PySem.F.slot_list_extend PySem.F.type_list_extend (qv 1) (qa_cons (qe_fn C_law_row hr (by rfl) (qa_cons (qe_ix (qv 0) (qv 2) (fun _ _ => rfl)) qa_nil)) qa_nil))))))
    (qss_one (qs_ret (qe_op od_add (qv 1) (qe_lst (qa_cons qe_str qa_nil))))))))
abbrev s_law_row : Stmt := topS 27
theorem sc_law_row : FnScope ["tree", "word"] ["tree"] (defScope s_law_row) := ⟨rfl, rfl, rfl, by decide +kernel, rfl, by decide +kernel, by decide +kernel⟩
def b_law_row (d_law_kind_row d_law_place_row d_law_row d_law_parts_row : DSp) : TDS := (dSeq (dAsg (dOp rIxD (dVar 0) (dC (.int 0))) (dName 1))
    (dSeq (dIf (dB (dOp rEqD (dVar 1) (dC (.str "int"))))
    (dRet (dLst (dCons (dCB rStrA (dCons (dOp rIxD (dVar 0) (dC (.int 1))) dNil)) dNil)))
    dNext)
    (dSeq (dIf (dB (dOp rEqD (dVar 1) (dC (.str "bool"))))
    (dRet (dLst (dCons (dOp rIxD (dLst (dCons (dC (.str "false")) (dCons (dC (.str "true")) dNil))) (dCB rInt (dCons (dOp rIxD (dVar 0) (dC (.int 1))) dNil))) dNil)))
    dNext)
    (dSeq (dIf (dB (dOp rEqD (dVar 1) (dC (.str "unit"))))
    (dRet (dLst (dCons (dC (.str "unit")) dNil)))
    dNext)
    (dSeq (dIf (dB (dOp rEqD (dVar 1) (dC (.str "none"))))
    (dRet (dOp rAdd (dOp rAdd (dLst (dCons (dC (.str "none")) (dCons (dC (.str "[")) dNil))) (dCall d_law_kind_row (dCons (dOp rIxD (dVar 0) (dC (.int 1))) dNil))) (dLst (dCons (dC (.str "]")) dNil))))
    dNext)
    (dSeq (dIf (dB (dOp rEqD (dVar 1) (dC (.str "use"))))
    (dRet (dCall d_law_place_row (dCons (dOp rIxD (dVar 0) (dC (.int 1))) dNil)))
    dNext)
    (dSeq (dIf (dB (dOp rEqD (dVar 1) (dC (.str "is"))))
    (dRet (dOp rAdd (dCall d_law_place_row (dCons (dOp rIxD (dVar 0) (dC (.int 1))) dNil)) (dLst (dCons (dC (.str "is")) (dCons (dC (.str "some")) dNil)))))
    dNext)
    (dSeq (dIf (dB (dOp rEqD (dVar 1) (dC (.str "borrow"))))
    (dRet (dOp rAdd (dLst (dCons (dOp rIxD (dLst (dCons (dC (.str "&")) (dCons (dC (.str "&mut")) dNil))) (dCB rInt (dCons (dOp rEqD (dOp rIxD (dVar 0) (dC (.int 1))) (dC (.str "exclusive"))) dNil))) dNil)) (dCall d_law_place_row (dCons (dOp rIxD (dVar 0) (dC (.int 2))) dNil))))
    dNext)
    (dSeq (dIf (dB (dOp rEqD (dVar 1) (dC (.str "swap"))))
    (dRet (dOp rAdd (dOp rAdd (dOp rAdd (dLst (dCons (dC (.str "swap")) dNil)) (dCall d_law_place_row (dCons (dOp rIxD (dVar 0) (dC (.int 1))) dNil))) (dLst (dCons (dC (.str "with")) dNil))) (dCall d_law_row (dCons (dOp rIxD (dVar 0) (dC (.int 2))) dNil))))
    dNext)
    (dSeq (dIf (dB (dOp rEqD (dVar 1) (dC (.str "op"))))
    (dRet (dOp rAdd (dOp rAdd (dOp rAdd (dOp rAdd (dLst (dCons (dC (.str "(")) dNil)) (dCall d_law_row (dCons (dOp rIxD (dVar 0) (dC (.int 2))) dNil))) (dLst (dCons (dOp rIxD (dVar 0) (dC (.int 1))) dNil))) (dCall d_law_row (dCons (dOp rIxD (dVar 0) (dC (.int 3))) dNil))) (dLst (dCons (dC (.str ")")) dNil))))
    dNext)
    (dSeq (dIf (dB (dOp rEqD (dVar 1) (dC (.str "tuple"))))
    (dRet (dCall d_law_parts_row (dCons (dOp rIxD (dVar 0) (dC (.int 1))) dNil)))
    dNext)
    (dSeq (dIf (dOr (dB (dOp rEqD (dVar 1) (dC (.str "record")))) (dB (dOp rEqD (dVar 1) (dC (.str "call")))))
    (dRet (dOp rAdd (dLst (dCons (dOp rIxD (dVar 0) (dC (.int 1))) dNil)) (dCall d_law_parts_row (dCons (dOp rIxD (dVar 0) (dC (.int 2))) dNil))))
    dNext)
    (dRet (dOp rAdd (dLst (dCons (dVar 1) dNil)) (dCall d_law_row (dCons (dOp rIxD (dVar 0) (dC (.int 1))) dNil))))))))))))))))
theorem ok_law_row {P : Program} {w : World} {K : PySem.W.Frag} {mg : Str → Option Value} {k : Nat} {d d_law_kind_row d_law_place_row d_law_row d_law_parts_row : DSp} (F : FunAt K mg "_law_row" s_law_row ["tree"]) (C_law_kind_row : Callee P w K mg k "_law_kind_row" ["kind"] d_law_kind_row) (C_law_place_row : Callee P w K mg k "_law_place_row" ["place"] d_law_place_row) (C_law_row : Callee P w K mg k "_law_row" ["tree"] d_law_row) (C_law_parts_row : Callee P w K mg k "_law_parts_row" ["parts"] d_law_parts_row) (z_str : mg "str" = none) (z_int : mg "int" = none)
    (len : ∀ ds m P EX, d ds m P EX → ds.length = 1) (rd : ∀ ds m P EX, d ds m P EX → Go P (b_law_row d_law_kind_row d_law_place_row d_law_row d_law_parts_row) (dstart ["tree", "word"] ds) m) : Callee P w K mg (k + 1) "_law_row" ["tree"] d :=
  F.callee sc_law_row len (b_law_row d_law_kind_row d_law_place_row d_law_row d_law_parts_row) rd fun base f cdv A outer s H E hr =>
    ((qss_cons (qs_set (i := 1) sc_law_row.nd rfl (by first | exact Or.inl rfl | exact Or.inr rfl) (qe_ix (qv 0) qe_int (fun _ _ => rfl)))
    (qss_cons (qs_if (qt_cmp (od_eq hr.units) (qv 1) qe_str (nomark _))
    (qss_one (qs_ret (qe_lst (qa_cons (qe_callTy cd_strA (by rfl) z_str PyProof.Rows.boot_str (qa_cons (qe_ix (qv 0) qe_int (fun _ _ => rfl)) qa_nil)) qa_nil))))
    qss_nil)
    (qss_cons (qs_if (qt_cmp (od_eq hr.units) (qv 1) qe_str (nomark _))
    (qss_one (qs_ret (qe_lst (qa_cons (qe_ix (qe_lst (qa_cons qe_str (qa_cons qe_str qa_nil))) (qe_callTy cd_int (by rfl) z_int PyProof.Rows.boot_int (qa_cons (qe_ix (qv 0) qe_int (fun _ _ => rfl)) qa_nil)) (fun _ _ => rfl)) qa_nil))))
    qss_nil)
    (qss_cons (qs_if (qt_cmp (od_eq hr.units) (qv 1) qe_str (nomark _))
    (qss_one (qs_ret (qe_lst (qa_cons qe_str qa_nil))))
    qss_nil)
    (qss_cons (qs_if (qt_cmp (od_eq hr.units) (qv 1) qe_str (nomark _))
    (qss_one (qs_ret (qe_op od_add (qe_op od_add (qe_lst (qa_cons qe_str (qa_cons qe_str qa_nil))) (qe_fn C_law_kind_row hr (by rfl) (qa_cons (qe_ix (qv 0) qe_int (fun _ _ => rfl)) qa_nil))) (qe_lst (qa_cons qe_str qa_nil)))))
    qss_nil)
    (qss_cons (qs_if (qt_cmp (od_eq hr.units) (qv 1) qe_str (nomark _))
    (qss_one (qs_ret (qe_fn C_law_place_row hr (by rfl) (qa_cons (qe_ix (qv 0) qe_int (fun _ _ => rfl)) qa_nil))))
    qss_nil)
    (qss_cons (qs_if (qt_cmp (od_eq hr.units) (qv 1) qe_str (nomark _))
    (qss_one (qs_ret (qe_op od_add (qe_fn C_law_place_row hr (by rfl) (qa_cons (qe_ix (qv 0) qe_int (fun _ _ => rfl)) qa_nil)) (qe_lst (qa_cons qe_str (qa_cons qe_str qa_nil))))))
    qss_nil)
    (qss_cons (qs_if (qt_cmp (od_eq hr.units) (qv 1) qe_str (nomark _))
    (qss_one (qs_ret (qe_op od_add (qe_lst (qa_cons (qe_ix (qe_lst (qa_cons qe_str (qa_cons qe_str qa_nil))) (qe_callTy cd_int (by rfl) z_int PyProof.Rows.boot_int (qa_cons (qe_cmp (od_eq hr.units) (qe_ix (qv 0) qe_int (fun _ _ => rfl)) qe_str (nomark _)) qa_nil)) (fun _ _ => rfl)) qa_nil)) (qe_fn C_law_place_row hr (by rfl) (qa_cons (qe_ix (qv 0) qe_int (fun _ _ => rfl)) qa_nil)))))
    qss_nil)
    (qss_cons (qs_if (qt_cmp (od_eq hr.units) (qv 1) qe_str (nomark _))
    (qss_one (qs_ret (qe_op od_add (qe_op od_add (qe_op od_add (qe_lst (qa_cons qe_str qa_nil)) (qe_fn C_law_place_row hr (by rfl) (qa_cons (qe_ix (qv 0) qe_int (fun _ _ => rfl)) qa_nil))) (qe_lst (qa_cons qe_str qa_nil))) (qe_fn C_law_row hr (by rfl) (qa_cons (qe_ix (qv 0) qe_int (fun _ _ => rfl)) qa_nil)))))
    qss_nil)
    (qss_cons (qs_if (qt_cmp (od_eq hr.units) (qv 1) qe_str (nomark _))
    (qss_one (qs_ret (qe_op od_add (qe_op od_add (qe_op od_add (qe_op od_add (qe_lst (qa_cons qe_str qa_nil)) (qe_fn C_law_row hr (by rfl) (qa_cons (qe_ix (qv 0) qe_int (fun _ _ => rfl)) qa_nil))) (qe_lst (qa_cons (qe_ix (qv 0) qe_int (fun _ _ => rfl)) qa_nil))) (qe_fn C_law_row hr (by rfl) (qa_cons (qe_ix (qv 0) qe_int (fun _ _ => rfl)) qa_nil))) (qe_lst (qa_cons qe_str qa_nil)))))
    qss_nil)
    (qss_cons (qs_if (qt_cmp (od_eq hr.units) (qv 1) qe_str (nomark _))
    (qss_one (qs_ret (qe_fn C_law_parts_row hr (by rfl) (qa_cons (qe_ix (qv 0) qe_int (fun _ _ => rfl)) qa_nil))))
    qss_nil)
    (qss_cons (qs_if (PW.pt (qw_or (qt_cmp (od_eq hr.units) (qv 1) qe_str (nomark _)) (qw_or1 (qt_cmp (od_eq hr.units) (qv 1) qe_str (nomark _)))))
    (qss_one (qs_ret (qe_op od_add (qe_lst (qa_cons (qe_ix (qv 0) qe_int (fun _ _ => rfl)) qa_nil)) (qe_fn C_law_parts_row hr (by rfl) (qa_cons (qe_ix (qv 0) qe_int (fun _ _ => rfl)) qa_nil)))))
    qss_nil)
    (qss_one (qs_ret (qe_op od_add (qe_lst (qa_cons (qv 1) qa_nil)) (qe_fn C_law_row hr (by rfl) (qa_cons (qe_ix (qv 0) qe_int (fun _ _ => rfl)) qa_nil))))))))))))))))))
abbrev s_law_block_rows : Stmt := topS 28
theorem sc_law_block_rows : FnScope ["block", "depth", "rows", "tree"] ["block", "depth"] (defScope s_law_block_rows) := ⟨rfl, rfl, rfl, by decide +kernel, rfl, by decide +kernel, by decide +kernel⟩
def b_law_block_rows (d_law_row d_law_block_rows d_law_place_row : DSp) : TDS := (dSeq (dAsg (dLst dNil) (dName 2))
    (dSeq (dForS (dVar 0) (dName 3)
    (dIf (dOr (dB (dOp rEqD (dOp rIxD (dVar 3) (dC (.int 0))) (dC (.str "if")))) (dB (dOp rEqD (dOp rIxD (dVar 3) (dC (.int 0))) (dC (.str "while")))))
    (dSeq (dDrop (dBM isLst rApp (dVar 2) (dCons (dTup (dCons (dVar 1) (dCons (dOp rAdd (dOp rAdd (dLst (dCons (dOp rIxD (dVar 3) (dC (.int 0))) dNil)) (dCall d_law_row (dCons (dOp rIxD (dVar 3) (dC (.int 1))) dNil))) (dLst (dCons (dC (.str "{")) dNil))) dNil))) dNil)))
    (dSeq (dDrop (dBM isLst rExt (dVar 2) (dCons (dCall d_law_block_rows (dCons (dOp rIxD (dVar 3) (dC (.int 2))) (dCons (dOp rAdd (dVar 1) (dC (.int 1))) dNil))) dNil)))
    (dSeq (dIf (dB (dOp rEqD (dOp rIxD (dVar 3) (dC (.int 0))) (dC (.str "if"))))
    (dSeq (dDrop (dBM isLst rApp (dVar 2) (dCons (dTup (dCons (dVar 1) (dCons (dLst (dCons (dC (.str "}")) (dCons (dC (.str "else")) (dCons (dC (.str "{")) dNil)))) dNil))) dNil)))
    (dDrop (dBM isLst rExt (dVar 2) (dCons (dCall d_law_block_rows (dCons (dOp rIxD (dVar 3) (dC (.int 3))) (dCons (dOp rAdd (dVar 1) (dC (.int 1))) dNil))) dNil))))
    dNext)
    (dDrop (dBM isLst rApp (dVar 2) (dCons (dTup (dCons (dVar 1) (dCons (dLst (dCons (dC (.str "}")) dNil)) dNil))) dNil))))))
    (dIf (dB (dOp rEqD (dOp rIxD (dVar 3) (dC (.int 0))) (dC (.str "let"))))
    (dDrop (dBM isLst rApp (dVar 2) (dCons (dTup (dCons (dVar 1) (dCons (dOp rAdd (dOp rAdd (dLst (dCons (dC (.str "let")) (dCons (dOp rIxD (dVar 3) (dC (.int 1))) (dCons (dC (.str "=")) dNil)))) (dCall d_law_row (dCons (dOp rIxD (dVar 3) (dC (.int 2))) dNil))) (dLst (dCons (dC (.str ";")) dNil))) dNil))) dNil)))
    (dIf (dB (dOp rEqD (dOp rIxD (dVar 3) (dC (.int 0))) (dC (.str "store"))))
    (dDrop (dBM isLst rApp (dVar 2) (dCons (dTup (dCons (dVar 1) (dCons (dOp rAdd (dOp rAdd (dOp rAdd (dCall d_law_place_row (dCons (dOp rIxD (dVar 3) (dC (.int 1))) dNil)) (dLst (dCons (dC (.str "=")) dNil))) (dCall d_law_row (dCons (dOp rIxD (dVar 3) (dC (.int 2))) dNil))) (dLst (dCons (dC (.str ";")) dNil))) dNil))) dNil)))
    (dDrop (dBM isLst rApp (dVar 2) (dCons (dTup (dCons (dVar 1) (dCons (dOp rAdd (dOp rAdd (dLst (dCons (dOp rIxD (dVar 3) (dC (.int 0))) dNil)) (dCall d_law_row (dCons (dOp rIxD (dVar 3) (dC (.int 1))) dNil))) (dLst (dCons (dC (.str ";")) dNil))) dNil))) dNil)))))))
    (dRet (dVar 2))))
theorem ok_law_block_rows {P : Program} {w : World} {K : PySem.W.Frag} {mg : Str → Option Value} {k : Nat} {d d_law_row d_law_block_rows d_law_place_row : DSp} (F : FunAt K mg "_law_block_rows" s_law_block_rows ["block", "depth"]) (C_law_row : Callee P w K mg k "_law_row" ["tree"] d_law_row) (C_law_block_rows : Callee P w K mg k "_law_block_rows" ["block", "depth"] d_law_block_rows) (C_law_place_row : Callee P w K mg k "_law_place_row" ["place"] d_law_place_row)
    (len : ∀ ds m P EX, d ds m P EX → ds.length = 2) (rd : ∀ ds m P EX, d ds m P EX → Go P (b_law_block_rows d_law_row d_law_block_rows d_law_place_row) (dstart ["block", "depth", "rows", "tree"] ds) m) : Callee P w K mg (k + 1) "_law_block_rows" ["block", "depth"] d :=
  F.callee sc_law_block_rows len (b_law_block_rows d_law_row d_law_block_rows d_law_place_row) rd fun base f cdv A outer s H E hr =>
    ((qss_cons (qs_set (i := 2) sc_law_block_rows.nd rfl (by first | exact Or.inl rfl | exact Or.inr rfl) (qe_lst qa_nil))
    (qss_cons (qs_forS (vs := [3]) PassesOwn.never rfl (qv 0) (qg_name (i := 3) sc_law_block_rows.nd rfl (by first | exact Or.inl rfl | exact Or.inr rfl) (by decide))
    (qss_one (qs_if (PW.pt (qw_or (qt_cmp (od_eq hr.units) (qe_ix (qv 3) qe_int (fun _ _ => rfl)) qe_str (nomark _)) (qw_or1 (qt_cmp (od_eq hr.units) (qe_ix (qv 3) qe_int (fun _ _ => rfl)) qe_str (nomark _)))))
    (qss_cons (qs_expr (qe_bm md_append PySem.F.plainAttrs_list PySem.F.slot_list_append PySem.F.type_list_append (qv 2) (qa_cons (qe_tup (qa_cons (qv 1) (qa_cons (qe_op od_add (qe_op od_add (qe_lst (qa_cons (qe_ix (qv 3) qe_int (fun _ _ => rfl)) qa_nil)) (qe_fn C_law_row hr (by rfl) (qa_cons (qe_ix (qv 3) qe_int (fun _ _ => rfl)) qa_nil))) (qe_lst (qa_cons qe_str qa_nil))) qa_nil))) qa_nil)))
    (qss_cons (qs_expr (qe_bm md_extend PySem.F.plainAttrs_list PySem.F.slot_list_extend PySem.F.type_list_extend (qv 2) (qa_cons (qe_fn C_law_block_rows hr (by rfl) (qa_cons (qe_ix (qv 3) qe_int (fun _ _ => rfl)) (qa_cons (qe_op od_add (qv 1) qe_int) qa_nil))) qa_nil)))
    (qss_cons (qs_if (qt_cmp (od_eq hr.units) (qe_ix (qv 3) qe_int (fun _ _ => rfl)) qe_str (nomark _))
    (qss_cons (qs_expr (qe_bm md_append PySem.F.plainAttrs_list PySem.F.slot_list_append PySem.F.type_list_append (qv 2) (qa_cons (qe_tup (qa_cons (qv 1) (qa_cons (qe_lst (qa_cons qe_str (qa_cons qe_str (qa_cons qe_str qa_nil)))) qa_nil))) qa_nil)))
    (qss_one (qs_expr (qe_bm md_extend PySem.F.plainAttrs_list PySem.F.slot_list_extend PySem.F.type_list_extend (qv 2) (qa_cons (qe_fn C_law_block_rows hr (by rfl) (qa_cons (qe_ix (qv 3) qe_int (fun _ _ => rfl)) (qa_cons (qe_op od_add (qv 1) qe_int) qa_nil))) qa_nil)))))
    qss_nil)
    (qss_one (qs_expr (qe_bm md_append PySem.F.plainAttrs_list PySem.F.slot_list_append PySem.F.type_list_append (qv 2) (qa_cons (qe_tup (qa_cons (qv 1) (qa_cons (qe_lst (qa_cons qe_str qa_nil)) qa_nil))) qa_nil)))))))
    (qss_one (qs_if (qt_cmp (od_eq hr.units) (qe_ix (qv 3) qe_int (fun _ _ => rfl)) qe_str (nomark _))
    (qss_one (qs_expr (qe_bm md_append PySem.F.plainAttrs_list PySem.F.slot_list_append PySem.F.type_list_append (qv 2) (qa_cons (qe_tup (qa_cons (qv 1) (qa_cons (qe_op od_add (qe_op od_add (qe_lst (qa_cons qe_str (qa_cons (qe_ix (qv 3) qe_int (fun _ _ => rfl)) (qa_cons qe_str qa_nil)))) (qe_fn C_law_row hr (by rfl) (qa_cons (qe_ix (qv 3) qe_int (fun _ _ => rfl)) qa_nil))) (qe_lst (qa_cons qe_str qa_nil))) qa_nil))) qa_nil))))
    (qss_one (qs_if (qt_cmp (od_eq hr.units) (qe_ix (qv 3) qe_int (fun _ _ => rfl)) qe_str (nomark _))
    (qss_one (qs_expr (qe_bm md_append PySem.F.plainAttrs_list PySem.F.slot_list_append PySem.F.type_list_append (qv 2) (qa_cons (qe_tup (qa_cons (qv 1) (qa_cons (qe_op od_add (qe_op od_add (qe_op od_add (qe_fn C_law_place_row hr (by rfl) (qa_cons (qe_ix (qv 3) qe_int (fun _ _ => rfl)) qa_nil)) (qe_lst (qa_cons qe_str qa_nil))) (qe_fn C_law_row hr (by rfl) (qa_cons (qe_ix (qv 3) qe_int (fun _ _ => rfl)) qa_nil))) (qe_lst (qa_cons qe_str qa_nil))) qa_nil))) qa_nil))))
    (qss_one (qs_expr (qe_bm md_append PySem.F.plainAttrs_list PySem.F.slot_list_append PySem.F.type_list_append (qv 2) (qa_cons (qe_tup (qa_cons (qv 1) (qa_cons (qe_op od_add (qe_op od_add (qe_lst (qa_cons (qe_ix (qv 3) qe_int (fun _ _ => rfl)) qa_nil)) (qe_fn C_law_row hr (by rfl) (qa_cons (qe_ix (qv 3) qe_int (fun _ _ => rfl)) qa_nil))) (qe_lst (qa_cons qe_str qa_nil))) qa_nil))) qa_nil)))))))))))
    (qss_one (qs_ret (qv 2))))))
abbrev s_law_field_row : Stmt := topS 29
theorem sc_law_field_row : FnScope ["fields", "row", "k"] ["fields"] (defScope s_law_field_row) := ⟨rfl, rfl, rfl, by decide +kernel, rfl, by decide +kernel, by decide +kernel⟩
def b_law_field_row (d_law_kind_row : DSp) : TDS := (dSeq (dAsg (dLst dNil) (dName 1))
    (dSeq (dForR1 (dCons (dCB rLen (dCons (dVar 0) dNil)) dNil) (dName 2)
    (dSeq (dIf (dB (dOp rGtD (dVar 2) (dC (.int 0))))
    (dDrop (dBM isLst rApp (dVar 1) (dCons (dC (.str ",")) dNil)))
    dNext)
    (dDrop (dBM isLst rExt (dVar 1) (dCons (dOp rAdd (dLst (dCons (dOp rIxD (dOp rIxD (dVar 0) (dVar 2)) (dC (.int 0))) (dCons (dC (.str ":")) dNil))) (dCall d_law_kind_row (dCons (dOp rIxD (dOp rIxD (dVar 0) (dVar 2)) (dC (.int 1))) dNil))) dNil)))))
    (dRet (dVar 1))))
theorem ok_law_field_row {P : Program} {w : World} {K : PySem.W.Frag} {mg : Str → Option Value} {k : Nat} {d d_law_kind_row : DSp} (F : FunAt K mg "_law_field_row" s_law_field_row ["fields"]) (C_law_kind_row : Callee P w K mg k "_law_kind_row" ["kind"] d_law_kind_row) (z_len : mg "len" = none) (z_range : mg "range" = none)
    (len : ∀ ds m P EX, d ds m P EX → ds.length = 1) (rd : ∀ ds m P EX, d ds m P EX → Go P (b_law_field_row d_law_kind_row) (dstart ["fields", "row", "k"] ds) m) : Callee P w K mg (k + 1) "_law_field_row" ["fields"] d :=
  F.callee sc_law_field_row len (b_law_field_row d_law_kind_row) rd fun base f cdv A outer s H E hr =>
    ((qss_cons (qs_set (i := 1) sc_law_field_row.nd rfl (by first | exact Or.inl rfl | exact Or.inr rfl) (qe_lst qa_nil))
    (qss_cons (qs_forR1 (vs := [2]) PassesOwn.never rfl (by rfl) z_range (qa_cons (qe_callB (cd_len) (by rfl) z_len PySem.boot_len (qa_cons (qv 0) qa_nil)) qa_nil) (qg_name (i := 2) sc_law_field_row.nd rfl (by first | exact Or.inl rfl | exact Or.inr rfl) (by decide))
    (qss_cons (qs_if (qt_cmp od_gt (qv 2) qe_int (nomark _))
    (qss_one (qs_expr (qe_bm md_append PySem.F.plainAttrs_list PySem.F.slot_list_append PySem.F.type_list_append (qv 1) (qa_cons qe_str qa_nil))))
    qss_nil)
    (qss_one (qs_expr (qe_bm md_extend PySem.F.plainAttrs_list PySem.F.slot_list_extend PySem.F.type_list_extend (qv 1) (qa_cons (qe_op od_add (qe_lst (qa_cons (qe_ix (qe_ix (qv 0) (qv 2) (fun _ _ => rfl)) qe_int (fun _ _ => rfl)) (qa_cons qe_str qa_nil))) (qe_fn C_law_kind_row hr (by rfl) (qa_cons (qe_ix (qe_ix (qv 0) (qv 2) (fun _ _ => rfl)) qe_int (fun _ _ => rfl)) qa_nil))) qa_nil))))))
    (qss_one (qs_ret (qv 1))))))
abbrev s_law_program_rows : Stmt := topS 30
theorem sc_law_program_rows : FnScope ["program", "rows", "record", "tree", "head", "k"] ["program"] (defScope s_law_program_rows) := ⟨rfl, rfl, rfl, by decide +kernel, rfl, by decide +kernel, by decide +kernel⟩
def b_law_program_rows (d_law_field_row d_law_kind_row d_law_block_rows : DSp) : TDS := (dSeq (dAsg (dLst dNil) (dName 1))
    (dSeq (dForS (dOp rIxD (dVar 0) (dC (.int 0))) (dName 2)
    (dDrop (dBM isLst rApp (dVar 1) (dCons (dTup (dCons (dC (.int 0)) (dCons (dOp rAdd (dOp rAdd (dLst (dCons (dC (.str "record")) (dCons (dOp rIxD (dVar 2) (dC (.int 0))) (dCons (dC (.str "{")) dNil)))) (dCall d_law_field_row (dCons (dOp rIxD (dVar 2) (dC (.int 1))) dNil))) (dLst (dCons (dC (.str "}")) dNil))) dNil))) dNil))))
    (dSeq (dForS (dOp rIxD (dVar 0) (dC (.int 1))) (dName 3)
    (dSeq (dAsg (dOp rAdd (dOp rAdd (dOp rAdd (dLst (dCons (dC (.str "fn")) (dCons (dOp rIxD (dVar 3) (dC (.int 0))) (dCons (dC (.str "(")) dNil)))) (dCall d_law_field_row (dCons (dOp rIxD (dVar 3) (dC (.int 1))) dNil))) (dLst (dCons (dC (.str ")")) (dCons (dC (.str "->")) dNil)))) (dCall d_law_kind_row (dCons (dOp rIxD (dVar 3) (dC (.int 2))) dNil))) (dName 4))
    (dSeq (dForR1 (dCons (dCB rLen (dCons (dOp rIxD (dVar 3) (dC (.int 3))) dNil)) dNil) (dName 5)
    (dDrop (dBM isLst rExt (dVar 4) (dCons (dLst (dCons (dOp rIxD (dLst (dCons (dC (.str "from")) (dCons (dC (.str ",")) dNil))) (dCB rInt (dCons (dOp rGtD (dVar 5) (dC (.int 0))) dNil))) (dCons (dOp rIxD (dOp rIxD (dVar 3) (dC (.int 3))) (dVar 5)) dNil))) dNil))))
    (dSeq (dDrop (dBM isLst rApp (dVar 1) (dCons (dTup (dCons (dC (.int 0)) (dCons (dOp rAdd (dVar 4) (dLst (dCons (dC (.str "{")) dNil))) dNil))) dNil)))
    (dSeq (dDrop (dBM isLst rExt (dVar 1) (dCons (dCall d_law_block_rows (dCons (dOp rIxD (dVar 3) (dC (.int 4))) (dCons (dC (.int 1)) dNil))) dNil)))
    (dDrop (dBM isLst rApp (dVar 1) (dCons (dTup (dCons (dC (.int 0)) (dCons (dLst (dCons (dC (.str "}")) dNil)) dNil))) dNil))))))))
    (dRet (dVar 1)))))
theorem ok_law_program_rows {P : Program} {w : World} {K : PySem.W.Frag} {mg : Str → Option Value} {k : Nat} {d d_law_field_row d_law_kind_row d_law_block_rows : DSp} (F : FunAt K mg "_law_program_rows" s_law_program_rows ["program"]) (C_law_field_row : Callee P w K mg k "_law_field_row" ["fields"] d_law_field_row) (C_law_kind_row : Callee P w K mg k "_law_kind_row" ["kind"] d_law_kind_row) (C_law_block_rows : Callee P w K mg k "_law_block_rows" ["block", "depth"] d_law_block_rows) (z_int : mg "int" = none) (z_len : mg "len" = none) (z_range : mg "range" = none)
    (len : ∀ ds m P EX, d ds m P EX → ds.length = 1) (rd : ∀ ds m P EX, d ds m P EX → Go P (b_law_program_rows d_law_field_row d_law_kind_row d_law_block_rows) (dstart ["program", "rows", "record", "tree", "head", "k"] ds) m) : Callee P w K mg (k + 1) "_law_program_rows" ["program"] d :=
  F.callee sc_law_program_rows len (b_law_program_rows d_law_field_row d_law_kind_row d_law_block_rows) rd fun base f cdv A outer s H E hr =>
    ((qss_cons (qs_set (i := 1) sc_law_program_rows.nd rfl (by first | exact Or.inl rfl | exact Or.inr rfl) (qe_lst qa_nil))
    (qss_cons (qs_forS (vs := [2]) PassesOwn.never rfl (qe_ix (qv 0) qe_int (fun _ _ => rfl)) (qg_name (i := 2) sc_law_program_rows.nd rfl (by first | exact Or.inl rfl | exact Or.inr rfl) (by decide))
    (qss_one (qs_expr (qe_bm md_append PySem.F.plainAttrs_list PySem.F.slot_list_append PySem.F.type_list_append (qv 1) (qa_cons (qe_tup (qa_cons qe_int (qa_cons (qe_op od_add (qe_op od_add (qe_lst (qa_cons qe_str (qa_cons (qe_ix (qv 2) qe_int (fun _ _ => rfl)) (qa_cons qe_str qa_nil)))) (qe_fn C_law_field_row hr (by rfl) (qa_cons (qe_ix (qv 2) qe_int (fun _ _ => rfl)) qa_nil))) (qe_lst (qa_cons qe_str qa_nil))) qa_nil))) qa_nil)))))
    (qss_cons (qs_forS (vs := [3]) PassesOwn.never rfl (qe_ix (qv 0) qe_int (fun _ _ => rfl)) (qg_name (i := 3) sc_law_program_rows.nd rfl (by first | exact Or.inl rfl | exact Or.inr rfl) (by decide))
    (qss_cons (qs_set (i := 4) sc_law_program_rows.nd rfl (by first | exact Or.inl rfl | exact Or.inr rfl) (qe_op od_add (qe_op od_add (qe_op od_add (qe_lst (qa_cons qe_str (qa_cons (qe_ix (qv 3) qe_int (fun _ _ => rfl)) (qa_cons qe_str qa_nil)))) (qe_fn C_law_field_row hr (by rfl) (qa_cons (qe_ix (qv 3) qe_int (fun _ _ => rfl)) qa_nil))) (qe_lst (qa_cons qe_str (qa_cons qe_str qa_nil)))) (qe_fn C_law_kind_row hr (by rfl) (qa_cons (qe_ix (qv 3) qe_int (fun _ _ => rfl)) qa_nil))))
    (qss_cons (qs_forR1 (vs := [5]) PassesOwn.never rfl (by rfl) z_range (qa_cons (qe_callB (cd_len) (by rfl) z_len PySem.boot_len (qa_cons (qe_ix (qv 3) qe_int (fun _ _ => rfl)) qa_nil)) qa_nil) (qg_name (i := 5) sc_law_program_rows.nd rfl (by first | exact Or.inl rfl | exact Or.inr rfl) (by decide))
    (qss_one (qs_expr (qe_bm md_extend PySem.F.plainAttrs_list PySem.F.slot_list_extend PySem.F.type_list_extend (qv 4) (qa_cons (qe_lst (qa_cons (qe_ix (qe_lst (qa_cons qe_str (qa_cons qe_str qa_nil))) (qe_callTy cd_int (by rfl) z_int PyProof.Rows.boot_int (qa_cons (qe_cmp od_gt (qv 5) qe_int (nomark _)) qa_nil)) (fun _ _ => rfl)) (qa_cons (qe_ix (qe_ix (qv 3) qe_int (fun _ _ => rfl)) (qv 5) (fun _ _ => rfl)) qa_nil))) qa_nil)))))
    (qss_cons (qs_expr (qe_bm md_append PySem.F.plainAttrs_list PySem.F.slot_list_append PySem.F.type_list_append (qv 1) (qa_cons (qe_tup (qa_cons qe_int (qa_cons (qe_op od_add (qv 4) (qe_lst (qa_cons qe_str qa_nil))) qa_nil))) qa_nil)))
    (qss_cons (qs_expr (qe_bm md_extend PySem.F.plainAttrs_list PySem.F.slot_list_extend PySem.F.type_list_extend (qv 1) (qa_cons (qe_fn C_law_block_rows hr (by rfl) (qa_cons (qe_ix (qv 3) qe_int (fun _ _ => rfl)) (qa_cons qe_int qa_nil))) qa_nil)))
    (qss_one (qs_expr (qe_bm md_append PySem.F.plainAttrs_list PySem.F.slot_list_append PySem.F.type_list_append (qv 1) (qa_cons (qe_tup (qa_cons qe_int (qa_cons (qe_lst (qa_cons qe_str qa_nil)) qa_nil))) qa_nil)))))))))
    (qss_one (qs_ret (qv 1)))))))
abbrev s_law_is_named : Stmt := topS 31
theorem sc_law_is_named : FnScope ["token", "letters"] ["token"] (defScope s_law_is_named) := ⟨rfl, rfl, rfl, by decide +kernel, rfl, by decide +kernel, by decide +kernel⟩
def b_law_is_named (d_law_words : DSp) : TDS := (dSeq (dAsg (dC (.str "abcdefghijklmnopqrstuvwxyzABCDEFGHIJKLMNOPQRSTUVWXYZ")) (dName 1))
    (dRet (dAndV (dOp rInD (dOp rIxD (dVar 0) (dC (.int 0))) (dVar 1)) (dOp rNotInD (dVar 0) (dCall d_law_words dNil)))))
theorem ok_law_is_named {P : Program} {w : World} {K : PySem.W.Frag} {mg : Str → Option Value} {k : Nat} {d d_law_words : DSp} (F : FunAt K mg "_law_is_named" s_law_is_named ["token"]) (C_law_words : Callee P w K mg k "_law_words" [] d_law_words)
    (len : ∀ ds m P EX, d ds m P EX → ds.length = 1) (rd : ∀ ds m P EX, d ds m P EX → Go P (b_law_is_named d_law_words) (dstart ["token", "letters"] ds) m) : Callee P w K mg (k + 1) "_law_is_named" ["token"] d :=
  F.callee sc_law_is_named len (b_law_is_named d_law_words) rd fun base f cdv A outer s H E hr =>
    ((qss_cons (qs_set (i := 1) sc_law_is_named.nd rfl (by first | exact Or.inl rfl | exact Or.inr rfl) qe_str)
    (qss_one (qs_ret (qe_and (qe_cmp od_inD (qe_ix (qv 0) qe_int (fun _ _ => rfl)) (qv 1) (by rfl)) (qe_one (qe_cmp od_notInD (qv 0) (qe_fn0 C_law_words hr (by rfl)) (by rfl))))))))
abbrev s_law_line : Stmt := topS 32
theorem sc_law_line : FnScope ["row", "text", "k", "gap"] ["row"] (defScope s_law_line) := ⟨rfl, rfl, rfl, by decide +kernel, rfl, by decide +kernel, by decide +kernel⟩
def b_law_line (d_law_is_named : DSp) : TDS := (dSeq (dAsg (dOp rIxD (dVar 0) (dC (.int 0))) (dName 1))
    (dSeq (dForR2 (dCons (dC (.int 1)) (dCons (dCB rLen (dCons (dVar 0) dNil)) dNil)) (dName 2)
    (dSeq (dAsg (dC (.str " ")) (dName 3))
    (dSeq (dIf (dOr (dB (dOp rInD (dOp rIxD (dVar 0) (dVar 2)) (dLst (dCons (dC (.str ",")) (dCons (dC (.str ";")) (dCons (dC (.str ":")) (dCons (dC (.str ".")) (dCons (dC (.str "?")) (dCons (dC (.str "^")) (dCons (dC (.str ")")) (dCons (dC (.str "]")) (dCons (dC (.str "[")) dNil)))))))))))) (dB (dOp rInD (dOp rIxD (dVar 0) (dOp rSub (dVar 2) (dC (.int 1)))) (dLst (dCons (dC (.str ".")) (dCons (dC (.str "(")) (dCons (dC (.str "[")) (dCons (dC (.str "&")) dNil))))))))
    (dAsg (dC (.str "")) (dName 3))
    dNext)
    (dSeq (dIf (dAnd (dB (dOp rEqD (dOp rIxD (dVar 0) (dVar 2)) (dC (.str "(")))) (dTru (dCall d_law_is_named (dCons (dOp rIxD (dVar 0) (dOp rSub (dVar 2) (dC (.int 1)))) dNil))))
    (dAsg (dC (.str "")) (dName 3))
    dNext)
    (dAsg (dOp rAdd (dOp rAdd (dVar 1) (dVar 3)) (dOp rIxD (dVar 0) (dVar 2))) (dName 1))))))
    (dRet (dVar 1))))
theorem ok_law_line {P : Program} {w : World} {K : PySem.W.Frag} {mg : Str → Option Value} {k : Nat} {d d_law_is_named : DSp} (F : FunAt K mg "_law_line" s_law_line ["row"]) (C_law_is_named : Callee P w K mg k "_law_is_named" ["token"] d_law_is_named) (z_len : mg "len" = none) (z_range : mg "range" = none)
    (len : ∀ ds m P EX, d ds m P EX → ds.length = 1) (rd : ∀ ds m P EX, d ds m P EX → Go P (b_law_line d_law_is_named) (dstart ["row", "text", "k", "gap"] ds) m) : Callee P w K mg (k + 1) "_law_line" ["row"] d :=
  F.callee sc_law_line len (b_law_line d_law_is_named) rd fun base f cdv A outer s H E hr =>
    ((qss_cons (qs_set (i := 1) sc_law_line.nd rfl (by first | exact Or.inl rfl | exact Or.inr rfl) (qe_ix (qv 0) qe_int (fun _ _ => rfl)))
    (qss_cons (qs_forR2 (vs := [2]) PassesOwn.never rfl (by rfl) z_range (qa_cons qe_int (qa_cons (qe_callB (cd_len) (by rfl) z_len PySem.boot_len (qa_cons (qv 0) qa_nil)) qa_nil)) (qg_name (i := 2) sc_law_line.nd rfl (by first | exact Or.inl rfl | exact Or.inr rfl) (by decide))
    (qss_cons (qs_set (i := 3) sc_law_line.nd rfl (by first | exact Or.inl rfl | exact Or.inr rfl) qe_str)
    (qss_cons (qs_if (PW.pt (qw_or (qt_cmp od_inD (qe_ix (qv 0) (qv 2) (fun _ _ => rfl)) (qe_lst (qa_cons qe_str (qa_cons qe_str (qa_cons qe_str (qa_cons qe_str (qa_cons qe_str (qa_cons qe_str (qa_cons qe_str (qa_cons qe_str (qa_cons qe_str qa_nil)))))))))) (by rfl)) (qw_or1 (qt_cmp od_inD (qe_ix (qv 0) (qe_op od_sub (qv 2) qe_int) (fun _ _ => rfl)) (qe_lst (qa_cons qe_str (qa_cons qe_str (qa_cons qe_str (qa_cons qe_str qa_nil))))) (by rfl)))))
    (qss_one (qs_set (i := 3) sc_law_line.nd rfl (by first | exact Or.inl rfl | exact Or.inr rfl) qe_str))
    qss_nil)
    (qss_cons (qs_if (PW.pt (qw_and (qt_cmp (od_eq hr.units) (qe_ix (qv 0) (qv 2) (fun _ _ => rfl)) qe_str (nomark _)) (qw_and1 (qt_tru (qe_fn C_law_is_named hr (by rfl) (qa_cons (qe_ix (qv 0) (qe_op od_sub (qv 2) qe_int) (fun _ _ => rfl)) qa_nil))))))
    (qss_one (qs_set (i := 3) sc_law_line.nd rfl (by first | exact Or.inl rfl | exact Or.inr rfl) qe_str))
    qss_nil)
    (qss_one (qs_set (i := 1) sc_law_line.nd rfl (by first | exact Or.inl rfl | exact Or.inr rfl) (qe_op od_add (qe_op od_add (qv 1) (qv 3)) (qe_ix (qv 0) (qv 2) (fun _ _ => rfl)))))))))
    (qss_one (qs_ret (qv 1))))))
abbrev s_law_text : Stmt := topS 33
theorem sc_law_text : FnScope ["program", "text", "row"] ["program"] (defScope s_law_text) := ⟨rfl, rfl, rfl, by decide +kernel, rfl, by decide +kernel, by decide +kernel⟩
def b_law_text (d_law_line d_law_program_rows : DSp) : TDS := (dSeq (dAsg (dC (.str "")) (dName 1))
    (dSeq (dForS (dCall d_law_program_rows (dCons (dVar 0) dNil)) (dName 2)
    (dAsg (dOp rAdd (dOp rAdd (dOp rAdd (dVar 1) (dOp rMulS (dC (.str "    ")) (dOp rIxD (dVar 2) (dC (.int 0))))) (dCall d_law_line (dCons (dOp rIxD (dVar 2) (dC (.int 1))) dNil))) (dC (.str "\n"))) (dName 1)))
    (dRet (dVar 1))))
theorem ok_law_text {P : Program} {w : World} {K : PySem.W.Frag} {mg : Str → Option Value} {k : Nat} {d d_law_line d_law_program_rows : DSp} (F : FunAt K mg "_law_text" s_law_text ["program"]) (C_law_line : Callee P w K mg k "_law_line" ["row"] d_law_line) (C_law_program_rows : Callee P w K mg k "_law_program_rows" ["program"] d_law_program_rows)
    (len : ∀ ds m P EX, d ds m P EX → ds.length = 1) (rd : ∀ ds m P EX, d ds m P EX → Go P (b_law_text d_law_line d_law_program_rows) (dstart ["program", "text", "row"] ds) m) : Callee P w K mg (k + 1) "_law_text" ["program"] d :=
  F.callee sc_law_text len (b_law_text d_law_line d_law_program_rows) rd fun base f cdv A outer s H E hr =>
    ((qss_cons (qs_set (i := 1) sc_law_text.nd rfl (by first | exact Or.inl rfl | exact Or.inr rfl) qe_str)
    (qss_cons (qs_forS (vs := [2]) PassesOwn.never rfl (qe_fn C_law_program_rows hr (by rfl) (qa_cons (qv 0) qa_nil)) (qg_name (i := 2) sc_law_text.nd rfl (by first | exact Or.inl rfl | exact Or.inr rfl) (by decide))
    (qss_one (qs_set (i := 1) sc_law_text.nd rfl (by first | exact Or.inl rfl | exact Or.inr rfl) (qe_op od_add (qe_op od_add (qe_op od_add (qv 1) (qe_op od_mulS qe_str (qe_ix (qv 2) qe_int (fun _ _ => rfl)))) (qe_fn C_law_line hr (by rfl) (qa_cons (qe_ix (qv 2) qe_int (fun _ _ => rfl)) qa_nil))) qe_str))))
    (qss_one (qs_ret (qv 1))))))
abbrev s_law : Stmt := topS 34
theorem sc_law : FnScope ["script", "state", "block", "k", "program", "actual"] ["script"] (defScope s_law) := ⟨rfl, rfl, rfl, by decide +kernel, rfl, by decide +kernel, by decide +kernel⟩
def b_law (d_law_expression d_law_pick d_law_name d_write_program d_law_text : DSp) : TDS := (dSeq (dAsg (dLst (dCons (dC (.int 0)) (dCons (dC (.int 0)) (dCons (dC (.int 1)) (dCons (dC (.int 14)) dNil))))) (dName 1))
    (dSeq (dAsg (dLst dNil) (dName 2))
    (dSeq (dForR1 (dCons (dOp rAdd (dC (.int 1)) (dCall d_law_pick (dCons (dVar 1) (dCons (dVar 0) (dCons (dC (.int 4)) dNil))))) dNil) (dName 3)
    (dDrop (dBM isLst rApp (dVar 2) (dCons (dTup (dCons (dC (.str "do")) (dCons (dCall d_law_expression (dCons (dVar 1) (dCons (dVar 0) (dCons (dC (.int 5)) dNil)))) dNil))) dNil))))
    (dSeq (dAsg (dTup (dCons (dTup dNil) (dCons (dTup (dCons (dTup (dCons (dCall d_law_name (dCons (dVar 1) (dCons (dVar 0) dNil))) (dCons (dTup dNil) (dCons (dTup (dCons (dC (.str "unit")) dNil)) (dCons (dTup dNil) (dCons (dCB rTuple (dCons (dVar 2) dNil)) dNil)))))) dNil)) dNil))) (dName 4))
    (dSeq (dAsg (dCall d_write_program (dCons (dVar 4) dNil)) (dName 5))
    (dRet (dAndV (dCB rIsD (dCons (dVar 5) (dCons (dC (.ty "str")) dNil))) (dOp rEqD (dVar 5) (dCall d_law_text (dCons (dVar 4) dNil))))))))))
theorem ok_law {P : Program} {w : World} {K : PySem.W.Frag} {mg : Str → Option Value} {k : Nat} {d d_law_expression d_law_pick d_law_name d_write_program d_law_text : DSp} (F : FunAt K mg "law" s_law ["script"]) (C_law_expression : Callee P w K mg k "_law_expression" ["state", "script", "room"] d_law_expression) (C_law_pick : Callee P w K mg k "_law_pick" ["state", "script", "many"] d_law_pick) (C_law_name : Callee P w K mg k "_law_name" ["state", "script"] d_law_name) (C_write_program : Callee P w K mg k "write_program" ["program"] d_write_program) (C_law_text : Callee P w K mg k "_law_text" ["program"] d_law_text) (z_range : mg "range" = none) (z_tuple : mg "tuple" = none) (z_str : mg "str" = none) (z_isinstance : mg "isinstance" = none)
    (len : ∀ ds m P EX, d ds m P EX → ds.length = 1) (rd : ∀ ds m P EX, d ds m P EX → Go P (b_law d_law_expression d_law_pick d_law_name d_write_program d_law_text) (dstart ["script", "state", "block", "k", "program", "actual"] ds) m) : Callee P w K mg (k + 1) "law" ["script"] d :=
  F.callee sc_law len (b_law d_law_expression d_law_pick d_law_name d_write_program d_law_text) rd fun base f cdv A outer s H E hr =>
    ((qss_cons (qs_set (i := 1) sc_law.nd rfl (by first | exact Or.inl rfl | exact Or.inr rfl) (qe_lst (qa_cons qe_int (qa_cons qe_int (qa_cons qe_int (qa_cons qe_int qa_nil))))))
    (qss_cons (qs_set (i := 2) sc_law.nd rfl (by first | exact Or.inl rfl | exact Or.inr rfl) (qe_lst qa_nil))
    (qss_cons (qs_forR1 (vs := [3]) PassesOwn.never rfl (by rfl) z_range (qa_cons (qe_op od_add qe_int (qe_fn C_law_pick hr (by rfl) (qa_cons (qv 1) (qa_cons (qv 0) (qa_cons qe_int qa_nil))))) qa_nil) (qg_name (i := 3) sc_law.nd rfl (by first | exact Or.inl rfl | exact Or.inr rfl) (by decide))
    (qss_one (qs_expr (qe_bm md_append PySem.F.plainAttrs_list PySem.F.slot_list_append PySem.F.type_list_append (qv 2) (qa_cons (qe_tup (qa_cons qe_str (qa_cons (qe_fn C_law_expression hr (by rfl) (qa_cons (qv 1) (qa_cons (qv 0) (qa_cons qe_int qa_nil)))) qa_nil))) qa_nil)))))
    (qss_cons (qs_set (i := 4) sc_law.nd rfl (by first | exact Or.inl rfl | exact Or.inr rfl) (qe_tup (qa_cons (qe_tup qa_nil) (qa_cons (qe_tup (qa_cons (qe_tup (qa_cons (qe_fn C_law_name hr (by rfl) (qa_cons (qv 1) (qa_cons (qv 0) qa_nil))) (qa_cons (qe_tup qa_nil) (qa_cons (qe_tup (qa_cons qe_str qa_nil)) (qa_cons (qe_tup qa_nil) (qa_cons (qe_callTy cd_tuple (by rfl) z_tuple PyProof.Rows.boot_tuple (qa_cons (qv 2) qa_nil)) qa_nil)))))) qa_nil)) qa_nil))))
    (qss_cons (qs_set (i := 5) sc_law.nd rfl (by first | exact Or.inl rfl | exact Or.inr rfl) (qe_fn C_write_program hr (by rfl) (qa_cons (qv 4) qa_nil)))
    (qss_one (qs_ret (qe_and (qe_callB (cd_isi) (by rfl) z_isinstance PyProof.Rows.boot_isinstance (qa_cons (qv 5) (qa_cons (qe_type (by rfl) z_str PyProof.Rows.boot_str) qa_nil))) (qe_one (qe_cmp (od_eq hr.units) (qv 5) (qe_fn C_law_text hr (by rfl) (qa_cons (qv 4) qa_nil)) (nomark _))))))))))))
local macro_rules | `(tactic| one_place) => `(tactic| first
  | assumption | (apply Ne.symm; assumption) | exact neA (by assumption) (by assumption) | exact (neA (by assumption) (by assumption)).symm | fail)
local macro_rules | `(tactic| lcg_src) => `(tactic| first
  | assumption | exact put_same | (refine Eq.trans (put_ne ?_) ?_; one_place; lcg_src) | fail)
local macro_rules | `(tactic| one_sign) => `(tactic| first
  | omega | (simp only [List.length_cons, List.length_nil, List.length_append, List.length_map, List.length_take]; omega) | (simp only [PySem.sizeLine_eq, List.length_cons, List.length_nil, List.length_append, List.length_map, List.length_take]; omega)
  | exact szA (by first | assumption | exact Pl.one (by assumption) | exact plLit (n := 100) (by decide +kernel) (by decide +kernel)) (by first | assumption | exact Pl.one (by assumption) | exact plLit (n := 100) (by decide +kernel) (by decide +kernel)) (by omega)
  | exact Or.inr ⟨by omega, by omega⟩ | exact Or.inl ⟨by omega, by omega⟩
  | exact ⟨by decide, by decide, by decide⟩
  | exact wide_div (b := 64) (by omega) (by omega) (by decide) (by decide) | decide)
local macro_rules | `(tactic| got_up) => `(tactic| first
  | rfl | assumption | exact atI_nat (by assumption) | exact atI_int (by first | assumption | omega) (by first | assumption | (simp only [List.length_map] at *; omega)))
local macro_rules | `(tactic| lcg_sub) => `(tactic| first
  | with_reducible refine s_seqA ?_ | with_reducible refine s_seqD ?_ | with_reducible refine s_seqIR ?_ | with_reducible refine s_seqIS ?_ | with_reducible refine s_seqISS ?_ | with_reducible refine s_forR1 ?_ | with_reducible refine s_forR2 ?_ | with_reducible refine s_forS ?_ | with_reducible refine r_FST ?_ | with_reducible refine r_FSR ?_ | ((with_reducible refine' r_FSL ?h1 ?h2); (case h1 => lcg_src)) | with_reducible refine s_lcS ?_ | with_reducible refine r_CST ?_ | with_reducible refine r_CSR ?_ | ((with_reducible refine' r_CSL ?h1 ?h2); (case h1 => lcg_src)) | with_reducible refine s_lcR1 ?_ | with_reducible refine s_bm ?_ | with_reducible refine s_asg ?_ | with_reducible refine s_if ?_ | with_reducible refine s_ret ?_ | with_reducible refine s_drop ?_ | with_reducible refine s_next ?_
  | with_reducible refine s_name ?_ | (refine' s_var ?h1 ?h2; (case h1 => rfl)) | with_reducible refine s_c ?_ | with_reducible refine s_op ?_ | with_reducible refine s_cb ?_ | with_reducible refine s_call ?_
  | with_reducible refine s_nil ?_ | with_reducible refine s_cons ?_ | with_reducible refine s_ifE ?_ | with_reducible refine s_andV ?_ | with_reducible refine s_orV ?_ | with_reducible refine s_notV ?_
  | with_reducible refine s_B ?_ | with_reducible refine s_and ?_ | with_reducible refine s_or ?_ | with_reducible refine s_not ?_ | with_reducible refine s_tru ?_ | with_reducible refine s_yes ?_ | with_reducible refine s_truB ?_ | with_reducible refine s_truT ?_
  | with_reducible refine s_chain ?_ | with_reducible refine s_gsub ?_ | with_reducible refine s_sl ?_ | with_reducible refine s_opn ?_ | with_reducible refine s_ops ?_
  | with_reducible refine s_tup ?_ | with_reducible refine s_lst ?_
  | (refine ⟨(by first | exact Nat.zero_le _ | (show _ ≤ sizeLine; (try simp only [List.length_cons, List.length_nil]); decide)), ?_⟩)
  | with_reducible refine' r_addI ?_ | with_reducible refine' r_sub ?_ | with_reducible refine' r_lt ?_ | with_reducible refine' r_le ?_ | with_reducible refine' r_gt ?_ | with_reducible refine' r_ge ?_
  | with_reducible refine' r_eqI ?_ | with_reducible refine' r_eqS ?_ | with_reducible refine' r_neI ?_ | with_reducible refine' r_neS ?_ | with_reducible refine' r_eqIS ?_ | with_reducible refine' r_eqSI ?_
  | ((with_reducible refine' r_mul ?h1 ?h2); (case h1 => one_sign)) | ((with_reducible refine' r_mod ?h1 ?h2); (case h1 => one_sign)) | ((with_reducible refine' r_fdiv ?h1 ?h2); (case h1 => one_sign)) | ((with_reducible refine' r_pow ?h1 ?h2); (case h1 => one_sign))
  | ((with_reducible refine' r_addT ?h1 ?h2); (case h1 => one_sign)) | ((with_reducible refine' r_addS ?h1 ?h2); (case h1 => one_sign)) | ((with_reducible refine' r_addL ?h1 ?h2 ?h3 ?h4); (case h1 => lcg_src); (case h2 => lcg_src); (case h3 => one_sign))
  | ((with_reducible refine' r_ixT ?h1 ?h2); (case h1 => got_up)) | ((with_reducible refine' r_ixL ?h1 ?h2 ?h3); (case h1 => lcg_src); (case h2 => got_up)) | ((with_reducible refine' r_ixR ?h1 ?h2); (case h1 => got_up))
  | with_reducible refine' r_lenT ?_ | ((with_reducible refine' r_lenL ?h1 ?h2); (case h1 => lcg_src)) | with_reducible refine' r_lenR ?_ | ((with_reducible refine' r_lenS ?h1 ?h2); (case h1 => one_sign))
  | with_reducible refine' r_int ?_ | with_reducible refine' r_abs ?_ | ((with_reducible refine' r_tupL ?h1 ?h2); (case h1 => lcg_src)) | with_reducible refine' r_tupR ?_ | with_reducible refine' r_tupT ?_
  | ((with_reducible refine' r_app ?h1 ?h2 ?h3); (case h1 => lcg_src); (case h2 => one_sign); (try simp only [put_put]); try rw [put_swap (by one_place)])
  | ((refine' ⟨r_isl ?h1, ?h2⟩); (case h1 => lcg_src))
  | ((with_reducible refine' r_inL ?h1 ?h2); (case h1 => lcg_src)) | with_reducible refine' r_inT ?_ | ((with_reducible refine' r_ninL ?h1 ?h2); (case h1 => lcg_src))
  | ((with_reducible refine' r_set ?h1 ?h2 ?h3); (case h1 => lcg_src); (case h2 => first | rfl | decide); try simp only [put_put, List.set_cons_zero, List.set_cons_succ, Int.reduceToNat])
  | with_reducible refine ite_nt ?_ | with_reducible refine ite_nf ?_ | with_reducible refine ite_t ?_ | with_reducible refine ite_f ?_
  | with_reducible refine iteD (fun _ => ?_) (fun _ => ?_) | with_reducible refine iteN (fun _ => ?_) (fun _ => ?_))
local macro_rules | `(tactic| lcg_sub) => `(tactic| (with_reducible refine s_new (fun p hp => ?_); (try simp only [put_none] at hp); (repeat' (rename _ ∧ _ => hA; obtain ⟨_, _⟩ := hA))))
local macro_rules | `(tactic| lcg_sub) => `(tactic| ((with_reducible refine' use_pick2 ?h1 ?h2 ?h3 ?h4 ?h5); (case h1 => lcg_src); (case h2 => first | assumption | exact S4.Ok.d (by assumption) _); (case h3 => one_sign); (case h4 => one_sign); intro _ _ _ _ _ _; try simp only [put_put]))
local macro_rules | `(tactic| one_item) => `(tactic| (intro x o h; simp only [put] at h ⊢; grind))
local macro_rules | `(tactic| lcg_off) => `(tactic| repeat' (lcg_sub; try dsimp only [List.set_cons_zero, List.set_cons_succ]))
local macro_rules | `(tactic| lcg_sub) => `(tactic| ((with_reducible refine' r_is ?h1 ?h2 ?h3); (case h1 => rfl); (case h2 => first | exact kt_NoneType_bool | exact kt_NoneType_int | exact kt_NoneType_str | exact kt_NoneType_tuple | exact kt_NoneType_list | exact kt_bool_bool | exact kt_bool_int | exact kt_bool_str | exact kt_bool_tuple | exact kt_bool_list | exact kt_int_bool | exact kt_int_int | exact kt_int_str | exact kt_int_tuple | exact kt_int_list | exact kt_str_bool | exact kt_str_int | exact kt_str_str | exact kt_str_tuple | exact kt_str_list | exact kt_tuple_bool | exact kt_tuple_int | exact kt_tuple_str | exact kt_tuple_tuple | exact kt_tuple_list | exact kt_list_bool | exact kt_list_int | exact kt_list_str | exact kt_list_tuple | exact kt_list_list)))
local macro_rules | `(tactic| lcg_sub) => `(tactic| with_reducible refine r_eqB ?_)
local macro_rules | `(tactic| lcg_sub) => `(tactic| first | ((with_reducible refine r_slT ?_); try simp only [cut_to]) | ((with_reducible refine' r_slS ?h1 ?h2); (case h1 => one_sign)) | ((with_reducible refine' r_slL ?h1 ?h2); (case h1 => lcg_src); try simp only [cut_to]) | (with_reducible refine r_slR ?_; try simp only [cut_to]))
local macro_rules | `(tactic| lcg_sub) => `(tactic| first
  | ((with_reducible refine' r_inT' ?h1 ?h2); (case h1 => rfl)) | ((with_reducible refine' r_inL' ?h1 ?h2 ?h3); (case h1 => lcg_src); (case h2 => rfl)) | ((with_reducible refine' r_ninT' ?h1 ?h2); (case h1 => rfl)) | ((with_reducible refine' r_ninL' ?h1 ?h2 ?h3); (case h1 => lcg_src); (case h2 => rfl))
  | ((with_reducible refine' iteDT ?h1 ?h2); (case h1 => decide +kernel)) | ((with_reducible refine' iteDF ?h1 ?h2); (case h1 => decide +kernel)) | ((with_reducible refine' iteNT ?h1 ?h2); (case h1 => decide +kernel)) | ((with_reducible refine' iteNF ?h1 ?h2); (case h1 => decide +kernel)) | fail)
local macro_rules | `(tactic| top_strB) => `(tactic| repeat' ((first | lcg_sub | with_reducible refine s_seq ?_); try dsimp only [List.set_cons_zero, List.set_cons_succ]))

section
variable {t u v : TDE} {sd : DS} {m : M} {P : DK} {D' : DEnds} {tl tk : TDA} {d : DSp} {na nb : Nat}
def rDGetP (x y : D) (m2 : M) (P : DK) : Prop := ∃ a kvs k d, x = .ref a ∧ y = kD k ∧ m2 a = some (.dct kvs) ∧ valD kvs k = some d ∧ P d m2
theorem s_dget (h : t sd m fun x m1 => u sd m1 fun y m2 => rDGetP x y m2 P) : dDGet t u sd m P := h
theorem r_dget {a : Addr} {kvs : List (Key × D)} {z : Str} {e : D} (h : m a = some (.dct kvs)) (hv : valD kvs (.inr z) = some e) (q : P e m) : rDGetP (.ref a) (.str z) m P := ⟨a, kvs, .inr z, e, rfl, rfl, h, hv, q⟩
theorem s_un {r : R1D} (h : t sd m fun x m1 => r x m1 P) : dUn r t sd m P := h
theorem r_neg {i : Int} (q : P (.int (-i)) m) : rNegD (.int i) m P := q
theorem r_inK {a : Addr} {kvs : List (Key × D)} {z : Str} (h : m a = some (.dct kvs)) (q : P (.bl (valD kvs (.inr z)).isSome) m) : rInK (.str z) (.ref a) m P := ⟨a, kvs, .inr z, rfl, rfl, h, q⟩
theorem r_ninK {a : Addr} {kvs : List (Key × D)} {z : Str} (h : m a = some (.dct kvs)) (q : P (.bl (!(valD kvs (.inr z)).isSome)) m) : rNotInK (.str z) (.ref a) m P := ⟨a, kvs, .inr z, rfl, rfl, h, q⟩
theorem s_callK (h : tl sd m fun xs m1 => tk sd m1 fun ys m2 => xs.length = na ∧ ys.length = nb ∧ d (xs ++ ys) m2 P noX) : dCallK d na nb tl tk sd m P := h
theorem s_isN (h : t sd m fun x m1 => P (.bl (nonB x)) m1) : dIsN t sd m P := h
theorem s_notN (h : t sd m fun x m1 => P (.bl (!nonB x)) m1) : dNotN t sd m P := h
theorem r_and3 {A B C : Prop} (a : A) (b : B) (c : C) : A ∧ B ∧ C := ⟨a, b, c⟩
theorem s_gtup {ys : List D} {gs : TDGs} {n : Nat} {Q : DS → M → Prop} (hl : ys.length = n) (h : gs ys sd m Q) : dGTup n gs (.tup ys) sd m Q := ⟨ys, rfl, hl, h⟩
theorem s_gcons {t : TDG} {u : TDGs} {d : D} {r : List D} {Q : DS → M → Prop} (h : t d sd m fun sd' m' => u r sd' m' Q) : dGCons t u (d :: r) sd m Q := ⟨d, r, rfl, h⟩
theorem s_gnil {Q : DS → M → Prop} (h : Q sd m) : dGNil [] sd m Q := ⟨rfl, h⟩
end
local macro_rules | `(tactic| lcg_sub) => `(tactic| first
  | with_reducible refine s_dget ?_ | with_reducible refine s_un ?_ | with_reducible refine r_neg ?_ | ((with_reducible refine' r_dget ?h1 ?h2 ?h3); (case h1 => lcg_src); (case h2 => assumption)) | with_reducible refine s_callK ?_ | with_reducible refine s_isN ?_ | with_reducible refine s_notN ?_
  | ((with_reducible refine' r_inK ?h1 ?h2); (case h1 => lcg_src)) | ((with_reducible refine' r_ninK ?h1 ?h2); (case h1 => lcg_src))
  | ((with_reducible refine' s_gtup ?h1 ?h2); (case h1 => rfl)) | with_reducible refine s_gcons ?_ | with_reducible refine s_gnil ?_)
theorem r_listT {xs : List D} {m : M} {P : DK} (q : ∀ l, m l = none → P (.ref l) (put m l (.lst xs))) : rList [.tup xs] m P := q
theorem r_listR {xs : List D} {m : M} {P : DK} (q : ∀ l, m l = none → P (.ref l) (put m l (.lst xs))) : rList [.rol xs] m P := ⟨xs, rfl, q⟩
theorem r_listL {xs : List D} {a : Addr} {m : M} {P : DK} (h : m a = some (.lst xs)) (q : ∀ l, m l = none → P (.ref l) (put m l (.lst xs))) : rList [.ref a] m P := ⟨xs, h, q⟩
local macro_rules | `(tactic| lcg_sub) => `(tactic| first | with_reducible refine r_listT ?_ | with_reducible refine r_listR ?_ | ((with_reducible refine' r_listL ?h1 ?h2); (case h1 => lcg_src)))
def crD : Option Nat → D
  | none => .non
  | some k => .int k
theorem iteNonT {x : D} {A B : Prop} (h : nonB x = true) (q : A) : if nonB x = true then A else B := by rw [if_pos h]; exact q
theorem iteNonF {x : D} {A B : Prop} (h : nonB x = false) (q : B) : if nonB x = true then A else B := by rw [if_neg (by rw [h]; decide)]; exact q
theorem iteNNonT {x : D} {A B : Prop} (h : nonB x = true) (q : B) : if (!nonB x) = true then A else B := by rw [if_neg (by rw [h]; decide)]; exact q
theorem iteNNonF {x : D} {A B : Prop} (h : nonB x = false) (q : A) : if (!nonB x) = true then A else B := by rw [if_pos (by rw [h]; decide)]; exact q
local macro_rules | `(tactic| lcg_sub) => `(tactic| first | ((with_reducible refine' iteNonT ?h1 ?h2); (case h1 => rfl)) | ((with_reducible refine' iteNonF ?h1 ?h2); (case h1 => rfl)) | ((with_reducible refine' iteNNonT ?h1 ?h2); (case h1 => rfl)) | ((with_reducible refine' iteNNonF ?h1 ?h2); (case h1 => rfl)) | fail)
theorem r_neB {a b : Bool} {m : M} {P : DK} (q : P (.bl (!decide (a = b))) m) : rNeD (.bl a) (.bl b) m P := q
theorem r_neBs {a : Bool} {m : M} {P : DK} (q : P (.bl false) m) : rNeD (.bl a) (.bl a) m P := by
  show P (.bl (!decide (a = a))) m
  rw [decide_eq_true rfl]; exact q
local macro_rules | `(tactic| lcg_sub) => `(tactic| first | with_reducible refine r_neBs ?_ | with_reducible refine r_neB ?_)

section
variable {t u v : TDE} {sd : DS} {m : M} {P : DK} {D' : DEnds} {tl tk : TDA} {d : DSp} {xs ys : List D} {a b : Addr}
theorem s_augX {i : Nat} {r : R2D} {x : D} (h : sd[i]? = some (some x)) (q : t sd m fun y m1 => r x y m1 fun z m2 => D'.nx (sd.set i (some z)) m2) : dAug i t r D' sd m := ⟨x, h, q⟩
theorem s_seqAug {i : Nat} {r : R2D} {w : TDS} {x : D} (h : sd[i]? = some (some x)) (q : t sd m fun y m1 => r x y m1 fun z m2 => w D' (sd.set i (some z)) m2) : dSeq (dAug i t r) w D' sd m := s_seq ⟨x, h, q⟩
theorem r_joinT {z : Str} {zs : List Str} (h : (zs.map (·.length)).sum + zs.length * z.length ≤ 16777216) (q : P (.str (Str.join z zs)) m) : rJoin (.str z) [.tup (zs.map D.str)] m P := ⟨zs, .inl rfl, h, q⟩
theorem r_joinL {z : Str} {zs : List Str} (hm : m a = some (.lst (zs.map D.str))) (h : (zs.map (·.length)).sum + zs.length * z.length ≤ 16777216) (q : P (.str (Str.join z zs)) m) : rJoin (.str z) [.ref a] m P := ⟨zs, .inr hm, h, q⟩
theorem r_joinL' {z : Str} {zs : List Str} {ds : List D} (hm : m a = some (.lst ds)) (e : strsOf ds = some zs) (h : (zs.map (·.length)).sum + zs.length * z.length ≤ 16777216) (q : P (.str (Str.join z zs)) m) : rJoin (.str z) [.ref a] m P := by
  rw [strsOf_eq e] at hm; exact r_joinL hm h q
theorem r_isT {z : Str} : isTxt (.str z) m := trivial
theorem s_isT {z : Str} {Q : Prop} (q : Q) : isTxt (.str z) m ∧ Q := ⟨trivial, q⟩
theorem r_ext (h1 : m a = some (.lst xs)) (h2 : m b = some (.lst ys)) (h : xs.length + ys.length ≤ sizeLine) (q : P .non (put m a (.lst (xs ++ ys)))) : rExt (.ref a) [.ref b] m P := ⟨xs, ys, h1, h2, h, q⟩
theorem r_iaddL (h1 : m a = some (.lst xs)) (h2 : m b = some (.lst ys)) (h : xs.length + ys.length ≤ sizeLine) (q : P (.ref a) (put m a (.lst (xs ++ ys)))) : rIAdd (.ref a) (.ref b) m P := ⟨xs, ys, h1, h2, h, q⟩
theorem r_iaddS {z w : Str} (h : z.length + w.length ≤ sizeLine) (q : P (.str (z ++ w)) m) : rIAdd (.str z) (.str w) m P := ⟨h, q⟩
theorem r_mulS {z : Str} {n : Int} (h : MulOk z n) (q : P (.str (Txt.mul z n)) m) : rMulS (.str z) (.int n) m P := ⟨h, q⟩
theorem r_min2 {i j : Int} (q : P (.int (if j < i then j else i)) m) : rMin2 [.int i, .int j] m P := q
theorem r_inKM {z : Str} {o : Option Str} {ks : List (Str × Option Str)} (h : (z, o) ∈ ks) (q : P (.bl o.isSome) m) : rInKM a ks (.str z) (.ref a) m P := ⟨z, o, rfl, rfl, h, q⟩
theorem r_getKM {z w : Str} {ks : List (Str × Option Str)} (h : (z, some w) ∈ ks) (q : P (.str w) m) : rGetKM a ks (.ref a) (.str z) m P := ⟨z, w, rfl, rfl, h, q⟩
theorem r_intB {b : Bool} (q : P (.int (if b then 1 else 0)) m) : rInt [.bl b] m P := q
end
local macro_rules | `(tactic| lcg_sub) => `(tactic| first
  | ((with_reducible refine' s_augX ?h1 ?h2); (case h1 => rfl)) | ((with_reducible refine' s_seqAug ?h1 ?h2); (case h1 => rfl))
  | with_reducible refine s_isT ?_ | ((with_reducible refine' r_ext ?h1 ?h2 ?h3 ?h4); (case h1 => lcg_src); (case h2 => lcg_src); (case h3 => one_sign); (try simp only [put_put]))
  | ((with_reducible refine' r_iaddL ?h1 ?h2 ?h3 ?h4); (case h1 => lcg_src); (case h2 => lcg_src); (case h3 => one_sign); (try simp only [put_put]))
  | ((with_reducible refine' r_iaddS ?h1 ?h2); (case h1 => one_sign))
  | with_reducible refine r_min2 ?_ | with_reducible refine r_intB ?_
  | fail)

theorem len_pick : ∀ ds m P EX, sp_law_pick ds m P EX → ds.length = 3 := by
  rintro ds m P EX ⟨st, ns, many, s, rfl, _⟩; rfl
theorem rd_pick : ∀ ds m P EX, sp_law_pick ds m P EX → Go P b_law_pick (dstart ["state", "script", "many", "number", "place", "cell"] ds) m := by
  rintro ds m P EX ⟨st, ns, many, ⟨a, b, c, d⟩, rfl, hs, ⟨ha, hc, hc1⟩, h0, h1, q⟩
  show b_law_pick { nx := fun _ m' => Ret P .non m', rt := Ret P } [some (.ref st), some (.rol (ns.map D.int)), some (.int many), none, none, none] m
  dsimp only at ha hc hc1
  unfold b_law_pick
  have big : ∀ x : Int, 0 ≤ x % many ∧ x % many < many := fun x => ⟨Int.emod_nonneg _ (by omega), Int.emod_lt_of_pos _ h0⟩
  top_strB
  all_goals refine ⟨_, Less.refl _, q _ ⟨_, _, _, _⟩ (big _).1 (big _).2 ⟨?_, ?_, ?_⟩ rfl⟩
  all_goals dsimp only
  all_goals omega

/-! ### texts -/
theorem sapp_assoc (a b c : Str) : a ++ b ++ c = a ++ (b ++ c) := by
  show Str.mk (a.cps ++ b.cps ++ c.cps) = Str.mk (a.cps ++ (b.cps ++ c.cps))
  rw [Array.append_assoc]
theorem snil : (("" : Str)) = Str.empty := by decide +kernel
theorem snil_app (a : Str) : ("" : Str) ++ a = a := by
  rw [snil]
  show Str.mk (#[] ++ a.cps) = a
  rw [Array.empty_append]
theorem sapp_nil (a : Str) : a ++ ("" : Str) = a := by
  rw [snil]
  show Str.mk (a.cps ++ #[]) = a
  rw [Array.append_empty]
theorem slen_app (a b : Str) : (a ++ b).length = a.length + b.length := Array.size_append
def lawWords : List Str := ["and", "bool", "box", "do", "else", "false", "fn", "from", "if", "int", "is", "let", "maybe", "mut", "none", "not", "or", "print", "record", "return", "some", "swap", "true", "unbox", "unit", "while", "with"]
def puncA : List Str := [",", ";", ":", ".", "?", "^", ")", "]", "["]
def puncB : List Str := [".", "(", "[", "&"]
def letS : Str := "abcdefghijklmnopqrstuvwxyzABCDEFGHIJKLMNOPQRSTUVWXYZ"
def headN (z : Str) : Option Nat := z.cps.toList.head?
def named (z : Str) : Bool := (match headN z with | some c => decide (c ∈ letS.cps.toList) | none => false) && !decide (z ∈ lawWords)
def gapL (p n : Str) : Str := if n ∈ puncA ∨ p ∈ puncB then "" else if n = "(" ∧ named p = true then "" else " "
def lineGo : Str → List Str → Str
  | _, [] => ""
  | p, t :: r => gapL p t ++ (t ++ lineGo t r)
def lineL : List Str → Str
  | [] => ""
  | t :: r => t ++ lineGo t r
def wt (ts : List Str) : Nat := (ts.map fun t => t.length + 1).sum
theorem wt_app (a b : List Str) : wt (a ++ b) = wt a + wt b := by unfold wt; rw [List.map_append, List.sum_append]
theorem wt_cons (t : Str) (b : List Str) : wt (t :: b) = t.length + 1 + wt b := by unfold wt; rw [List.map_cons, List.sum_cons]
theorem wt_nil : wt [] = 0 := rfl
theorem wt_len (ts : List Str) : ts.length ≤ wt ts := by
  induction ts with
  | nil => exact Nat.le_refl _
  | cons t r ih => rw [wt_cons, List.length_cons]; omega
theorem gapA {p n : Str} (h : n ∈ puncA) : gapL p n = "" := by unfold gapL; rw [if_pos (.inl h)]
theorem gapB {p n : Str} (h : p ∈ puncB) : gapL p n = "" := by unfold gapL; rw [if_pos (.inr h)]
theorem gapN {p : Str} (h : named p = true) : gapL p "(" = "" := by
  unfold gapL
  split
  · rfl
  · rw [if_pos ⟨rfl, h⟩]
theorem gapS {p n : Str} (h1 : n ∉ puncA) (h2 : p ∉ puncB) (h3 : n ≠ "(" ∨ named p = false) : gapL p n = " " := by
  unfold gapL
  rw [if_neg (fun h => h.elim h1 h2), if_neg]
  rintro ⟨a, b⟩
  rcases h3 with h3 | h3
  · exact h3 a
  · rw [h3] at b; cases b
theorem gap_len (p n : Str) : (gapL p n).length ≤ 1 := by
  unfold gapL
  split
  · decide +kernel
  · split <;> decide +kernel
theorem lineGo_len : ∀ (p : Str) (ts : List Str), (lineGo p ts).length ≤ wt ts
  | _, [] => by rw [lineGo]; decide +kernel
  | p, t :: r => by
    rw [lineGo, slen_app, slen_app, wt_cons]
    have := gap_len p t
    have := lineGo_len t r
    omega
theorem lineL_len : ∀ (ts : List Str), (lineL ts).length ≤ wt ts
  | [] => by rw [lineL]; decide +kernel
  | t :: r => by
    rw [lineL, slen_app, wt_cons]
    have := lineGo_len t r
    omega
/-- a row of tokens with the first h and the last l, and its text x -/
structure Ph (ts : List Str) (h l x : Str) : Prop where
  go : ∀ p rest, lineGo p (ts ++ rest) = gapL p h ++ (x ++ lineGo l rest)
theorem Ph.one (t : Str) : Ph [t] t t t := ⟨fun p rest => by rw [List.singleton_append, lineGo]⟩
theorem Ph.app {ts us : List Str} {h l x h' l' y g : Str} (a : Ph ts h l x) (b : Ph us h' l' y) (e : gapL l h' = g) : Ph (ts ++ us) h l' (x ++ (g ++ y)) := ⟨fun p rest => by
  rw [List.append_assoc, a.go, b.go, e]
  simp only [sapp_assoc]⟩
theorem Ph.is {ts us : List Str} {h l x y : Str} (a : Ph ts h l x) (e : x = y) (e2 : ts = us) : Ph us h l y := by subst e; subst e2; exact a
theorem Ph.line {ts : List Str} {h l x : Str} (a : Ph ts h l x) : lineL ts = x := by
  have e := a.go "(" []
  rw [List.append_nil, gapB (by decide +kernel), snil_app, lineGo, sapp_nil] at e
  rw [← e]
  cases ts with
  | nil => rfl
  | cons t r => rw [lineGo, gapB (by decide +kernel), snil_app, lineL]
theorem Ph.len {ts : List Str} {h l x : Str} (a : Ph ts h l x) : x.length ≤ wt ts := by rw [← a.line]; exact lineL_len ts
/-- .. that stands behind a comma and ahead of one -/
def PhK (ts : List Str) (x : Str) : Prop := ∃ h l, Ph ts h l x ∧ h ∉ puncA ∧ l ∉ puncB
theorem PhK.len {ts : List Str} {x : Str} (a : PhK ts x) : x.length ≤ wt ts := by obtain ⟨_, _, a, _⟩ := a; exact a.len
/-- rows with commas between them -/
def rowsJ : List (List Str) → List Str
  | [] => []
  | [r] => r
  | r :: q :: rs => r ++ ("," : Str) :: rowsJ (q :: rs)
theorem rowsJ_cons (r : List Str) {rs : List (List Str)} (h : rs ≠ []) : rowsJ (r :: rs) = r ++ ("," : Str) :: rowsJ rs := by
  cases rs with
  | nil => exact absurd rfl h
  | cons q rs => rfl
theorem rowsJ_snoc : ∀ (rs : List (List Str)) (r : List Str), rs ≠ [] → rowsJ (rs ++ [r]) = rowsJ rs ++ ("," : Str) :: r
  | [], _, h => absurd rfl h
  | [q], r, _ => rfl
  | q :: p :: rs, r, _ => by
    show rowsJ (q :: ((p :: rs) ++ [r])) = _
    rw [rowsJ_cons q (by simp), rowsJ_snoc (p :: rs) r (by simp), rowsJ_cons q (by simp), List.append_assoc]
    rfl
theorem wt_rowsJ : ∀ (rs : List (List Str)), wt (rowsJ rs) ≤ (rs.map fun r => wt r + 2).sum
  | [] => Nat.le_refl _
  | [r] => by rw [rowsJ]; simp
  | r :: q :: rs => by
    have e : (("," : Str)).length = 1 := by decide +kernel
    rw [rowsJ_cons r (by simp), wt_app, wt_cons, List.map_cons, List.sum_cons, e]
    have := wt_rowsJ (q :: rs)
    omega
theorem sum_le {α : Type} {f : α → Nat} {n : Nat} : ∀ {xs : List α}, (∀ x ∈ xs, f x ≤ n) → (xs.map f).sum ≤ xs.length * n
  | [], _ => Nat.zero_le _
  | x :: xs, h => by
    rw [List.map_cons, List.sum_cons, List.length_cons, Nat.add_mul, Nat.one_mul]
    have := h x List.mem_cons_self
    have := sum_le (f := f) fun y hy => h y (List.mem_cons_of_mem _ hy)
    omega
theorem sjoin_cons (s x : Str) {ys : List Str} (h : ys ≠ []) : Str.join s (x :: ys) = x ++ (s ++ Str.join s ys) := by
  cases ys with
  | nil => exact absurd rfl h
  | cons y ys => rw [Str.join, sapp_assoc]; simp
theorem comma2 : ((", " : Str)) = ("," : Str) ++ (" " : Str) := by decide +kernel
theorem comma_no : named "," = false := by decide +kernel
theorem comma_nB : ("," : Str) ∉ puncB := by decide +kernel
theorem comma_A : ("," : Str) ∈ puncA := by decide +kernel
theorem PhK.join : ∀ {ps : List (List Str × Str)}, ps ≠ [] → (∀ q ∈ ps, PhK q.1 q.2) → PhK (rowsJ (ps.map (·.1))) (Str.join ", " (ps.map (·.2)))
  | [], h, _ => absurd rfl h
  | [q], _, h => h q List.mem_cons_self
  | q :: r :: ps, _, h => by
    obtain ⟨h1, l1, a1, n1, m1⟩ := h q List.mem_cons_self
    obtain ⟨h2, l2, a2, n2, m2⟩ := PhK.join (ps := r :: ps) (by simp) fun y hy => h y (List.mem_cons_of_mem _ hy)
    refine ⟨h1, l2, ((a1.app (Ph.one ",") (gapA comma_A)).app a2 (gapS n2 comma_nB (.inr comma_no))).is ?_ ?_, n1, m2⟩
    · rw [List.map_cons (l := r :: ps), sjoin_cons _ _ (by simp), comma2, snil_app]
      simp only [sapp_assoc]
    · rw [List.map_cons (l := r :: ps), rowsJ_cons _ (by simp), List.append_assoc, List.singleton_append]

/-! ### names -/
structure NameOk (z : Str) : Prop where
  len : z.length ≤ 22
  hd : ∃ c, headN z = some c ∧ c ∈ letS.cps.toList
  nw : z ∉ lawWords
theorem no_head {l : List Str} (hl : l.all (fun w => match headN w with | some c => !decide (c ∈ letS.cps.toList) | none => true) = true) {z : Str} (h : NameOk z) : z ∉ l := fun hm => by
  obtain ⟨c, e, hc⟩ := h.hd
  have := List.all_eq_true.mp hl z hm
  rw [e] at this
  simp only [Bool.not_eq_true', decide_eq_false_iff_not] at this
  exact this hc
theorem NameOk.nA {z : Str} (h : NameOk z) : z ∉ puncA := no_head (by decide +kernel) h
theorem NameOk.nB {z : Str} (h : NameOk z) : z ∉ puncB := no_head (by decide +kernel) h
theorem NameOk.nP {z : Str} (h : NameOk z) : z ≠ "(" := fun e => no_head (l := ["("]) (by decide +kernel) h (by rw [e]; exact List.mem_cons_self)
theorem NameOk.named {z : Str} (h : NameOk z) : named z = true := by
  obtain ⟨c, e, hc⟩ := h.hd
  unfold Q4.named
  rw [e, decide_eq_false h.nw]
  show (decide (c ∈ letS.cps.toList) && !false) = true
  rw [decide_eq_true hc]
  rfl
theorem NameOk.phk {z : Str} (h : NameOk z) : PhK [z] z := ⟨z, z, Ph.one z, h.nA, h.nB⟩
theorem NameOk.cs {z : Str} (h : NameOk z) : ∃ c, z.cps.toList.head? = some c ∧ 0 < z.length := by
  obtain ⟨c, e, _⟩ := h.hd
  refine ⟨c, e, ?_⟩
  unfold headN at e
  have : z.cps.toList ≠ [] := fun q => by rw [q] at e; cases e
  show 0 < z.cps.size
  rw [← Array.length_toList]
  exact List.length_pos_iff.mpr this

theorem strAtP {p : Nat → Bool} {z : Str} {n : Nat} {r : Int} (hn : z.cps.toList.length = n) (h : z.cps.toList.all p = true) (h0 : 0 ≤ r) (h1 : r < n) : ∃ c, atI z.cps.toList r = some c ∧ p c = true := by
  obtain ⟨j, rfl⟩ : ∃ j : Nat, r = j := ⟨r.toNat, by omega⟩
  have hl : j < z.cps.toList.length := by omega
  exact ⟨z.cps.toList[j], atI_nat (List.getElem?_eq_getElem hl), List.all_eq_true.mp h _ (List.getElem_mem hl)⟩
/-- a word under way: its first sign is a letter -/
structure Wd (z : Str) (n : Nat) (lo : Bool) : Prop where
  len : z.length ≤ n
  hd : ∃ c, headN z = some c ∧ c ∈ letS.cps.toList ∧ (lo = false → c < 97)
theorem head_app {z w : Str} {c : Nat} (h : headN z = some c) : headN (z ++ w) = some c := by
  unfold headN at h ⊢
  have e : (z ++ w).cps.toList = z.cps.toList ++ w.cps.toList := Array.toList_append
  rw [e, List.head?_append, h]
  rfl
theorem Wd.app {z w : Str} {n k : Nat} {lo : Bool} (h : Wd z n lo) (hw : w.length ≤ k) : Wd (z ++ w) (n + k) lo := by
  obtain ⟨c, h1, h2⟩ := h.hd
  exact ⟨by rw [slen_app]; have := h.len; omega, c, head_app h1, h2⟩
theorem Wd.mono {z : Str} {n k : Nat} {lo : Bool} (h : Wd z n lo) (e : n ≤ k) : Wd z k lo := ⟨Nat.le_trans h.len e, h.hd⟩
theorem Wd.one {c : Nat} {lo : Bool} (h : c ∈ letS.cps.toList ∧ (lo = false → c < 97)) : Wd ⟨#[c]⟩ 1 lo := ⟨Nat.le_refl _, c, rfl, h⟩
theorem one_lenE (c : Nat) : Str.length ⟨#[c]⟩ = 1 := rfl
theorem us_len : (("_" : Str)).length = 1 := by decide +kernel
theorem one_len (c : Nat) : Str.length ⟨#[c]⟩ ≤ 1 := Nat.le_refl _
theorem words_lo : lawWords.all (fun w => match headN w with | some c => decide (97 ≤ c) | none => false) = true := by decide +kernel
theorem words_end : lawWords.all (fun w => !decide (w.cps.toList.getLast? = some 95)) = true := by decide +kernel
theorem Wd.big {z : Str} {n : Nat} (h : Wd z n false) (e : n ≤ 22) : NameOk z := by
  obtain ⟨c, h1, h2, h3⟩ := h.hd
  refine ⟨Nat.le_trans h.len e, ⟨c, h1, h2⟩, fun hm => ?_⟩
  have := List.all_eq_true.mp words_lo z hm
  rw [h1] at this
  have := of_decide_eq_true this
  have := h3 rfl
  omega
theorem Wd.us {z : Str} {n : Nat} (h : Wd z n true) (e : n ≤ 21) : NameOk (z ++ ("_" : Str)) := by
  obtain ⟨c, h1, h2, _⟩ := h.hd
  refine ⟨by rw [slen_app, us_len]; have := h.len; omega, ⟨c, head_app h1, h2⟩, fun hm => ?_⟩
  have := List.all_eq_true.mp words_end _ hm
  have e2 : (z ++ ("_" : Str)).cps.toList = z.cps.toList ++ [95] := by
    show (z.cps ++ (("_" : Str)).cps).toList = _
    rw [Array.toList_append]
    have : (("_" : Str)).cps.toList = [95] := by decide +kernel
    rw [this]
  rw [e2, List.getLast?_append] at this
  simp at this
theorem Wd.ok {z : Str} {n : Nat} {lo : Bool} (h : Wd z n lo) (e : n ≤ 22) (hw : z ∉ lawWords) : NameOk z := by
  obtain ⟨c, h1, h2, _⟩ := h.hd
  exact ⟨Nat.le_trans h.len e, ⟨c, h1, h2⟩, hw⟩
def sp_law_words : DSp := fun ds m P _ => ds = [] ∧ ∀ p, m p = none → P (.ref p) (put m p (.lst (lawWords.map D.str)))
theorem rd_words : ∀ ds m P EX, sp_law_words ds m P EX → Go P b_law_words (dstart ["words"] ds) m := by
  rintro ds m P EX ⟨rfl, q⟩
  show b_law_words { nx := fun _ m' => Ret P .non m', rt := Ret P } [none] m
  unfold b_law_words
  lcg_off
  simp only [lawWords, List.map_cons, List.map_nil] at q
  simp only [List.cons_append, List.nil_append]
  refine ⟨_, ?_, q _ (by assumption)⟩
  one_item
theorem use_words {m : M} {P : DK} (q : ∀ p, m p = none → P (.ref p) (put m p (.lst (lawWords.map D.str)))) : sp_law_words [] m P noX := ⟨rfl, q⟩
local macro_rules | `(tactic| lcg_sub) => `(tactic| with_reducible refine use_words ?_)
def sp_law_name : DSp := fun ds m P _ => ∃ st ns s, ds = [.ref st, .rol (List.map D.int ns)] ∧ m st = some (S4.D s) ∧ s.Ok ∧
  ∀ z s', NameOk z → S4.Ok s' → s'.d = s.d → P (.str z) (put m st s'.D)
def sp_law_big : DSp := fun ds m P _ => ∃ st ns s, ds = [.ref st, .rol (List.map D.int ns)] ∧ m st = some (S4.D s) ∧ s.Ok ∧
  ∀ z s', NameOk z → S4.Ok s' → s'.d = s.d → P (.str z) (put m st s'.D)
local macro_rules | `(tactic| one_sign) => `(tactic| first
  | (rename Wd _ _ _ => hW; have hA := hW.len; have hC := PySem.sizeLine_eq; (with_reducible show Str.length _ + Str.length ⟨#[_]⟩ ≤ _); have hB := one_len 0; simp only [one_lenE]; omega)
  | (rename Wd _ _ _ => hW; have hA := hW.len; have hC := PySem.sizeLine_eq; have hB := us_len; omega) | fail)
theorem rd_name : ∀ ds m P EX, sp_law_name ds m P EX → Go P (b_law_name sp_law_pick sp_law_words) (dstart ["state", "script", "letters", "chars", "size", "word", "k"] ds) m := by
  rintro ds m P EX ⟨st, ns, s, rfl, hs, ho, q⟩
  show b_law_name sp_law_pick sp_law_words { nx := fun _ m' => Ret P .non m', rt := Ret P } [some (.ref st), some (.rol (List.map D.int ns)), none, none, none, none, none] m
  unfold b_law_name
  lcg_off
  refine s_cut (fun sd m' => ∃ (k : Int) (s' : S4), sd = [some (.ref st), some (.rol (List.map D.int ns)), some (.str "abcdefghijklmnopqrstuvwxyz"), some (.str (Str.ofString "abcdefghijklmnopqrstuvwxyz" ++ Str.ofString "0123456789_")), some (.int k), none, none] ∧ m' = put m st s'.D ∧ s'.Ok ∧ s'.d = s.d ∧ 1 ≤ k ∧ k ≤ 20) ?_ ?_
  · lcg_off
    · exact ⟨_, Less.refl _, _, _, rfl, rfl, ‹_›, by omega, by omega, by omega⟩
    · exact ⟨_, Less.refl _, _, _, rfl, rfl, ‹_›, by omega, by omega, by omega⟩
  · rintro _ _ ⟨k, s1, rfl, rfl, o1, g1, hk1, hk2⟩
    lcg_off
    rename_i r s2 h1 h2 o2 d2
    obtain ⟨c, hc, hc2⟩ := strAtP (p := fun c => decide (c ∈ letS.cps.toList)) (z := "abcdefghijklmnopqrstuvwxyz") (n := 26) (by decide +kernel) (by decide +kernel) h1 h2
    refine ⟨c, hc, ?_⟩
    lcg_off
    refine s_seq ?_
    lcg_off
    refine ⟨⟨by omega, by omega⟩, fun i sd m' => ∃ (z : Str) (kk : Option D) (s' : S4), sd = [some (.ref st), some (.rol (List.map D.int ns)), some (.str "abcdefghijklmnopqrstuvwxyz"), some (.str (Str.ofString "abcdefghijklmnopqrstuvwxyz" ++ Str.ofString "0123456789_")), some (.int k), some (.str z), kk] ∧ m' = put m st s'.D ∧ s'.Ok ∧ s'.d = s.d ∧ Wd z (i + 1) true, ⟨_, _, s2, rfl, rfl, o2, by omega, Wd.one ⟨of_decide_eq_true hc2, fun h => by cases h⟩⟩, ?_, ?_⟩
    · rintro i _ _ hi ⟨z, kk, s3, rfl, rfl, o3, g3, pz⟩
      lcg_off
      rename_i r s4 h3 h4 o4 d4
      obtain ⟨c2, hd, hd2⟩ := strAt (z := Str.ofString "abcdefghijklmnopqrstuvwxyz" ++ Str.ofString "0123456789_") (n := 37) (by decide +kernel) (by decide +kernel) h3 h4
      refine ⟨c2, hd, ?_⟩
      lcg_off
      exact ⟨_, Less.refl _, _, _, s4, rfl, rfl, o4, by omega, pz.app (one_len c2)⟩
    · rintro _ _ ⟨z, kk, s3, rfl, rfl, o3, g3, pz⟩
      lcg_off
      · refine ⟨_, ?_, q _ s3 (pz.us (by omega)) o3 g3⟩
        one_item
      · refine ⟨_, ?_, q _ s3 (pz.ok (by omega) ‹_›) o3 g3⟩
        one_item
theorem rd_big : ∀ ds m P EX, sp_law_big ds m P EX → Go P (b_law_big sp_law_pick) (dstart ["state", "script", "letters", "chars", "size", "word", "k"] ds) m := by
  rintro ds m P EX ⟨st, ns, s, rfl, hs, ho, q⟩
  show b_law_big sp_law_pick { nx := fun _ m' => Ret P .non m', rt := Ret P } [some (.ref st), some (.rol (List.map D.int ns)), none, none, none, none, none] m
  unfold b_law_big
  lcg_off
  refine s_cut (fun sd m' => ∃ (k : Int) (s' : S4), sd = [some (.ref st), some (.rol (List.map D.int ns)), some (.str "ABCDEFGHIJKLMNOPQRSTUVWXYZ"), some (.str (Str.ofString "ABCDEFGHIJKLMNOPQRSTUVWXYZ" ++ Str.ofString "abcdefghijklmnopqrstuvwxyz0123456789")), some (.int k), none, none] ∧ m' = put m st s'.D ∧ s'.Ok ∧ s'.d = s.d ∧ 1 ≤ k ∧ k ≤ 20) ?_ ?_
  · lcg_off
    · exact ⟨_, Less.refl _, _, _, rfl, rfl, ‹_›, by omega, by omega, by omega⟩
    · exact ⟨_, Less.refl _, _, _, rfl, rfl, ‹_›, by omega, by omega, by omega⟩
  · rintro _ _ ⟨k, s1, rfl, rfl, o1, g1, hk1, hk2⟩
    lcg_off
    rename_i r s2 h1 h2 o2 d2
    obtain ⟨c, hc, hc2⟩ := strAtP (p := fun c => decide (c ∈ letS.cps.toList) && decide (c < 97)) (z := "ABCDEFGHIJKLMNOPQRSTUVWXYZ") (n := 26) (by decide +kernel) (by decide +kernel) h1 h2
    rw [Bool.and_eq_true] at hc2
    refine ⟨c, hc, ?_⟩
    lcg_off
    refine s_seq ?_
    lcg_off
    refine ⟨⟨by omega, by omega⟩, fun i sd m' => ∃ (z : Str) (kk : Option D) (s' : S4), sd = [some (.ref st), some (.rol (List.map D.int ns)), some (.str "ABCDEFGHIJKLMNOPQRSTUVWXYZ"), some (.str (Str.ofString "ABCDEFGHIJKLMNOPQRSTUVWXYZ" ++ Str.ofString "abcdefghijklmnopqrstuvwxyz0123456789")), some (.int k), some (.str z), kk] ∧ m' = put m st s'.D ∧ s'.Ok ∧ s'.d = s.d ∧ Wd z (i + 1) false, ⟨_, _, s2, rfl, rfl, o2, by omega, Wd.one ⟨of_decide_eq_true hc2.1, fun _ => of_decide_eq_true hc2.2⟩⟩, ?_, ?_⟩
    · rintro i _ _ hi ⟨z, kk, s3, rfl, rfl, o3, g3, pz⟩
      lcg_off
      rename_i r s4 h3 h4 o4 d4
      obtain ⟨c2, hd, hd2⟩ := strAt (z := Str.ofString "ABCDEFGHIJKLMNOPQRSTUVWXYZ" ++ Str.ofString "abcdefghijklmnopqrstuvwxyz0123456789") (n := 62) (by decide +kernel) (by decide +kernel) h3 h4
      refine ⟨c2, hd, ?_⟩
      lcg_off
      exact ⟨_, Less.refl _, _, _, s4, rfl, rfl, o4, by omega, pz.app (one_len c2)⟩
    · rintro _ _ ⟨z, kk, s3, rfl, rfl, o3, g3, pz⟩
      lcg_off
      exact ⟨_, Less.refl _, q _ s3 (pz.big (by omega)) o3 g3⟩
theorem use_name {st : Addr} {ns : List Int} {a b c d : Int} {m : M} {P : DK} (h : m st = some (.lst [.int a, .int b, .int c, .int d])) (o : S4.Ok ⟨a, b, c, d⟩) (q : ∀ z s', NameOk z → S4.Ok s' → s'.d = d → P (.str z) (put m st s'.D)) :
    sp_law_name [.ref st, .rol (List.map D.int ns)] m P noX := ⟨st, ns, ⟨a, b, c, d⟩, rfl, h, o, q⟩
theorem use_big {st : Addr} {ns : List Int} {a b c d : Int} {m : M} {P : DK} (h : m st = some (.lst [.int a, .int b, .int c, .int d])) (o : S4.Ok ⟨a, b, c, d⟩) (q : ∀ z s', NameOk z → S4.Ok s' → s'.d = d → P (.str z) (put m st s'.D)) :
    sp_law_big [.ref st, .rol (List.map D.int ns)] m P noX := ⟨st, ns, ⟨a, b, c, d⟩, rfl, h, o, q⟩
local macro_rules | `(tactic| lcg_sub) => `(tactic| first
  | ((with_reducible refine' use_name ?h1 ?h2 ?h3); (case h1 => lcg_src); (case h2 => first | assumption | exact S4.Ok.d (by assumption) _); intro _ _ _ _ _; try simp only [put_put])
  | ((with_reducible refine' use_big ?h1 ?h2 ?h3); (case h1 => lcg_src); (case h2 => first | assumption | exact S4.Ok.d (by assumption) _); intro _ _ _ _ _; try simp only [put_put]) | fail)

/-! ### kinds -/
inductive Kd where
  | int | bool | unit | box (k : Kd) | maybe (k : Kd) | tup (ks : List Kd) | rcd (n : Str) | shared (k : Kd) | excl (k : Kd)
mutual
def Kd.D : Kd → D
  | .int => .tup [.str "int"]
  | .bool => .tup [.str "bool"]
  | .unit => .tup [.str "unit"]
  | .box k => .tup [.str "box", k.D]
  | .maybe k => .tup [.str "maybe", k.D]
  | .tup ks => .tup [.str "tuple", .tup (Kd.Ds ks)]
  | .rcd n => .tup [.str "record", .str n]
  | .shared k => .tup [.str "shared", k.D]
  | .excl k => .tup [.str "exclusive", k.D]
def Kd.Ds : List Kd → List D
  | [] => []
  | k :: ks => k.D :: Kd.Ds ks
end
theorem Kd.Ds_map : ∀ ks : List Kd, Kd.Ds ks = ks.map Kd.D
  | [] => rfl
  | k :: ks => by rw [Kd.Ds, Kd.Ds_map ks]; rfl
theorem Kd.D_tup (ks : List Kd) : (Kd.tup ks).D = .tup [.str "tuple", .tup (ks.map Kd.D)] := by rw [Kd.D, Kd.Ds_map]
/-! its text -/
mutual
def kT : Kd → Str
  | .int => "int"
  | .bool => "bool"
  | .unit => "unit"
  | .box k => ("box" : Str) ++ (" " : Str) ++ kT k
  | .maybe k => ("maybe" : Str) ++ (" " : Str) ++ kT k
  | .tup ks => ("(" : Str) ++ Str.join ", " (kTs ks) ++ (")" : Str)
  | .rcd n => n
  | .shared k => ("&" : Str) ++ kT k
  | .excl k => ("&mut " : Str) ++ kT k
def kTs : List Kd → List Str
  | [] => []
  | k :: ks => kT k :: kTs ks
end
theorem kTs_map : ∀ ks : List Kd, kTs ks = ks.map kT
  | [] => rfl
  | k :: ks => by rw [kTs, kTs_map ks]; rfl
/-! its tokens -/
mutual
def kR : Kd → List Str
  | .int => ["int"]
  | .bool => ["bool"]
  | .unit => ["unit"]
  | .box k => ("box" : Str) :: kR k
  | .maybe k => ("maybe" : Str) :: kR k
  | .tup ks => ("(" : Str) :: (rowsJ (kRs ks) ++ [(")" : Str)])
  | .rcd n => [n]
  | .shared k => ("&" : Str) :: kR k
  | .excl k => ("&mut" : Str) :: kR k
def kRs : List Kd → List (List Str)
  | [] => []
  | k :: ks => kR k :: kRs ks
end
theorem kRs_map : ∀ ks : List Kd, kRs ks = ks.map kR
  | [] => rfl
  | k :: ks => by rw [kRs, kRs_map ks]; rfl
/-- as the law draws them -/
inductive WT : Nat → Kd → Prop where
  | int (n) : WT (n + 1) .int
  | bool (n) : WT (n + 1) .bool
  | unit (n) : WT (n + 1) .unit
  | box {n k} : WT n k → WT (n + 1) (.box k)
  | maybe {n k} : WT n k → WT (n + 1) (.maybe k)
  | tup {n ks} : ks ≠ [] → ks.length ≤ 6 → (∀ k ∈ ks, WT (min n 2) k) → WT (n + 1) (.tup ks)
  | rcd (n) {z} : NameOk z → WT (n + 1) (.rcd z)
  | shared {n k} : WT n k → WT (n + 1) (.shared k)
  | excl {n k} : WT n k → WT (n + 1) (.excl k)
theorem WT.mono : ∀ {n m : Nat} {k : Kd}, WT n k → n ≤ m → WT m k
  | _, m + 1, _, .int n, _ => .int m
  | _, m + 1, _, .bool n, _ => .bool m
  | _, m + 1, _, .unit n, _ => .unit m
  | _, m + 1, _, .box h, e => .box (h.mono (Nat.le_of_succ_le_succ e))
  | _, m + 1, _, .maybe h, e => .maybe (h.mono (Nat.le_of_succ_le_succ e))
  | n + 1, m + 1, _, .tup h1 h2 h, e => .tup h1 h2 fun k hk => (h k hk).mono (by omega)
  | _, m + 1, _, .rcd n h, _ => .rcd m h
  | _, m + 1, _, .shared h, e => .shared (h.mono (Nat.le_of_succ_le_succ e))
  | _, m + 1, _, .excl h, e => .excl (h.mono (Nat.le_of_succ_le_succ e))
  | _ + 1, 0, _, _, e => absurd e (by omega)
theorem WT.tupI {n : Nat} {ks : List Kd} (h : WT (n + 1) (.tup ks)) : ks ≠ [] ∧ ks.length ≤ 6 ∧ ∀ k ∈ ks, WT n k := by
  cases h with
  | tup h1 h2 h => exact ⟨h1, h2, fun k hk => (h k hk).mono (by omega)⟩
theorem phk_pre {t ts x y : _} {g : Str} (h : PhK ts x) (hA : t ∉ puncA) (e : ∀ h, h ∉ puncA → gapL t h = g) (ey : t ++ (g ++ x) = y) : PhK (t :: ts) y := by
  obtain ⟨h1, l1, a, n, m⟩ := h
  exact ⟨t, l1, ((Ph.one t).app a (e h1 n)).is ey rfl, hA, m⟩
theorem phk_word {t : Str} {ts : List Str} {x : Str} (h : PhK ts x) (hA : t ∉ puncA) (hB : t ∉ puncB) (hn : named t = false) : PhK (t :: ts) (t ++ ((" " : Str) ++ x)) :=
  phk_pre h hA (fun h n => gapS n hB (.inr hn)) rfl
theorem phk_one {t : Str} (hA : t ∉ puncA) (hB : t ∉ puncB) : PhK [t] t := ⟨t, t, Ph.one t, hA, hB⟩
theorem phk_par {ts : List Str} {x : Str} (h : PhK ts x) : PhK (("(" : Str) :: (ts ++ [(")" : Str)])) (("(" : Str) ++ x ++ (")" : Str)) := by
  obtain ⟨h1, l1, a, n, m⟩ := h
  refine ⟨"(", ")", ((Ph.one "(").app (a.app (Ph.one ")") (gapA (by decide +kernel))) (gapB (by decide +kernel))).is ?_ rfl, by decide +kernel, by decide +kernel⟩
  simp only [snil_app, sapp_assoc]
theorem mut2 : (("&mut " : Str)) = ("&mut" : Str) ++ (" " : Str) := by decide +kernel
theorem WT.phk : ∀ {n : Nat} {k : Kd}, WT n k → PhK (kR k) (kT k)
  | _, _, .int n => by rw [kR, kT]; exact phk_one (by decide +kernel) (by decide +kernel)
  | _, _, .bool n => by rw [kR, kT]; exact phk_one (by decide +kernel) (by decide +kernel)
  | _, _, .unit n => by rw [kR, kT]; exact phk_one (by decide +kernel) (by decide +kernel)
  | _, _, .rcd n h => by rw [kR, kT]; exact h.phk
  | _, _, .box h => by rw [kR, kT, sapp_assoc]; exact phk_word h.phk (by decide +kernel) (by decide +kernel) (by decide +kernel)
  | _, _, .maybe h => by rw [kR, kT, sapp_assoc]; exact phk_word h.phk (by decide +kernel) (by decide +kernel) (by decide +kernel)
  | _, _, .excl h => by rw [kR, kT, mut2, sapp_assoc]; exact phk_word h.phk (by decide +kernel) (by decide +kernel) (by decide +kernel)
  | _, _, .shared h => by rw [kR, kT]; exact phk_pre h.phk (by decide +kernel) (fun _ _ => gapB (by decide +kernel)) (by rw [snil_app])
  | _, _, .tup (ks := ks) h1 h2 h => by
    rw [kR, kT, kRs_map, kTs_map]
    refine phk_par ?_
    have q : ∀ j ∈ ks, PhK (kR j) (kT j) := fun j hj => (h j hj).phk
    have := PhK.join (ps := ks.map fun j => (kR j, kT j)) (by simpa using h1) fun p hp => by
      obtain ⟨j, hj, e⟩ := List.mem_map.mp hp
      subst e
      exact q j hj
    rw [List.map_map, List.map_map] at this
    exact this
theorem one_wt {t : Str} {n : Nat} (h : t.length + 1 ≤ n) : wt [t] ≤ n := by rw [wt_cons, wt_nil]; exact h
theorem wtl (z : Str) {n : Nat} (h : z.length ≤ n) (ts : List Str) : wt (z :: ts) ≤ n + 1 + wt ts := by rw [wt_cons]; omega
theorem WT.wt1 : ∀ {k : Kd}, WT 1 k → wt (kR k) ≤ 23
  | _, .int _ => by rw [kR]; exact one_wt (by decide +kernel)
  | _, .bool _ => by rw [kR]; exact one_wt (by decide +kernel)
  | _, .unit _ => by rw [kR]; exact one_wt (by decide +kernel)
  | _, .rcd _ h => by rw [kR]; exact one_wt (by have := h.len; omega)
  | _, .tup h1 h2 h => by
    rename_i ks
    cases ks with
    | nil => exact absurd rfl h1
    | cons k ks => exact nomatch h k List.mem_cons_self
theorem wt_tup {ks : List Kd} {c : Nat} (h2 : ks.length ≤ 6) (h : ∀ k ∈ ks, wt (kR k) ≤ c) : wt (kR (.tup ks)) ≤ 4 + 6 * (c + 2) := by
  rw [kR, kRs_map, wt_cons, wt_app]
  have a := wt_rowsJ (ks.map kR)
  rw [List.map_map] at a
  have b := sum_le (f := (fun r => wt r + 2) ∘ kR) (n := c + 2) (xs := ks) fun k hk => Nat.add_le_add_right (h k hk) 2
  have d : ks.length * (c + 2) ≤ 6 * (c + 2) := Nat.mul_le_mul_right _ h2
  have e1 : (("(" : Str)).length = 1 := by decide +kernel
  have e2 : wt [(")" : Str)] = 2 := by decide +kernel
  rw [e1, e2]
  omega
theorem WT.wt2 : ∀ {n : Nat} {k : Kd}, n ≤ 2 → WT n k → wt (kR k) ≤ 154
  | 1, _, _, h => Nat.le_trans h.wt1 (by decide)
  | 2, _, _, .int _ => by rw [kR]; exact one_wt (by decide +kernel)
  | 2, _, _, .bool _ => by rw [kR]; exact one_wt (by decide +kernel)
  | 2, _, _, .unit _ => by rw [kR]; exact one_wt (by decide +kernel)
  | 2, _, _, .rcd _ h => by rw [kR]; exact one_wt (by have := h.len; omega)
  | 2, _, _, .box h => by rw [kR]; have := h.wt1; exact Nat.le_trans (wtl "box" (n := 5) (by decide +kernel) _) (by omega)
  | 2, _, _, .maybe h => by rw [kR]; have := h.wt1; exact Nat.le_trans (wtl "maybe" (n := 5) (by decide +kernel) _) (by omega)
  | 2, _, _, .shared h => by rw [kR]; have := h.wt1; exact Nat.le_trans (wtl "&" (n := 5) (by decide +kernel) _) (by omega)
  | 2, _, _, .excl h => by rw [kR]; have := h.wt1; exact Nat.le_trans (wtl "&mut" (n := 5) (by decide +kernel) _) (by omega)
  | 2, _, _, .tup h1 h2 h => wt_tup h2 fun k hk => (h k hk).wt1
theorem WT.wt : ∀ {n : Nat} {k : Kd}, WT n k → wt (kR k) ≤ 940 + 6 * n
  | _, _, .int _ => by rw [kR]; exact Nat.le_trans (one_wt (n := 5) (by decide +kernel)) (by omega)
  | _, _, .bool _ => by rw [kR]; exact Nat.le_trans (one_wt (n := 5) (by decide +kernel)) (by omega)
  | _, _, .unit _ => by rw [kR]; exact Nat.le_trans (one_wt (n := 5) (by decide +kernel)) (by omega)
  | _, _, .rcd _ h => by rw [kR]; exact one_wt (by have := h.len; omega)
  | _, _, .box h => by rw [kR]; have := h.wt; exact Nat.le_trans (wtl "box" (n := 5) (by decide +kernel) _) (by omega)
  | _, _, .maybe h => by rw [kR]; have := h.wt; exact Nat.le_trans (wtl "maybe" (n := 5) (by decide +kernel) _) (by omega)
  | _, _, .shared h => by rw [kR]; have := h.wt; exact Nat.le_trans (wtl "&" (n := 5) (by decide +kernel) _) (by omega)
  | _, _, .excl h => by rw [kR]; have := h.wt; exact Nat.le_trans (wtl "&mut" (n := 5) (by decide +kernel) _) (by omega)
  | _, _, .tup h1 h2 h => Nat.le_trans (wt_tup (c := 154) h2 fun k hk => (h k hk).wt2 (by omega)) (by omega)
def sp_law_tree_kind (n : Nat) : DSp := fun ds m P _ => ∃ st ns s, ∃ r : Int, ds = [.ref st, .rol (List.map D.int ns), .int r] ∧ m st = some (S4.D s) ∧ s.Ok ∧ 1 ≤ r ∧ r ≤ n ∧ n ≤ 1000 ∧
  ∀ k s', WT r.toNat k → S4.Ok s' → s'.d = s.d → P (Kd.D k) (put m st s'.D)
theorem use_tkind {n : Nat} {st : Addr} {ns : List Int} {a bb c d : Int} {m : M} {P : DK} {r : Int} (h : m st = some (.lst [.int a, .int bb, .int c, .int d])) (o : S4.Ok ⟨a, bb, c, d⟩) (h1 : 1 ≤ r) (h2 : r ≤ n) (h3 : n ≤ 1000)
    (q : ∀ k s', WT r.toNat k → S4.Ok s' → s'.d = d → P (Kd.D k) (put m st s'.D)) : sp_law_tree_kind n [.ref st, .rol (List.map D.int ns), .int r] m P noX := ⟨st, ns, ⟨a, bb, c, d⟩, r, rfl, h, o, h1, h2, h3, q⟩
local macro_rules | `(tactic| lcg_sub) => `(tactic| ((with_reducible refine' use_tkind ?h1 ?h2 ?h3 ?h4 ?h5 ?h6); (case h1 => lcg_src); (case h2 => first | assumption | exact S4.Ok.d (by assumption) _); (case h3 => first | omega | decide | (split <;> omega)); (case h4 => first | omega | decide | (split <;> omega)); (case h5 => first | omega | decide); intro _ _ _ _ _; try simp only [put_put]))
theorem rd_tkind (n : Nat) : ∀ ds m P EX, sp_law_tree_kind (n + 1) ds m P EX → Go P (b_law_tree_kind sp_law_pick (sp_law_tree_kind n) sp_law_big) (dstart ["state", "script", "room", "choice", "items", "k"] ds) m := by
  rintro ds m P EX ⟨st, ns, s, r, rfl, hs, ho, h1, h2, h3, q⟩
  show b_law_tree_kind sp_law_pick (sp_law_tree_kind n) sp_law_big { nx := fun _ m' => Ret P .non m', rt := Ret P } [some (.ref st), some (.rol (List.map D.int ns)), some (.int r), none, none, none] m
  unfold b_law_tree_kind
  obtain ⟨j, rfl⟩ : ∃ j : Nat, r = j := ⟨r.toNat, by omega⟩
  have ej : (j : Int).toNat = ((j : Int) - 1).toNat + 1 := by omega
  rw [ej] at q
  lcg_off
  · rename_i c s1 g0 g1 o1 d1 _ _ _ p _ _
    refine s_seq ?_
    lcg_off
    rename_i t s2 t0 t1 o2 d2
    refine ⟨⟨by omega, by omega⟩, fun i sd m' => ∃ (ks : List Kd) (kk : Option D) (s' : S4), sd = [some (.ref st), some (.rol (List.map D.int ns)), some (.int j), some (.int c), some (.ref p), kk] ∧ m' = put (put m p (.lst (ks.map Kd.D))) st s'.D ∧ s'.Ok ∧ s'.d = s.d ∧ ks.length = i ∧ ∀ k ∈ ks, WT (min ((j : Int) - 1).toNat 2) k,
      ⟨[], _, s2, rfl, by rw [put_comm ‹p ≠ st›, put_put, put_comm (Ne.symm ‹p ≠ st›)]; rfl, o2, by omega, rfl, fun _ h => by simp at h⟩, ?_, ?_⟩
    · rintro i _ _ hi ⟨ks, kk, s3, rfl, rfl, o3, g3, hl, hk⟩
      lcg_off
      rename_i k s4 hk4 o4 d4
      refine ⟨_, Less.refl _, ks ++ [k], _, s4, rfl, ?_, o4, by omega, by simp [hl], ?_⟩
      · simp only [List.map_append, List.map_cons, List.map_nil]
      · intro x hx
        rcases List.mem_append.mp hx with h | h
        · exact hk x h
        · rw [List.mem_singleton] at h; subst h
          refine hk4.mono ?_
          split <;> omega
    · rintro _ _ ⟨ks, kk, s3, rfl, rfl, o3, g3, hl, hk⟩
      lcg_off
      refine ⟨put m st s3.D, ?_, ?_⟩
      · one_item
      · have := q (.tup ks) s3 (.tup (by intro e; subst e; simp at hl; omega) (by omega) hk) o3 g3
        rw [Kd.D_tup] at this
        exact this
  · rename_i c s1 g0 g1 o1 d1 _ _ _ p _ _
    have hc : c % 4 = 0 ∨ c % 4 = 1 ∨ c % 4 = 2 ∨ c % 4 = 3 := by omega
    rcases hc with hc | hc | hc | hc
    all_goals rw [hc]
    all_goals lcg_off
    all_goals rename_i k s2 hk o2 d2
    · exact ⟨put m st s2.D, by one_item, q (.box k) s2 (.box hk) o2 (by omega)⟩
    · exact ⟨put m st s2.D, by one_item, q (.maybe k) s2 (.maybe hk) o2 (by omega)⟩
    · exact ⟨put m st s2.D, by one_item, q (.shared k) s2 (.shared hk) o2 (by omega)⟩
    · exact ⟨put m st s2.D, by one_item, q (.excl k) s2 (.excl hk) o2 (by omega)⟩
  all_goals first
    | (rename_i z s2 hz o2 d2; exact ⟨_, Less.refl _, q (.rcd z) s2 (.rcd _ hz) o2 (by omega)⟩)
    | (rename_i c s1 g0 g1 o1 d1 _ _ _ p _ _
       have hc : c % 3 = 0 ∨ c % 3 = 1 ∨ c % 3 = 2 := by omega
       rcases hc with hc | hc | hc
       all_goals rw [hc]
       all_goals lcg_off
       all_goals (first | exact ⟨put m st s1.D, by one_item, q .int s1 (.int _) o1 (by omega)⟩ | exact ⟨put m st s1.D, by one_item, q .bool s1 (.bool _) o1 (by omega)⟩ | exact ⟨put m st s1.D, by one_item, q .unit s1 (.unit _) o1 (by omega)⟩ | fail))
    | (rename_i c s1 g0 g1 o1 d1 _ _ p _ _
       have hc : c % 3 = 0 ∨ c % 3 = 1 ∨ c % 3 = 2 := by omega
       rcases hc with hc | hc | hc
       all_goals rw [hc]
       all_goals lcg_off
       all_goals (first | exact ⟨put m st s1.D, by one_item, q .int s1 (.int _) o1 (by omega)⟩ | exact ⟨put m st s1.D, by one_item, q .bool s1 (.bool _) o1 (by omega)⟩ | exact ⟨put m st s1.D, by one_item, q .unit s1 (.unit _) o1 (by omega)⟩ | fail))
theorem rec_tkind {P : Program} {w : World} {K : PySem.W.Frag} {mg : Str → Option Value} (F : FunAt K mg "_law_tree_kind" s_law_tree_kind ["state", "script", "room"]) (C : Callee P w K mg 1 "_law_pick" ["state", "script", "many"] sp_law_pick) (B : Callee P w K mg 2 "_law_big" ["state", "script"] sp_law_big) (zm : mg "min" = none) (zr : mg "range" = none) (zi : mg "int" = none) (zt : mg "tuple" = none) :
    ∀ n : Nat, Callee P w K mg (n + 2) "_law_tree_kind" ["state", "script", "room"] (sp_law_tree_kind n)
  | 0 => F.none fun ds m P EX h => by obtain ⟨_, _, _, _, _, _, _, h1, h2, _⟩ := h; omega
  | n + 1 => ok_law_tree_kind F (C.mono (by omega)) (rec_tkind F C B zm zr zi zt n) (B.mono (by omega)) zm zr zt zi (by rintro ds m P EX ⟨_, _, _, _, rfl, _⟩; rfl) (rd_tkind n)

theorem sjoin0_app : ∀ (xs ys : List Str), Str.join "" (xs ++ ys) = Str.join "" xs ++ Str.join "" ys
  | [], ys => by
    rw [List.nil_append]
    have : Str.join "" [] = ("" : Str) := by decide +kernel
    rw [this, snil_app]
  | x :: xs, ys => by
    by_cases h : xs = []
    · subst h
      have e : Str.join "" [x] = x := rfl
      rw [e]
      by_cases h2 : ys = []
      · subst h2
        have : Str.join "" [] = ("" : Str) := by decide +kernel
        rw [List.append_nil, this, sapp_nil]; rfl
      · rw [List.singleton_append, sjoin_cons _ _ h2, snil_app]
    · rw [List.cons_append, sjoin_cons _ _ (by simp [h]), sjoin_cons _ _ h, sjoin0_app xs ys, snil_app, snil_app, sapp_assoc]

/-! ### rows of tokens -/
def OkT (ts : List Str) : Prop := ∀ t ∈ ts, 0 < t.length
theorem OkT.cons {t : Str} {ts : List Str} (h : 0 < t.length) (r : OkT ts) : OkT (t :: ts) := fun x hx => by
  rcases List.mem_cons.mp hx with q | q
  · rw [q]; exact h
  · exact r x q
theorem OkT.nil : OkT [] := fun _ h => by cases h
theorem OkT.app {a b : List Str} (h : OkT a) (h' : OkT b) : OkT (a ++ b) := fun x hx => (List.mem_append.mp hx).elim (h x) (h' x)
theorem OkT.one {t : Str} (h : 0 < t.length) : OkT [t] := .cons h .nil
theorem OkT.joined : ∀ {rs : List (List Str)}, (∀ r ∈ rs, OkT r) → OkT (rowsJ rs)
  | [], _ => .nil
  | [r], h => h r List.mem_cons_self
  | r :: q :: rs, h => by
    rw [rowsJ_cons r (by simp)]
    exact (h r List.mem_cons_self).app (.cons (by decide +kernel) (OkT.joined fun x hx => h x (List.mem_cons_of_mem _ hx)))
theorem NameOk.pos {z : Str} (h : NameOk z) : 0 < z.length := by obtain ⟨_, _, q⟩ := h.cs; exact q

theorem WT.okt : ∀ {n : Nat} {k : Kd}, WT n k → OkT (kR k)
  | _, _, .int n => by rw [kR]; exact .one (by decide +kernel)
  | _, _, .bool n => by rw [kR]; exact .one (by decide +kernel)
  | _, _, .unit n => by rw [kR]; exact .one (by decide +kernel)
  | _, _, .rcd n h => by rw [kR]; exact .one h.pos
  | _, _, .box h => by rw [kR]; exact .cons (by decide +kernel) h.okt
  | _, _, .maybe h => by rw [kR]; exact .cons (by decide +kernel) h.okt
  | _, _, .excl h => by rw [kR]; exact .cons (by decide +kernel) h.okt
  | _, _, .shared h => by rw [kR]; exact .cons (by decide +kernel) h.okt
  | _, _, .tup (ks := ks) h1 h2 h => by
    rw [kR, kRs_map]
    have q : ∀ j ∈ ks, OkT (kR j) := fun j hj => (h j hj).okt
    exact .cons (by decide +kernel) ((OkT.joined fun r hr => by obtain ⟨j, hj, e⟩ := List.mem_map.mp hr; subst e; exact q j hj).app (.one (by decide +kernel)))

/-! ### texts of numbers -/
def numT (i : Int) : Str := toString i
structure NumOk (t : Str) : Prop where
  hd : ∃ c, headN t = some c ∧ (48 ≤ c ∧ c ≤ 57 ∨ c = 45)
  len : t.length ≤ 11
theorem numT_nat {m : Nat} (h : m < 10 ^ 10) : NumOk (numT (m : Int)) ∧ (numT (m : Int)).length ≤ 10 := by
  have e : numT (m : Int) = ⟨((Nat.toDigits 10 m).map Char.toNat).toArray⟩ := PyProof.Rows.text_ofNat m
  have l1 := PyProof.Rows.digits10_le (k := 10) (by decide) h
  have l2 := PyProof.Rows.tDigits_len_ge 10 m
  have el : (numT (m : Int)).length ≤ 10 := by
    rw [e]
    show ((Nat.toDigits 10 m).map Char.toNat).toArray.size ≤ 10
    rw [List.size_toArray, List.length_map]
    exact l1
  refine ⟨⟨?_, by omega⟩, el⟩
  rw [e]
  unfold headN
  cases hd : Nat.toDigits 10 m with
  | nil => rw [hd] at l2; simp at l2
  | cons c r =>
    refine ⟨c.toNat, rfl, .inl ?_⟩
    have := Nat.isDigit_of_mem_toDigits (b := 10) (n := m) (c := c) (by decide) (by decide) (by rw [hd]; exact List.mem_cons_self)
    unfold Char.isDigit at this
    rw [Bool.and_eq_true, decide_eq_true_eq, decide_eq_true_eq] at this
    exact this
theorem numT_neg (m : Nat) : numT (Int.negSucc m) = ("-" : Str) ++ numT ((m + 1 : Nat) : Int) := by
  show Str.ofString (toString (Int.negSucc m)) = Str.ofString "-" ++ Str.ofString (toString ((m + 1 : Nat) : Int))
  have e : toString (Int.negSucc m) = "-" ++ Nat.repr (m + 1) := rfl
  have e2 : toString ((m + 1 : Nat) : Int) = Nat.repr (m + 1) := rfl
  rw [e, e2, Str.ofString_eq_toList, Str.ofString_eq_toList, Str.ofString_eq_toList]
  show Str.mk _ = Str.mk (_ ++ _)
  congr 1
  simp
theorem numT_ok {i : Int} (h1 : -2147483648 ≤ i) (h2 : i ≤ 2147483648) : NumOk (numT i) := by
  cases i with
  | ofNat m => exact (numT_nat (m := m) (by have : (Int.ofNat m) ≤ 2147483648 := h2; have : (m : Int) ≤ 2147483648 := this; omega)).1
  | negSucc m =>
    rw [numT_neg]
    have hm : m + 1 ≤ 2147483648 := by omega
    have := (numT_nat (m := m + 1) (by omega)).2
    have e : (("-" : Str)).length = 1 := by decide +kernel
    refine ⟨⟨45, head_app (by decide +kernel), .inr rfl⟩, ?_⟩
    rw [slen_app, e]
    omega
theorem NumOk.no {t : Str} (h : NumOk t) {l : List Str} (hl : l.all (fun w => match headN w with | some c => decide (c < 45) || decide (57 < c) || decide (c = 46) | none => true) = true) : t ∉ l := fun hm => by
  obtain ⟨c, e, hc⟩ := h.hd
  have := List.all_eq_true.mp hl t hm
  rw [e] at this
  simp only [Bool.or_eq_true, decide_eq_true_eq] at this
  omega
theorem NumOk.nA {t : Str} (h : NumOk t) : t ∉ puncA := h.no (by decide +kernel)
theorem NumOk.nB {t : Str} (h : NumOk t) : t ∉ puncB := h.no (by decide +kernel)
theorem NumOk.pos {t : Str} (h : NumOk t) : 0 < t.length := by
  obtain ⟨c, e, _⟩ := h.hd
  unfold headN at e
  have : t.cps.toList ≠ [] := fun q => by rw [q] at e; cases e
  show 0 < t.cps.size
  rw [← Array.length_toList]
  exact List.length_pos_iff.mpr this
/-! ### places -/
inductive Sp where
  | q | c | f (z : Str) | n (i : Nat)
def Sp.D : Sp → D
  | .q => .str "?"
  | .c => .str "^"
  | .f z => .str z
  | .n i => .int i
def Sp.R : Sp → List Str
  | .q => ["?"]
  | .c => ["^"]
  | .f z => [".", z]
  | .n i => [".", numT i]
def Sp.T : Sp → Str
  | .q => "?"
  | .c => "^"
  | .f z => ("." : Str) ++ z
  | .n i => ("." : Str) ++ numT i
inductive Sp.Ok : Sp → Prop where
  | q : Sp.Ok .q
  | c : Sp.Ok .c
  | f {z} : NameOk z → Sp.Ok (.f z)
  | n {i : Nat} : i ≤ 2147483648 → Sp.Ok (.n i)
structure Plc where
  v : Str
  ss : List Sp
def Plc.D (p : Plc) : D := .tup [.str p.v, .tup (p.ss.map Sp.D)]
def Plc.R (p : Plc) : List Str := p.v :: (p.ss.map Sp.R).flatten
def Plc.T (p : Plc) : Str := p.v ++ Str.join "" (p.ss.map Sp.T)
structure Plc.Ok (p : Plc) : Prop where
  v : NameOk p.v
  len : p.ss.length ≤ 12
  ss : ∀ s ∈ p.ss, Sp.Ok s
theorem steps_ph : ∀ {ss : List Sp} {ts : List Str} {h l x : Str}, (∀ s ∈ ss, Sp.Ok s) → Ph ts h l x → l ∉ puncB → ∃ l', Ph (ts ++ (ss.map Sp.R).flatten) h l' (x ++ Str.join "" (ss.map Sp.T)) ∧ l' ∉ puncB
  | [], ts, h, l, x, _, a, n => ⟨l, a.is (by rw [List.map_nil, show Str.join "" [] = ("" : Str) from by decide +kernel, sapp_nil]) (by simp), n⟩
  | s :: ss, ts, h, l, x, ho, a, n => by
    have hs := ho s List.mem_cons_self
    have key : ∃ l', Ph (ts ++ s.R) h l' (x ++ s.T) ∧ l' ∉ puncB := by
      cases hs with
      | q => exact ⟨_, (a.app (Ph.one "?") (gapA (by decide +kernel))).is (by rw [snil_app]; rfl) rfl, by decide +kernel⟩
      | c => exact ⟨_, (a.app (Ph.one "^") (gapA (by decide +kernel))).is (by rw [snil_app]; rfl) rfl, by decide +kernel⟩
      | f hz => exact ⟨_, (a.app ((Ph.one ".").app (Ph.one _) (gapB (by decide +kernel))) (gapA (by decide +kernel))).is (by rw [snil_app, snil_app]; rfl) rfl, hz.nB⟩
      | n hi => exact ⟨_, (a.app ((Ph.one ".").app (Ph.one _) (gapB (by decide +kernel))) (gapA (by decide +kernel))).is (by rw [snil_app, snil_app]; rfl) rfl, (numT_ok (by omega) (by omega)).nB⟩
    obtain ⟨l1, b, n1⟩ := key
    obtain ⟨l2, c, n2⟩ := steps_ph (fun s h => ho s (List.mem_cons_of_mem _ h)) b n1
    refine ⟨l2, c.is ?_ ?_, n2⟩
    · rw [List.map_cons, show Sp.T s :: List.map Sp.T ss = [Sp.T s] ++ List.map Sp.T ss from rfl, sjoin0_app, sapp_assoc]
      rfl
    · rw [List.map_cons, List.flatten_cons, List.append_assoc]
theorem Plc.Ok.phk {p : Plc} (o : p.Ok) : PhK p.R p.T := by
  obtain ⟨l, a, n⟩ := steps_ph o.ss (Ph.one p.v) o.v.nB
  exact ⟨p.v, l, a.is rfl rfl, o.v.nA, n⟩
theorem Sp.Ok.wt {s : Sp} (o : s.Ok) : wt s.R ≤ 25 := by
  have e1 : (("?" : Str)).length = 1 := by decide +kernel
  have e2 : (("^" : Str)).length = 1 := by decide +kernel
  have e3 : (("." : Str)).length = 1 := by decide +kernel
  cases o with
  | q => rw [Sp.R, wt_cons, wt_nil, e1]; omega
  | c => rw [Sp.R, wt_cons, wt_nil, e2]; omega
  | f h => rw [Sp.R, wt_cons, wt_cons, wt_nil, e3]; have := h.len; omega
  | @n i h => rw [Sp.R, wt_cons, wt_cons, wt_nil, e3]; have := (numT_ok (i := (i : Int)) (by omega) (by omega)).len; omega
theorem wt_flatten : ∀ (rs : List (List Str)), wt rs.flatten = (rs.map wt).sum
  | [] => rfl
  | r :: rs => by rw [List.flatten_cons, wt_app, wt_flatten rs, List.map_cons, List.sum_cons]
theorem Plc.Ok.wtk {p : Plc} (o : p.Ok) (k : Nat) : wt (p.v :: ((p.ss.take k).map Sp.R).flatten) ≤ 323 := by
  rw [wt_cons, wt_flatten, List.map_map]
  have a := sum_le (f := wt ∘ Sp.R) (n := 25) (xs := p.ss.take k) fun s h => (o.ss s (List.mem_of_mem_take h)).wt
  rw [List.length_take] at a
  have b : min k p.ss.length * 25 ≤ 12 * 25 := Nat.mul_le_mul_right _ (by have := o.len; omega)
  have := o.v.len
  omega
theorem Plc.Ok.wt {p : Plc} (o : p.Ok) : wt p.R ≤ 323 := by
  have := o.wtk p.ss.length
  rw [List.take_length] at this
  exact this
theorem Sp.Ok.okt {s : Sp} (o : s.Ok) : OkT s.R := by
  cases o with
  | q => exact .one (by decide +kernel)
  | c => exact .one (by decide +kernel)
  | f h => exact .cons (by decide +kernel) (.one h.pos)
  | n h => exact .cons (by decide +kernel) (.one (numT_ok (by omega) (by omega)).pos)
theorem OkT.flat {rs : List (List Str)} (h : ∀ r ∈ rs, OkT r) : OkT rs.flatten := fun t ht => by
  rw [List.mem_flatten] at ht
  obtain ⟨r, hr, ht⟩ := ht
  exact h r hr t ht
theorem Plc.Ok.okt {p : Plc} (o : p.Ok) : OkT p.R := .cons o.v.pos (OkT.flat fun r hr => by
  obtain ⟨s, hs, rfl⟩ := List.mem_map.mp hr
  exact (o.ss s hs).okt)

/-! ### expressions -/
inductive Ex where
  | int (i : Int) | bool (b : Bool) | unit | none (k : Kd)
  | shr (p : Plc) | exc (p : Plc) | use (p : Plc) | is (p : Plc)
  | one (w : Str) (e : Ex) | swap (p : Plc) (e : Ex) | op (s : Str) (a b : Ex)
  | tup (es : List Ex) | rcd (z : Str) (es : List Ex) | call (z : Str) (es : List Ex)
mutual
def Ex.D : Ex → D
  | .int i => .tup [.str "int", .int i]
  | .bool b => .tup [.str "bool", .bl b]
  | .unit => .tup [.str "unit"]
  | .none k => .tup [.str "none", k.D]
  | .shr p => .tup [.str "borrow", .str "shared", p.D]
  | .exc p => .tup [.str "borrow", .str "exclusive", p.D]
  | .use p => .tup [.str "use", p.D]
  | .is p => .tup [.str "is", p.D]
  | .one w e => .tup [.str w, e.D]
  | .swap p e => .tup [.str "swap", p.D, e.D]
  | .op s a b => .tup [.str "op", .str s, a.D, b.D]
  | .tup es => .tup [.str "tuple", .tup (Ex.Ds es)]
  | .rcd z es => .tup [.str "record", .str z, .tup (Ex.Ds es)]
  | .call z es => .tup [.str "call", .str z, .tup (Ex.Ds es)]
def Ex.Ds : List Ex → List Q4.D
  | [] => []
  | e :: es => e.D :: Ex.Ds es
end
theorem Ex.Ds_map : ∀ es : List Ex, Ex.Ds es = es.map Ex.D
  | [] => rfl
  | e :: es => by rw [Ex.Ds, Ex.Ds_map es]; rfl
mutual
def exR : Ex → List Str
  | .int i => [numT i]
  | .bool b => [if b then "true" else "false"]
  | .unit => ["unit"]
  | .none k => ("none" : Str) :: ("[" : Str) :: (kR k ++ [("]" : Str)])
  | .shr p => ("&" : Str) :: p.R
  | .exc p => ("&mut" : Str) :: p.R
  | .use p => p.R
  | .is p => p.R ++ [("is" : Str), ("some" : Str)]
  | .one w e => w :: exR e
  | .swap p e => ("swap" : Str) :: (p.R ++ ("with" : Str) :: exR e)
  | .op s a b => ("(" : Str) :: (exR a ++ s :: (exR b ++ [(")" : Str)]))
  | .tup es => ("(" : Str) :: (rowsJ (exRs es) ++ [(")" : Str)])
  | .rcd z es => z :: ("(" : Str) :: (rowsJ (exRs es) ++ [(")" : Str)])
  | .call z es => z :: ("(" : Str) :: (rowsJ (exRs es) ++ [(")" : Str)])
def exRs : List Ex → List (List Str)
  | [] => []
  | e :: es => exR e :: exRs es
end
theorem exRs_map : ∀ es : List Ex, exRs es = es.map exR
  | [] => rfl
  | e :: es => by rw [exRs, exRs_map es]; rfl
mutual
def exT : Ex → Str
  | .int i => numT i
  | .bool b => if b then "true" else "false"
  | .unit => "unit"
  | .none k => ("none[" : Str) ++ kT k ++ ("]" : Str)
  | .shr p => ("&" : Str) ++ p.T
  | .exc p => ("&mut " : Str) ++ p.T
  | .use p => p.T
  | .is p => p.T ++ (" is some" : Str)
  | .one w e => w ++ (" " : Str) ++ exT e
  | .swap p e => ("swap " : Str) ++ p.T ++ (" with " : Str) ++ exT e
  | .op s a b => ("(" : Str) ++ exT a ++ (" " : Str) ++ s ++ (" " : Str) ++ exT b ++ (")" : Str)
  | .tup es => ("(" : Str) ++ Str.join ", " (exTs es) ++ (")" : Str)
  | .rcd z es => z ++ (("(" : Str) ++ Str.join ", " (exTs es) ++ (")" : Str))
  | .call z es => z ++ (("(" : Str) ++ Str.join ", " (exTs es) ++ (")" : Str))
def exTs : List Ex → List Str
  | [] => []
  | e :: es => exT e :: exTs es
end
theorem exTs_map : ∀ es : List Ex, exTs es = es.map exT
  | [] => rfl
  | e :: es => by rw [exTs, exTs_map es]; rfl
def oneW : List Str := ["some", "box", "unbox", "not"]
def opW : List Str := ["+", "-", "*", "<", "==", "and", "or"]
inductive WE : Nat → Ex → Prop where
  | int {n i} : -2147483648 ≤ i → i ≤ 2147483648 → WE (n + 1) (.int i)
  | bool {n b} : WE (n + 1) (.bool b)
  | unit {n} : WE (n + 1) .unit
  | none {n k} : WT 3 k → WE (n + 1) (.none k)
  | shr {n p} : Plc.Ok p → WE (n + 1) (.shr p)
  | exc {n p} : Plc.Ok p → WE (n + 1) (.exc p)
  | use {n p} : Plc.Ok p → WE (n + 1) (.use p)
  | is {n p} : Plc.Ok p → WE (n + 1) (.is p)
  | one {n w e} : w ∈ oneW → WE n e → WE (n + 1) (.one w e)
  | swap {n p e} : Plc.Ok p → WE n e → WE (n + 1) (.swap p e)
  | op {n s a b} : s ∈ opW → WE n a → WE n b → WE (n + 1) (.op s a b)
  | tup {n es} : es ≠ [] → es.length ≤ 7 → (∀ e ∈ es, WE n e) → WE (n + 1) (.tup es)
  | rcd {n z es} : NameOk z → es.length ≤ 7 → (∀ e ∈ es, WE n e) → WE (n + 1) (.rcd z es)
  | call {n z es} : NameOk z → es.length ≤ 7 → (∀ e ∈ es, WE n e) → WE (n + 1) (.call z es)
theorem WE.mono : ∀ {n m : Nat} {e : Ex}, WE n e → n ≤ m → WE m e
  | _, m + 1, _, .int h1 h2, _ => .int h1 h2
  | _, m + 1, _, .bool, _ => .bool
  | _, m + 1, _, .unit, _ => .unit
  | _, m + 1, _, .none h, _ => .none h
  | _, m + 1, _, .shr h, _ => .shr h
  | _, m + 1, _, .exc h, _ => .exc h
  | _, m + 1, _, .use h, _ => .use h
  | _, m + 1, _, .is h, _ => .is h
  | _, m + 1, _, .one hw h, e => .one hw (h.mono (Nat.le_of_succ_le_succ e))
  | _, m + 1, _, .swap hp h, e => .swap hp (h.mono (Nat.le_of_succ_le_succ e))
  | _, m + 1, _, .op hs h1 h2, e => .op hs (h1.mono (Nat.le_of_succ_le_succ e)) (h2.mono (Nat.le_of_succ_le_succ e))
  | n + 1, m + 1, _, .tup h1 h2 h, e => .tup h1 h2 fun x hx => (h x hx).mono (by omega)
  | n + 1, m + 1, _, .rcd h1 h2 h, e => .rcd h1 h2 fun x hx => (h x hx).mono (by omega)
  | n + 1, m + 1, _, .call h1 h2 h, e => .call h1 h2 fun x hx => (h x hx).mono (by omega)
  | _ + 1, 0, _, _, e => absurd e (by omega)
theorem Ph.sp {ts us : List Str} {h l x h' l' y : Str} (a : Ph ts h l x) (b : Ph us h' l' y) (nA : h' ∉ puncA) (nB : l ∉ puncB) (np : h' ≠ "(" ∨ named l = false) : Ph (ts ++ us) h l' (x ++ ((" " : Str) ++ y)) := a.app b (gapS nA nB np)
theorem par_ph {ts : List Str} {x : Str} (h : ts = [] ∧ x = "" ∨ PhK ts x) : Ph (("(" : Str) :: (ts ++ [(")" : Str)])) "(" ")" (("(" : Str) ++ (x ++ (")" : Str))) := by
  rcases h with ⟨rfl, rfl⟩ | ⟨h1, l1, a, n, m⟩
  · exact ((Ph.one "(").app (Ph.one ")") (gapB (by decide +kernel))).is rfl rfl
  · refine ((Ph.one "(").app (a.app (Ph.one ")") (gapA (by decide +kernel))) (gapB (by decide +kernel))).is ?_ rfl
    simp only [snil_app]
theorem oneW_ok {w : Str} (h : w ∈ oneW) : w ∉ puncA ∧ w ∉ puncB ∧ named w = false ∧ w.length ≤ 5 ∧ 0 < w.length := by
  have : oneW.all (fun w => decide (w ∉ puncA) && decide (w ∉ puncB) && (named w == false) && decide (w.length ≤ 5) && decide (0 < w.length)) = true := by decide +kernel
  have := List.all_eq_true.mp this w h
  simp only [Bool.and_eq_true, decide_eq_true_eq, beq_iff_eq] at this
  exact ⟨this.1.1.1.1, this.1.1.1.2, this.1.1.2, this.1.2, this.2⟩
theorem opW_ok {w : Str} (h : w ∈ opW) : w ∉ puncA ∧ w ∉ puncB ∧ named w = false ∧ w ≠ "(" ∧ w.length ≤ 3 ∧ 0 < w.length := by
  have : opW.all (fun w => decide (w ∉ puncA) && decide (w ∉ puncB) && (named w == false) && decide (w ≠ "(") && decide (w.length ≤ 3) && decide (0 < w.length)) = true := by decide +kernel
  have := List.all_eq_true.mp this w h
  simp only [Bool.and_eq_true, decide_eq_true_eq, beq_iff_eq] at this
  exact ⟨this.1.1.1.1.1, this.1.1.1.1.2, this.1.1.1.2, this.1.1.2, this.1.2, this.2⟩
theorem joinE {es : List Ex} (h : ∀ e ∈ es, PhK (exR e) (exT e)) : rowsJ (exRs es) = [] ∧ Str.join ", " (exTs es) = "" ∨ PhK (rowsJ (exRs es)) (Str.join ", " (exTs es)) := by
  by_cases ne : es = []
  · subst ne
    exact .inl ⟨rfl, by decide +kernel⟩
  · right
    have := PhK.join (ps := es.map fun e => (exR e, exT e)) (by simpa using ne) fun q hq => by
      obtain ⟨j, hj, e⟩ := List.mem_map.mp hq
      subst e
      exact h j hj
    rw [List.map_map, List.map_map] at this
    rw [exRs_map, exTs_map]
    exact this
theorem WE.phk : ∀ {n : Nat} {e : Ex}, WE n e → PhK (exR e) (exT e)
  | _, _, .int h1 h2 => by rw [exR, exT]; exact phk_one (numT_ok h1 h2).nA (numT_ok h1 h2).nB
  | _, _, .bool (b := b) => by rw [exR, exT]; cases b <;> exact phk_one (by decide +kernel) (by decide +kernel)
  | _, _, .unit => by rw [exR, exT]; exact phk_one (by decide +kernel) (by decide +kernel)
  | _, _, .none h => by
    rw [exR, exT]
    obtain ⟨h1, l1, a, n, m⟩ := h.phk
    refine ⟨"none", "]", (((Ph.one "none").app (Ph.one "[") (gapA (by decide +kernel))).app (a.app (Ph.one "]") (gapA (by decide +kernel))) (gapB (by decide +kernel))).is ?_ rfl, by decide +kernel, by decide +kernel⟩
    have e : ("none[" : Str) = ("none" : Str) ++ ("[" : Str) := by decide +kernel
    rw [e]
    simp only [sapp_assoc, snil_app]
  | _, _, .shr h => by rw [exR, exT]; exact phk_pre h.phk (by decide +kernel) (fun _ _ => gapB (by decide +kernel)) (by rw [snil_app])
  | _, _, .exc h => by rw [exR, exT, mut2, sapp_assoc]; exact phk_word h.phk (by decide +kernel) (by decide +kernel) (by decide +kernel)
  | _, _, .use h => by rw [exR, exT]; exact h.phk
  | _, _, .is h => by
    rw [exR, exT]
    obtain ⟨h1, l1, a, n, m⟩ := h.phk
    refine ⟨h1, "some", (a.sp ((Ph.one "is").sp (Ph.one "some") (by decide +kernel) (by decide +kernel) (.inl (by decide +kernel))) (by decide +kernel) m (.inl (by decide +kernel))).is ?_ rfl, n, by decide +kernel⟩
    have e : (" is some" : Str) = (" " : Str) ++ (("is" : Str) ++ ((" " : Str) ++ ("some" : Str))) := by decide +kernel
    rw [e]
  | _, _, .one hw h => by
    obtain ⟨o1, o2, o3, _⟩ := oneW_ok hw
    rw [exR, exT, sapp_assoc]
    exact phk_word h.phk o1 o2 o3
  | _, _, .swap hp h => by
    rw [exR, exT]
    obtain ⟨h1, l1, a, n1, m1⟩ := hp.phk
    obtain ⟨h2, l2, b, n2, m2⟩ := h.phk
    have hv : h1 ≠ "(" ∨ named ("swap" : Str) = false := .inr (by decide +kernel)
    refine ⟨"swap", l2, ((Ph.one "swap").sp (a.sp ((Ph.one "with").sp b n2 (by decide +kernel) (.inr (by decide +kernel))) (by decide +kernel) m1 (.inl (by decide +kernel))) n1 (by decide +kernel) hv).is ?_ ?_, by decide +kernel, m2⟩
    · have e1 : ("swap " : Str) = ("swap" : Str) ++ (" " : Str) := by decide +kernel
      have e2 : (" with " : Str) = (" " : Str) ++ (("with" : Str) ++ (" " : Str)) := by decide +kernel
      rw [e1, e2]
      simp only [sapp_assoc]
    · simp
  | _, _, .op hs h1 h2 => by
    obtain ⟨o1, o2, o3, o4, _⟩ := opW_ok hs
    rw [exR, exT]
    obtain ⟨ha, la, a, na, ma⟩ := h1.phk
    obtain ⟨hb, lb, b, nb, mb⟩ := h2.phk
    refine ⟨"(", ")", ((Ph.one "(").app (a.sp ((Ph.one _).sp (b.app (Ph.one ")") (gapA (by decide +kernel))) nb o2 (.inr o3)) o1 ma (.inl o4)) (gapB (by decide +kernel))).is ?_ ?_, by decide +kernel, by decide +kernel⟩
    · simp only [sapp_assoc, snil_app]
    · simp
  | _, _, .tup ne h2 h => by
    rw [exR, exT]
    refine ⟨"(", ")", (par_ph (joinE fun e he => (h e he).phk)).is ?_ rfl, by decide +kernel, by decide +kernel⟩
    simp only [sapp_assoc]
  | _, _, .rcd hz h2 h => by
    rw [exR, exT]
    refine ⟨_, ")", ((Ph.one _).app (par_ph (joinE fun e he => (h e he).phk)) (gapN hz.named)).is ?_ rfl, hz.nA, by decide +kernel⟩
    simp only [sapp_assoc, snil_app]
  | _, _, .call hz h2 h => by
    rw [exR, exT]
    refine ⟨_, ")", ((Ph.one _).app (par_ph (joinE fun e he => (h e he).phk)) (gapN hz.named)).is ?_ rfl, hz.nA, by decide +kernel⟩
    simp only [sapp_assoc, snil_app]
theorem WE.okt : ∀ {n : Nat} {e : Ex}, WE n e → OkT (exR e)
  | _, _, .int h1 h2 => by rw [exR]; exact .one (numT_ok h1 h2).pos
  | _, _, .bool (b := b) => by rw [exR]; cases b <;> exact .one (by decide +kernel)
  | _, _, .unit => by rw [exR]; exact .one (by decide +kernel)
  | _, _, .none h => by rw [exR]; exact .cons (by decide +kernel) (.cons (by decide +kernel) (h.okt.app (.one (by decide +kernel))))
  | _, _, .shr h => by rw [exR]; exact .cons (by decide +kernel) h.okt
  | _, _, .exc h => by rw [exR]; exact .cons (by decide +kernel) h.okt
  | _, _, .use h => by rw [exR]; exact h.okt
  | _, _, .is h => by rw [exR]; exact h.okt.app (.cons (by decide +kernel) (.one (by decide +kernel)))
  | _, _, .one hw h => by rw [exR]; exact .cons (oneW_ok hw).2.2.2.2 h.okt
  | _, _, .swap hp h => by rw [exR]; exact .cons (by decide +kernel) (hp.okt.app (.cons (by decide +kernel) h.okt))
  | _, _, .op hs h1 h2 => by rw [exR]; exact .cons (by decide +kernel) (h1.okt.app (.cons (opW_ok hs).2.2.2.2.2 (h2.okt.app (.one (by decide +kernel)))))
  | _, _, .tup (es := es) ne h2 h => by
    rw [exR, exRs_map]
    have q : ∀ j ∈ es, OkT (exR j) := fun j hj => (h j hj).okt
    exact .cons (by decide +kernel) ((OkT.joined fun r hr => by obtain ⟨j, hj, e⟩ := List.mem_map.mp hr; subst e; exact q j hj).app (.one (by decide +kernel)))
  | _, _, .rcd (es := es) hz h2 h => by
    rw [exR, exRs_map]
    have q : ∀ j ∈ es, OkT (exR j) := fun j hj => (h j hj).okt
    exact .cons hz.pos (.cons (by decide +kernel) ((OkT.joined fun r hr => by obtain ⟨j, hj, e⟩ := List.mem_map.mp hr; subst e; exact q j hj).app (.one (by decide +kernel))))
  | _, _, .call (es := es) hz h2 h => by
    rw [exR, exRs_map]
    have q : ∀ j ∈ es, OkT (exR j) := fun j hj => (h j hj).okt
    exact .cons hz.pos (.cons (by decide +kernel) ((OkT.joined fun r hr => by obtain ⟨j, hj, e⟩ := List.mem_map.mp hr; subst e; exact q j hj).app (.one (by decide +kernel))))
/-! weights: c steps of the budget -/
def Wt (e : Ex) (c : Int) : Prop := (wt (exR e) : Int) ≤ 1100 * (1 + 8 * c)
theorem wt_leaf {t : Str} {k : Nat} (h : t.length + 1 ≤ k) : wt [t] ≤ k := one_wt h
theorem wtj {es : List Ex} {B : Int} (hl : es.length ≤ 7) (h : ((es.map fun e => wt (exR e)).sum : Int) ≤ B) : (wt (rowsJ (exRs es)) : Int) ≤ B + 14 := by
  have a := wt_rowsJ (exRs es)
  rw [exRs_map, List.map_map] at a
  have b : (es.map ((fun r => wt r + 2) ∘ exR)).sum = (es.map fun e => wt (exR e)).sum + 2 * es.length := by
    clear hl h a
    induction es with
    | nil => rfl
    | cons e es ih =>
      rw [List.map_cons, List.sum_cons, ih, List.map_cons, List.sum_cons, List.length_cons]
      show wt (exR e) + 2 + _ = _
      omega
  rw [b] at a
  rw [exRs_map]
  omega
/-- a row of expressions that took c steps together -/
def Wts (es : List Ex) (c : Int) : Prop := ((es.map fun e => wt (exR e)).sum : Int) ≤ 1100 * (es.length + 8 * c)
theorem Wts.nil : Wts [] 0 := by unfold Wts; simp
theorem Wts.snoc {es : List Ex} {e : Ex} {c d : Int} (h : Wts es c) (h' : Wt e d) : Wts (es ++ [e]) (c + d) := by
  unfold Wts Wt at *
  rw [List.map_append, List.sum_append, List.length_append]
  simp only [List.map_cons, List.map_nil, List.sum_cons, List.sum_nil, List.length_cons, List.length_nil]
  push_cast
  omega

/-! ### the law's expressions -/
def mx (x : Int) : Int := if x < 0 then 0 else x
theorem mx_le {a b : Int} (h : a ≤ b) : mx a ≤ mx b := by unfold mx; split <;> split <;> omega
theorem mx_nn (a : Int) : 0 ≤ mx a := by unfold mx; split <;> omega
theorem mx_step {a : Int} (h : 2 ≤ a) : mx a = 1 + mx (a - 1) := by unfold mx; split <;> split <;> omega
theorem mul8 (x y : Int) : 1100 * (x + 8 * y) = 1100 * x + 8800 * y := by omega
def sp_law_number : DSp := fun ds m P _ => ∃ st ns s, ds = [.ref st, .rol (List.map D.int ns)] ∧ m st = some (S4.D s) ∧ s.Ok ∧
  ∀ (i : Int) s', -2147483648 ≤ i → i ≤ 2147483648 → S4.Ok s' → s'.d = s.d → P (.int i) (put m st s'.D)
theorem use_number {st : Addr} {ns : List Int} {a b c d : Int} {m : M} {P : DK} (h : m st = some (.lst [.int a, .int b, .int c, .int d])) (o : S4.Ok ⟨a, b, c, d⟩) (q : ∀ (i : Int) s', -2147483648 ≤ i → i ≤ 2147483648 → S4.Ok s' → s'.d = d → P (.int i) (put m st s'.D)) :
    sp_law_number [.ref st, .rol (List.map D.int ns)] m P noX := ⟨st, ns, ⟨a, b, c, d⟩, rfl, h, o, q⟩
theorem rd_number : ∀ ds m P EX, sp_law_number ds m P EX → Go P (b_law_number sp_law_pick) (dstart ["state", "script", "choice", "edges"] ds) m := by
  rintro ds m P EX ⟨st, ns, s, rfl, hs, ho, q⟩
  show b_law_number sp_law_pick { nx := fun _ m' => Ret P .non m', rt := Ret P } [some (.ref st), some (.rol (List.map D.int ns)), none, none] m
  unfold b_law_number
  top_strB
  · exact ⟨_, Less.refl _, q _ _ (by omega) (by omega) ‹_› (by omega)⟩
  · rename_i t s2 t0 t1 o2 d2
    have : ∃ e : Int, atI ([.int 0, .int 1, .int (-1), .int 2147483647, .int (-2147483648), .int 2147483646, .int (-2147483647)] : List D) t = some (.int e) ∧ -2147483648 ≤ e ∧ e ≤ 2147483648 := by
      have : t = 0 ∨ t = 1 ∨ t = 2 ∨ t = 3 ∨ t = 4 ∨ t = 5 ∨ t = 6 := by omega
      rcases this with rfl | rfl | rfl | rfl | rfl | rfl | rfl
      all_goals exact ⟨_, rfl, by decide, by decide⟩
    obtain ⟨e, he, he1, he2⟩ := this
    refine r_ixL (by lcg_src) he ?_
    refine ⟨put m st s2.D, ?_, q e s2 he1 he2 o2 (by omega)⟩
    one_item
  · exact ⟨_, Less.refl _, q _ _ (by omega) (by omega) ‹_› (by omega)⟩
local macro_rules | `(tactic| lcg_sub) => `(tactic| ((with_reducible refine' use_number ?h1 ?h2 ?h3); (case h1 => lcg_src); (case h2 => first | assumption | exact S4.Ok.d (by assumption) _); intro _ _ _ _ _ _; try simp only [put_put]))
def sp_law_place : DSp := fun ds m P _ => ∃ st ns s, ds = [.ref st, .rol (List.map D.int ns)] ∧ m st = some (S4.D s) ∧ s.Ok ∧
  ∀ p s', Plc.Ok p → S4.Ok s' → s'.d = s.d → P p.D (put m st s'.D)
theorem use_place {st : Addr} {ns : List Int} {a b c d : Int} {m : M} {P : DK} (h : m st = some (.lst [.int a, .int b, .int c, .int d])) (o : S4.Ok ⟨a, b, c, d⟩) (q : ∀ p s', Plc.Ok p → S4.Ok s' → s'.d = d → P p.D (put m st s'.D)) :
    sp_law_place [.ref st, .rol (List.map D.int ns)] m P noX := ⟨st, ns, ⟨a, b, c, d⟩, rfl, h, o, q⟩
theorem rd_place : ∀ ds m P EX, sp_law_place ds m P EX → Go P (b_law_place sp_law_pick sp_law_name) (dstart ["state", "script", "steps", "size", "k", "choice"] ds) m := by
  rintro ds m P EX ⟨st, ns, s, rfl, hs, ho, q⟩
  show b_law_place sp_law_pick sp_law_name { nx := fun _ m' => Ret P .non m', rt := Ret P } [some (.ref st), some (.rol (List.map D.int ns)), none, none, none, none] m
  unfold b_law_place
  lcg_off
  rename_i p hp t1 s1 h10 h11 o1 d1
  have hne : p ≠ st := fun e => by subst e; rw [hs] at hp; cases hp
  refine s_cut (fun sd m' => ∃ (k : Int) (s' : S4), sd = [some (.ref st), some (.rol (List.map D.int ns)), some (.ref p), some (.int k), none, none] ∧ m' = put (put m p (.lst [])) st s'.D ∧ s'.Ok ∧ s'.d = s.d ∧ 0 ≤ k ∧ k ≤ 12) ?_ ?_
  · lcg_off
    · exact ⟨_, Less.refl _, _, _, rfl, rfl, ‹_›, by omega, by omega, by omega⟩
    · exact ⟨_, Less.refl _, _, _, rfl, rfl, ‹_›, by omega, by omega, by omega⟩
  rintro _ _ ⟨k, s2, rfl, rfl, o2, d2, hk0, hk1⟩
  refine s_seq ?_
  lcg_off
  refine ⟨⟨by omega, by omega⟩, fun i sd m' => ∃ (ss : List Sp) (kk cc : Option D) (s' : S4), sd = [some (.ref st), some (.rol (List.map D.int ns)), some (.ref p), some (.int k), kk, cc] ∧ m' = put (put m p (.lst (ss.map Sp.D))) st s'.D ∧ s'.Ok ∧ s'.d = s.d ∧ ss.length = i ∧ ∀ x ∈ ss, Sp.Ok x,
    ⟨[], _, _, s2, rfl, rfl, o2, d2, rfl, fun _ h => by cases h⟩, ?_, ?_⟩
  · rintro i _ _ hi ⟨ss, kk, cc, s3, rfl, rfl, o3, d3, hl, hk⟩
    have key : ∀ (x : Sp) (s' : S4) (kk cc : Option D), x.Ok → s'.Ok → s'.d = s.d → ∃ (ss1 : List Sp) (kk' cc' : Option D) (s1 : S4), [some (.ref st), some (.rol (List.map D.int ns)), some (.ref p), some (.int k), kk, cc] = [some (.ref st), some (.rol (List.map D.int ns)), some (.ref p), some (.int k), kk', cc'] ∧ put (put m p (.lst (ss.map Sp.D ++ [x.D]))) st s'.D = put (put m p (.lst (ss1.map Sp.D))) st s1.D ∧ s1.Ok ∧ s1.d = s.d ∧ ss1.length = i + 1 ∧ ∀ x ∈ ss1, Sp.Ok x := by
      intro x s' kk cc hx ho hd
      refine ⟨ss ++ [x], kk, cc, s', rfl, by rw [List.map_append]; rfl, ho, hd, by simp [hl], fun y hy => ?_⟩
      rcases List.mem_append.mp hy with h | h
      · exact hk y h
      · rw [List.mem_singleton] at h; subst h; exact hx
    lcg_off
    · rename_i x s4 h1 h2 o4 d4 _
      exact ⟨_, Less.refl _, key .q _ _ _ .q o4 (by omega)⟩
    · rename_i x s4 h1 h2 o4 d4 _ _
      exact ⟨_, Less.refl _, key .c _ _ _ .c o4 (by omega)⟩
    · rename_i z s5 hz o5 d5
      exact ⟨_, Less.refl _, key (.f z) _ _ _ (.f hz) o5 (by omega)⟩
    · rename_i x s4 h1 h2 o4 d4 _ _ _ pl _ _ _ t s5 h3 h4 o5 d5
      have : ∃ e : Int, atI ([.int 2, .int 7, .int 2147483648] : List D) t = some (.int e) ∧ 0 < e ∧ e ≤ 2147483648 := by
        have : t = 0 ∨ t = 1 ∨ t = 2 := by omega
        rcases this with rfl | rfl | rfl
        all_goals exact ⟨_, rfl, by decide, by decide⟩
      obtain ⟨e, he, he1, he2⟩ := this
      refine r_ixL (by lcg_src) he ?_
      lcg_off
      rename_i r s6 r0 r1 o6 d6
      obtain ⟨j, rfl⟩ : ∃ j : Nat, r = j := ⟨r.toNat, by omega⟩
      exact ⟨put (put m p (.lst (ss.map Sp.D ++ [Sp.D (.n j)]))) st s6.D, by (simp only [Sp.D]); one_item, key (.n j) _ _ _ (.n (by omega)) o6 (by omega)⟩
  · rintro _ _ ⟨ss, kk, cc, s3, rfl, rfl, o3, d3, hl, hk⟩
    lcg_off
    rename_i z s4 hz o4 d4
    refine ⟨put m st s4.D, ?_, q ⟨z, ss⟩ s4 ⟨hz, by show ss.length ≤ 12; omega, hk⟩ o4 (by omega)⟩
    one_item
local macro_rules | `(tactic| lcg_sub) => `(tactic| ((with_reducible refine' use_place ?h1 ?h2 ?h3); (case h1 => lcg_src); (case h2 => first | assumption | exact S4.Ok.d (by assumption) _); intro _ _ _ _ _; try simp only [put_put]))
def sp_law_expression (n : Nat) : DSp := fun ds m P _ => ∃ st ns s, ∃ r : Int, ds = [.ref st, .rol (List.map D.int ns), .int r] ∧ m st = some (S4.D s) ∧ s.Ok ∧ 1 ≤ r ∧ r ≤ n ∧ n ≤ 100 ∧
  ∀ e s', WE r.toNat e → S4.Ok s' → s'.d < s.d → Wt e (mx s.d - mx s'.d) → P (Ex.D e) (put m st s'.D)
theorem use_expr {n : Nat} {st : Addr} {ns : List Int} {a bb c d : Int} {m : M} {P : DK} {r : Int} (h : m st = some (.lst [.int a, .int bb, .int c, .int d])) (o : S4.Ok ⟨a, bb, c, d⟩) (h1 : 1 ≤ r) (h2 : r ≤ n) (h3 : n ≤ 100)
    (q : ∀ e s', WE r.toNat e → S4.Ok s' → s'.d < d → Wt e (mx d - mx s'.d) → P (Ex.D e) (put m st s'.D)) : sp_law_expression n [.ref st, .rol (List.map D.int ns), .int r] m P noX := ⟨st, ns, ⟨a, bb, c, d⟩, r, rfl, h, o, h1, h2, h3, q⟩
local macro_rules | `(tactic| lcg_sub) => `(tactic| ((with_reducible refine' use_expr ?h1 ?h2 ?h3 ?h4 ?h5 ?h6); (case h1 => lcg_src); (case h2 => first | assumption | exact S4.Ok.d (by assumption) _); (case h3 => omega); (case h4 => omega); (case h5 => omega); intro _ _ _ _ _ _; try simp only [put_put]))
theorem S4.Ok.of {a b c d d' : Int} (o : S4.Ok ⟨a, b, c, d⟩) : S4.Ok ⟨a, b, c, d'⟩ := ⟨o.1, o.2, o.3⟩
theorem wl_int {i : Int} (h1 : -2147483648 ≤ i) (h2 : i ≤ 2147483648) : wt (exR (.int i)) ≤ 1100 := by
  rw [exR, wt_cons, wt_nil]
  have := (numT_ok h1 h2).len
  omega
theorem wl_bool (b : Bool) : wt (exR (.bool b)) ≤ 1100 := by
  rw [exR]
  cases b <;> decide +kernel
theorem wl_unit : wt (exR .unit) ≤ 1100 := by
  rw [exR]
  decide +kernel
theorem wl_none {k : Kd} (h : WT 3 k) : wt (exR (.none k)) ≤ 1100 := by
  rw [exR, wt_cons, wt_cons, wt_app]
  have a := h.wt
  have e1 : (("none" : Str)).length = 4 := by decide +kernel
  have e2 : (("[" : Str)).length = 1 := by decide +kernel
  have e3 : wt [("]" : Str)] = 2 := by decide +kernel
  rw [e1, e2, e3]
  omega
theorem wl_pl1 {t : Str} {p : Plc} (h : p.Ok) (ht : t.length ≤ 5) : wt (t :: p.R) ≤ 1100 := by
  rw [wt_cons]
  have := h.wt
  omega
theorem wl_is {p : Plc} (h : p.Ok) : wt (exR (.is p)) ≤ 1100 := by
  rw [exR, wt_app]
  have := h.wt
  have : wt [("is" : Str), ("some" : Str)] = 8 := by decide +kernel
  omega
/-- one step more of the budget -/
theorem wl_up {e : Ex} {w : Nat} {d d1 d' : Int} {own : Nat} (hw : wt (exR e) ≤ own + w) (ho : own ≤ 2000) (h2 : 2 ≤ d) (h1 : d1 = d - 1) (hb : (w : Int) ≤ 1100 * (7 + 8 * (mx d1 - mx d'))) : Wt e (mx d - mx d') := by
  unfold Wt
  rw [mx_step h2, ← h1]
  omega
theorem wl_one {w : Str} {e : Ex} {d d1 d' : Int} (hw : w ∈ oneW) (h : Wt e (mx d1 - mx d')) (h2 : 2 ≤ d) (h1 : d1 = d - 1) : Wt (.one w e) (mx d - mx d') := by
  unfold Wt at h
  refine wl_up (own := 6) (w := wt (exR e)) ?_ (by decide) h2 h1 (by omega)
  rw [exR, wt_cons]
  have := (oneW_ok hw).2.2.2.1
  omega
theorem wl_swap {p : Plc} {e : Ex} {d d1 d' : Int} (hp : p.Ok) (h : Wt e (mx d1 - mx d')) (h2 : 2 ≤ d) (h1 : d1 = d - 1) : Wt (.swap p e) (mx d - mx d') := by
  unfold Wt at h
  refine wl_up (own := 400) (w := wt (exR e)) ?_ (by decide) h2 h1 (by omega)
  rw [exR, wt_cons, wt_app, wt_cons]
  have := hp.wt
  have e1 : (("swap" : Str)).length = 4 := by decide +kernel
  have e2 : (("with" : Str)).length = 4 := by decide +kernel
  rw [e1, e2]
  omega
theorem wl_op {w : Str} {a b : Ex} {d d1 d2 d' : Int} (hw : w ∈ opW) (ha : Wt a (mx d1 - mx d2)) (hb : Wt b (mx d2 - mx d')) (h2 : 2 ≤ d) (h1 : d1 = d - 1) (_ : d2 < d1) : Wt (.op w a b) (mx d - mx d') := by
  unfold Wt at ha hb
  refine wl_up (own := 10) (w := wt (exR a) + wt (exR b)) ?_ (by decide) h2 h1 (by omega)
  rw [exR, wt_cons, wt_app, wt_cons, wt_app]
  have := (opW_ok hw).2.2.2.2.1
  have e1 : (("(" : Str)).length = 1 := by decide +kernel
  have e2 : wt [(")" : Str)] = 2 := by decide +kernel
  rw [e1, e2]
  omega
theorem wl_list {z : List Str} {es : List Ex} {e : Ex} {d d1 d' : Int} (he : exR e = z ++ ("(" : Str) :: (rowsJ (exRs es) ++ [(")" : Str)])) (hz : wt z ≤ 30) (hl : es.length ≤ 7) (h : Wts es (mx d1 - mx d')) (h2 : 2 ≤ d) (h1 : d1 = d - 1) : Wt e (mx d - mx d') := by
  unfold Wts at h
  have a := wt_rowsJ (exRs es)
  have b : ((es.map fun e => wt (exR e)).sum : Int) ≤ 1100 * (7 + 8 * (mx d1 - mx d')) := by omega
  have c := wtj hl b
  refine wl_up (own := 100) (w := (es.map fun e => wt (exR e)).sum) ?_ (by decide) h2 h1 b
  rw [he, wt_app, wt_cons, wt_app]
  have c2 := wtj (es := es) (B := ((es.map fun e => wt (exR e)).sum : Int)) hl (by omega)
  have e1 : (("(" : Str)).length = 1 := by decide +kernel
  have e2 : wt [(")" : Str)] = 2 := by decide +kernel
  rw [e1, e2]
  omega
theorem rd_expr (n : Nat) : ∀ ds m P EX, sp_law_expression (n + 1) ds m P EX → Go P (b_law_expression sp_law_pick sp_law_number (sp_law_tree_kind 9) sp_law_place (sp_law_expression n) sp_law_big sp_law_name) (dstart ["state", "script", "room", "choice", "parts", "size", "k", "word", "sign", "left"] ds) m := by
  rintro ds m P EX ⟨st, ns, ⟨a, b, c, d⟩, r, rfl, hs, ho, h1, h2, h3, q⟩
  show b_law_expression _ _ _ _ _ _ _ { nx := fun _ m' => Ret P .non m', rt := Ret P } [some (.ref st), some (.rol (List.map D.int ns)), some (.int r), none, none, none, none, none, none, none] m
  unfold b_law_expression
  obtain ⟨j, rfl⟩ : ∃ j : Nat, r = j := ⟨r.toNat, by omega⟩
  have ej : (j : Int).toNat = ((j : Int) - 1).toNat + 1 := by omega
  rw [ej] at q
  have oo : S4.Ok ⟨a, b, c, d - 1⟩ := ho.of
  dsimp only [S4.D] at hs
  dsimp only at q
  lcg_off
  rename_i c0 s1 c00 c01 o1 d1
  refine s_cut (fun sd m' => ∃ ch : Int, sd = [some (.ref st), some (.rol (List.map D.int ns)), some (.int j), some (.int ch), none, none, none, none, none, none] ∧ m' = put m st s1.D ∧ 0 ≤ ch ∧ ch < 16 ∧ (ch < 7 ∨ (2 ≤ j ∧ 2 ≤ d))) ?_ ?_
  · lcg_off
    all_goals exact ⟨_, Less.refl _, _, rfl, rfl, by omega, by omega, by omega⟩
  rintro _ _ ⟨ch, rfl, rfl, hc0, hc1, hc⟩
  have mxd : mx (d - 1) ≤ mx d := mx_le (by omega)
  have leaf : ∀ (e : Ex) (s' : S4), WE (((j : Int) - 1).toNat + 1) e → s'.Ok → s'.d = d - 1 → wt (exR e) ≤ 1100 → P e.D (put m st s'.D) := fun e s' he ho hd hw => q e s' he ho (by omega) (by
    unfold Wt
    rw [hd]
    omega)
  have hEW : ∀ x, WE (((j : Int) - 1).toNat) x → WE n x := fun x h => h.mono (by omega)
  top_strB
  · rename_i v s2 v0 v1 o2 d2
    exact ⟨_, Less.refl _, leaf (.int v) s2 (.int v0 v1) o2 (by omega) (wl_int v0 v1)⟩
  · rename_i v s2 v0 v1 o2 d2
    exact ⟨_, Less.refl _, leaf (.bool (decide (v = 1))) s2 .bool o2 (by omega) (wl_bool _)⟩
  · exact ⟨_, Less.refl _, leaf .unit s1 .unit o1 (by omega) wl_unit⟩
  · rename_i k s2 hk o2 d2
    exact ⟨_, Less.refl _, leaf (.none k) s2 (.none hk) o2 (by omega) (wl_none hk)⟩
  · rename_i p hp _ v s2 v0 v1 o2 d2
    have hv : v = 0 ∨ v = 1 := by omega
    rcases hv with rfl | rfl
    · refine r_ixL (by lcg_src) (d := .str "shared") rfl ?_
      lcg_off
      rename_i w s3 hw o3 d3
      refine ⟨put m st s3.D, ?_, leaf (.shr w) s3 (.shr hw) o3 (by omega) (wl_pl1 hw (by decide +kernel))⟩
      one_item
    · refine r_ixL (by lcg_src) (d := .str "exclusive") rfl ?_
      lcg_off
      rename_i w s3 hw o3 d3
      refine ⟨put m st s3.D, ?_, leaf (.exc w) s3 (.exc hw) o3 (by omega) (wl_pl1 hw (by decide +kernel))⟩
      one_item
  · have hv : ch = 4 ∨ ch = 6 := by omega
    rcases hv with rfl | rfl
    · refine r_ixL (by lcg_src) (d := .str "use") rfl ?_
      lcg_off
      rename_i w s3 hw o3 d3
      refine ⟨put m st s3.D, ?_, leaf (.use w) s3 (.use hw) o3 (by omega) (Nat.le_trans hw.wt (by decide))⟩
      one_item
    · refine r_ixL (by lcg_src) (d := .str "is") rfl ?_
      lcg_off
      rename_i w s3 hw o3 d3
      refine ⟨put m st s3.D, ?_, leaf (.is w) s3 (.is hw) o3 (by omega) (wl_is hw)⟩
      one_item
  · rename_i p hp _ v s2 v0 v1 o2 d2
    obtain ⟨w, hw, hwo⟩ : ∃ w : Str, atI ([.str "some", .str "box", .str "unbox", .str "not"] : List D) v = some (.str w) ∧ w ∈ oneW := by
      have : v = 0 ∨ v = 1 ∨ v = 2 ∨ v = 3 := by omega
      rcases this with rfl | rfl | rfl | rfl
      all_goals exact ⟨_, rfl, by decide +kernel⟩
    refine r_ixL (by lcg_src) hw ?_
    lcg_off
    rename_i e s3 he o3 d3 we
    refine ⟨put m st s3.D, ?_, q (.one w e) s3 (.one hwo he) o3 (by omega) (wl_one hwo we (by omega) (by omega))⟩
    one_item
  · rename_i p s2 hp o2 d2 e s3 he o3 d3 we
    exact ⟨_, Less.refl _, q (.swap p e) s3 (.swap hp he) o3 (by omega) (wl_swap hp we (by omega) (by omega))⟩
  · rename_i p hp _ v s2 v0 v1 o2 d2
    obtain ⟨w, hw, hwo⟩ : ∃ w : Str, atI ([.str "+", .str "-", .str "*", .str "<", .str "==", .str "and", .str "or"] : List D) v = some (.str w) ∧ w ∈ opW := by
      have : v = 0 ∨ v = 1 ∨ v = 2 ∨ v = 3 ∨ v = 4 ∨ v = 5 ∨ v = 6 := by omega
      rcases this with rfl | rfl | rfl | rfl | rfl | rfl | rfl
      all_goals exact ⟨_, rfl, by decide +kernel⟩
    refine r_ixL (by lcg_src) hw ?_
    top_strB
    rename_i e1 s3 he1 o3 d3 we1 e2 s4 he2 o4 d4 we2
    refine ⟨put m st s4.D, ?_, q (.op w e1 e2) s4 (.op hwo he1 he2) o4 (by omega) (wl_op hwo we1 we2 (by omega) (by omega) (by omega))⟩
    one_item
  · rename_i p hp1 hp2 v s2 v0 v1 o2 d2 hch
    subst hch
    refine ⟨⟨by omega, by omega⟩, fun i sd m' => ∃ (es : List Ex) (kk : Option D) (s' : S4), sd = [some (.ref st), some (.rol (List.map D.int ns)), some (.int j), some (.int 13), some (.ref p), some (.int (2 + v)), kk, none, none, none] ∧ m' = put (put m p (.lst (es.map Ex.D))) st s'.D ∧ s'.Ok ∧ s'.d ≤ d - 1 ∧ es.length = i ∧ (∀ e ∈ es, WE ((j : Int) - 1).toNat e) ∧ Wts es (mx (d - 1) - mx s'.d),
      ⟨[], _, s2, rfl, ?_, o2, by omega, rfl, (fun _ h => by cases h), by rw [show s2.d = d - 1 by omega, Int.sub_self]; exact Wts.nil⟩, ?_, ?_⟩
    · simp only [List.map_nil]
      funext x
      simp only [put]
      grind
    · rintro i _ _ hi ⟨es, kk, s3, rfl, rfl, o3, d3, hl, hk, hw⟩
      lcg_off
      rename_i e s4 he o4 d4 we
      refine ⟨_, Less.refl _, es ++ [e], _, s4, rfl, by rw [List.map_append]; rfl, o4, by omega, by simp [hl], ?_, ?_⟩
      · intro x hx
        rcases List.mem_append.mp hx with h | h
        · exact hk x h
        · rw [List.mem_singleton] at h; subst h; exact he
      · have := hw.snoc we
        rw [show mx (d - 1) - mx s4.d = mx (d - 1) - mx s3.d + (mx s3.d - mx s4.d) by omega]
        exact this
    · rintro _ _ ⟨es, kk, s3, rfl, rfl, o3, d3, hl, hk, hw⟩
      top_strB
      have qq := q (.tup es) s3 (.tup (by intro e; subst e; simp at hl; omega) (by omega) hk) o3 (by omega) (wl_list (z := []) (by rw [exR]; rfl) (by decide) (by omega) hw (by omega) rfl)
      rw [Ex.D, Ex.Ds_map] at qq
      refine ⟨put m st s3.D, ?_, qq⟩
      one_item
  · rename_i p hp1 hp2 v s2 v0 v1 o2 d2 hch
    refine ⟨⟨by omega, by omega⟩, fun i sd m' => ∃ (es : List Ex) (kk : Option D) (s' : S4), sd = [some (.ref st), some (.rol (List.map D.int ns)), some (.int j), some (.int ch), some (.ref p), some (.int (v)), kk, none, none, none] ∧ m' = put (put m p (.lst (es.map Ex.D))) st s'.D ∧ s'.Ok ∧ s'.d ≤ d - 1 ∧ es.length = i ∧ (∀ e ∈ es, WE ((j : Int) - 1).toNat e) ∧ Wts es (mx (d - 1) - mx s'.d),
      ⟨[], _, s2, rfl, ?_, o2, by omega, rfl, (fun _ h => by cases h), by rw [show s2.d = d - 1 by omega, Int.sub_self]; exact Wts.nil⟩, ?_, ?_⟩
    · simp only [List.map_nil]
      funext x
      simp only [put]
      grind
    · rintro i _ _ hi ⟨es, kk, s3, rfl, rfl, o3, d3, hl, hk, hw⟩
      lcg_off
      rename_i e s4 he o4 d4 we
      refine ⟨_, Less.refl _, es ++ [e], _, s4, rfl, by rw [List.map_append]; rfl, o4, by omega, by simp [hl], ?_, ?_⟩
      · intro x hx
        rcases List.mem_append.mp hx with h | h
        · exact hk x h
        · rw [List.mem_singleton] at h; subst h; exact he
      · have := hw.snoc we
        rw [show mx (d - 1) - mx s4.d = mx (d - 1) - mx s3.d + (mx s3.d - mx s4.d) by omega]
        exact this
    · rintro _ _ ⟨es, kk, s3, rfl, rfl, o3, d3, hl, hk, hw⟩
      top_strB
      · exfalso; omega
      · rename_i z s4 hz o4 d4
        have qq := q (.rcd z es) s4 (.rcd hz (by omega) hk) o4 (by omega) (wl_list (z := [z]) (by rw [exR]; rfl) (by rw [wt_cons, wt_nil]; have := hz.len; omega) (by omega) (by rw [d4]; exact hw) (by omega) rfl)
        rw [Ex.D, Ex.Ds_map] at qq
        refine ⟨put m st s4.D, ?_, qq⟩
        one_item
      · rename_i z s4 hz o4 d4
        have qq := q (.call z es) s4 (.call hz (by omega) hk) o4 (by omega) (wl_list (z := [z]) (by rw [exR]; rfl) (by rw [wt_cons, wt_nil]; have := hz.len; omega) (by omega) (by rw [d4]; exact hw) (by omega) rfl)
        rw [Ex.D, Ex.Ds_map] at qq
        refine ⟨put m st s4.D, ?_, qq⟩
        one_item
theorem rec_expr {P : Program} {w : World} {K : PySem.W.Frag} {mg : Str → Option Value} (F : FunAt K mg "_law_expression" s_law_expression ["state", "script", "room"]) (C : Callee P w K mg 11 "_law_pick" ["state", "script", "many"] sp_law_pick) (N : Callee P w K mg 11 "_law_number" ["state", "script"] sp_law_number) (T : Callee P w K mg 11 "_law_tree_kind" ["state", "script", "room"] (sp_law_tree_kind 9)) (L : Callee P w K mg 11 "_law_place" ["state", "script"] sp_law_place) (B : Callee P w K mg 11 "_law_big" ["state", "script"] sp_law_big) (A : Callee P w K mg 11 "_law_name" ["state", "script"] sp_law_name) (zi : mg "int" = none) (zr : mg "range" = none) (zt : mg "tuple" = none) :
    ∀ n : Nat, Callee P w K mg (n + 11) "_law_expression" ["state", "script", "room"] (sp_law_expression n)
  | 0 => F.none fun ds m P EX h => by obtain ⟨_, _, _, _, _, _, _, h1, h2, _⟩ := h; omega
  | n + 1 => ok_law_expression F (C.mono (by omega)) (N.mono (by omega)) (T.mono (by omega)) (L.mono (by omega)) (rec_expr F C N T L B A zi zr zt n) (B.mono (by omega)) (A.mono (by omega)) zi zr zt (by rintro ds m P EX ⟨_, _, _, _, rfl, _⟩; rfl) (rd_expr n)

/-! ### fields, functions -/
def fldD (p : Str × Kd) : D := .tup [.str p.1, p.2.D]
def fldsD (fs : List (Str × Kd)) : D := .tup (fs.map fldD)
structure FOk (fs : List (Str × Kd)) : Prop where
  len : fs.length ≤ 6
  all : ∀ p ∈ fs, NameOk p.1 ∧ WT 3 p.2

def sp_law_kind_row (n : Nat) : DSp := fun ds m P _ => ∃ k, ds = [Kd.D k] ∧ WT n k ∧ n ≤ 1000 ∧ ∀ p, m p = none → P (.ref p) (put m p (.lst ((kR k).map D.str)))
theorem use_krow {n j : Nat} {k : Kd} {m : M} {P : DK} (h : WT j k) (e : j ≤ n) (hn : n ≤ 1000) (q : ∀ p, m p = none → P (.ref p) (put m p (.lst ((kR k).map D.str)))) : sp_law_kind_row n [k.D] m P noX := ⟨k, rfl, h.mono e, hn, q⟩
theorem WT.size {n : Nat} {k : Kd} (h : WT n k) (hn : n ≤ 1000) : (kR k).length ≤ 7000 := by have := h.wt; have := wt_len (kR k); omega
local macro_rules | `(tactic| one_sign) => `(tactic| first
  | (rename WT _ _ => hW; have hA := hW.size (by omega); have hB := PySem.sizeLine_eq; simp only [List.length_map, List.length_cons, List.length_nil, List.length_append]; omega) | fail)
local macro_rules | `(tactic| lcg_sub) => `(tactic| ((with_reducible refine' use_krow ?h1 ?h2 ?h3 ?h4); (case h1 => assumption); (case h2 => omega); (case h3 => omega); intro p hp; (try simp only [put_none] at hp); (repeat' (rename _ ∧ _ => hA; obtain ⟨_, _⟩ := hA))))
theorem rowsJ_take {α : Type} {f : α → List Str} {ks : List α} {i : Nat} {k : α} (h : ks[i]? = some k) : rowsJ ((ks.take (i + 1)).map f) = (if i = 0 then [] else rowsJ ((ks.take i).map f) ++ [(("," : Str))]) ++ f k := by
  rw [List.take_add_one, h, List.map_append]
  have hlt := (List.getElem?_eq_some_iff.mp h).1
  by_cases e : i = 0
  · subst e
    simp [rowsJ]
  · rw [if_neg e]
    show rowsJ ((ks.take i).map f ++ [f k]) = _
    rw [rowsJ_snoc _ _ (by
      intro z
      have := congrArg List.length z
      rw [List.length_map, List.length_take, List.length_nil] at this
      omega), List.append_assoc]
    rfl
theorem rd_krow (n : Nat) : ∀ ds m P EX, sp_law_kind_row (n + 1) ds m P EX → Go P (b_law_kind_row (sp_law_kind_row n)) (dstart ["kind", "row", "k"] ds) m := by
  rintro ds m P EX ⟨k, rfl, hk, hn, q⟩
  show b_law_kind_row (sp_law_kind_row n) { nx := fun _ m' => Ret P .non m', rt := Ret P } [some k.D, none, none] m
  unfold b_law_kind_row
  have ht := hk.wt
  cases hk
  all_goals (first | rw [Kd.D_tup] | unfold Kd.D)
  all_goals unfold kR at q
  all_goals top_strB
  all_goals (first
    | (refine ⟨_, ?_, q _ (by first | assumption | (have hz := ‹_ ∧ _›; exact hz.2) | grind)⟩; one_item)
    | skip)
  · rename_i ks h1 h2 h p hp
    have hl : ∀ i, (rowsJ ((ks.take i).map kR)).length ≤ 6 * 7010 := fun i => by
      have a := wt_rowsJ ((ks.take i).map kR)
      rw [List.map_map] at a
      have b := sum_le (f := (fun r => wt r + 2) ∘ kR) (n := 7002) (xs := ks.take i) fun k hk => by
        have := (h k (List.mem_of_mem_take hk)).wt
        show wt (kR k) + 2 ≤ 7002
        omega
      rw [List.length_take] at b
      have c := wt_len (rowsJ ((ks.take i).map kR))
      have d : min i ks.length * 7002 ≤ 6 * 7002 := Nat.mul_le_mul_right _ (by omega)
      omega
    refine ⟨⟨by rw [List.length_map]; omega, by rw [List.length_map]; omega⟩, fun i sd m' => ∃ kk, sd = [some (.tup [.str "tuple", .tup (ks.map Kd.D)]), some (.ref p), kk] ∧ m' = put m p (.lst (((("(" : Str)) :: rowsJ ((ks.take i).map kR)).map D.str)), ⟨_, rfl, rfl⟩, ?_, ?_⟩
    · rintro i _ _ hi ⟨kk, rfl, rfl⟩
      have hlt : i < ks.length := by rw [List.length_map] at hi; omega
      have hki : ks[i]? = some ks[i] := List.getElem?_eq_getElem hlt
      have hx : (ks.map Kd.D)[i]? = some (Kd.D ks[i]) := by rw [List.getElem?_map, hki]; rfl
      have hW : WT n ks[i] := (h _ (List.getElem_mem hlt)).mono (by omega)
      have hl := hl i
      have et := rowsJ_take (f := kR) hki
      refine s_seq ?_
      lcg_off
      · refine ⟨_, ?_, _, rfl, rfl⟩
        rw [et, if_neg (by omega)]
        simp only [List.map_append, List.map_cons, List.cons_append, List.append_assoc, List.map_nil]
        one_item
      · refine ⟨_, ?_, _, rfl, rfl⟩
        have : i = 0 := by omega
        subst this
        rw [et, if_pos rfl]
        simp only [List.map_append, List.map_cons, List.cons_append, List.append_assoc, List.map_nil, List.take_zero, rowsJ, List.nil_append]
        one_item
    · rintro _ _ ⟨kk, rfl, rfl⟩
      rw [List.length_map, Int.toNat_natCast, List.take_length]
      have hl := hl ks.length
      rw [List.take_length] at hl
      lcg_off
      rename_i z hz1 hz2 hz3
      rw [kRs_map] at q
      refine ⟨_, ?_, q z hz3⟩
      simp only [List.map_append, List.map_cons, List.cons_append, List.append_assoc, List.map_nil]
      one_item
theorem rec_krow {P : Program} {w : World} {K : PySem.W.Frag} {mg : Str → Option Value} (F : FunAt K mg "_law_kind_row" s_law_kind_row ["kind"]) (zl : mg "len" = none) (zr : mg "range" = none) :
    ∀ n : Nat, Callee P w K mg n "_law_kind_row" ["kind"] (sp_law_kind_row n)
  | 0 => F.none fun ds m P EX h => by obtain ⟨_, _, h, _⟩ := h; cases h
  | n + 1 => ok_law_kind_row F (rec_krow F zl zr n) zl zr (by rintro ds m P EX ⟨_, rfl, _⟩; rfl) (rd_krow n)

/-! ### the row of fields; the text of a row -/
def fldR1 (p : Str × Kd) : List Str := p.1 :: ((":" : Str)) :: kR p.2
def fldR (fs : List (Str × Kd)) : List Str := rowsJ (fs.map fldR1)
theorem fld1_wt {p : Str × Kd} (h : NameOk p.1 ∧ WT 3 p.2) : wt (fldR1 p) ≤ 1000 := by
  unfold fldR1
  rw [wt_cons, wt_cons]
  have a := h.1.len
  have b := h.2.wt
  have c : ((":" : Str)).length = 1 := by decide +kernel
  omega
theorem fldR_wt {fs : List (Str × Kd)} (h : FOk fs) (i : Nat) : wt (fldR (fs.take i)) ≤ 6 * 1002 := by
  unfold fldR
  have a := wt_rowsJ ((fs.take i).map fldR1)
  rw [List.map_map] at a
  have b := sum_le (f := (fun r => wt r + 2) ∘ fldR1) (n := 1002) (xs := fs.take i) fun p hp => by
    have := fld1_wt (h.all p (List.mem_of_mem_take hp))
    show wt (fldR1 p) + 2 ≤ 1002
    omega
  rw [List.length_take] at b
  have := h.len
  have d : min i fs.length * 1002 ≤ 6 * 1002 := Nat.mul_le_mul_right _ (by omega)
  omega
theorem fldR_wt0 {fs : List (Str × Kd)} (h : FOk fs) : wt (fldR fs) ≤ 6 * 1002 := by
  have := fldR_wt h fs.length
  rw [List.take_length] at this
  exact this
def sp_law_field_row : DSp := fun ds m P _ => ∃ fs, ds = [fldsD fs] ∧ FOk fs ∧ ∀ p, m p = none → P (.ref p) (put m p (.lst ((fldR fs).map D.str)))
theorem use_frow {fs : List (Str × Kd)} {m : M} {P : DK} (h : FOk fs) (q : ∀ p, m p = none → P (.ref p) (put m p (.lst ((fldR fs).map D.str)))) : sp_law_field_row [fldsD fs] m P noX := ⟨fs, rfl, h, q⟩
theorem rd_frow : ∀ ds m P EX, sp_law_field_row ds m P EX → Go P (b_law_field_row (sp_law_kind_row 9)) (dstart ["fields", "row", "k"] ds) m := by
  rintro ds m P EX ⟨fs, rfl, hf, q⟩
  show b_law_field_row (sp_law_kind_row 9) { nx := fun _ m' => Ret P .non m', rt := Ret P } [some (.tup (fs.map fldD)), none, none] m
  unfold b_law_field_row
  lcg_off
  refine s_seq ?_
  lcg_off
  rename_i p hp
  have hfl := hf.len
  refine ⟨⟨by rw [List.length_map]; omega, by rw [List.length_map]; omega⟩, fun i sd m' => ∃ kk, sd = [some (.tup (fs.map fldD)), some (.ref p), kk] ∧ m' = put m p (.lst ((fldR (fs.take i)).map D.str)), ⟨_, rfl, rfl⟩, ?_, ?_⟩
  · rintro i _ _ hi ⟨kk, rfl, rfl⟩
    have hlt : i < fs.length := by rw [List.length_map] at hi; omega
    have hki : fs[i]? = some fs[i] := List.getElem?_eq_getElem hlt
    have hx : (fs.map fldD)[i]? = some (.tup [.str fs[i].1, Kd.D fs[i].2]) := by rw [List.getElem?_map, hki]; rfl
    have hW : WT 3 fs[i].2 := (hf.all _ (List.getElem_mem hlt)).2
    have et : fldR (fs.take (i + 1)) = _ := rowsJ_take (f := fldR1) hki
    have hw := fldR_wt hf i
    have hl := wt_len (fldR (fs.take i))
    refine s_seq ?_
    lcg_off
    · refine ⟨_, ?_, _, rfl, rfl⟩
      rw [et, if_neg (by omega)]
      show Less (put m p (.lst (List.map D.str (fldR (fs.take i) ++ [(("," : Str))] ++ fldR1 fs[i])))) _
      simp only [fldR1, List.map_append, List.map_cons, List.cons_append, List.append_assoc, List.map_nil, List.nil_append]
      one_item
    · refine ⟨_, ?_, _, rfl, rfl⟩
      have : i = 0 := by omega
      subst this
      rw [et, if_pos rfl]
      simp only [fldR, fldR1, List.map_append, List.map_cons, List.cons_append, List.append_assoc, List.map_nil, List.take_zero, rowsJ, List.nil_append]
      one_item
  · rintro _ _ ⟨kk, rfl, rfl⟩
    rw [List.length_map, Int.toNat_natCast, List.take_length]
    lcg_off
    exact ⟨_, Less.refl _, q p ‹_›⟩
local macro_rules | `(tactic| lcg_sub) => `(tactic| ((with_reducible refine' use_frow ?h1 ?h2); (case h1 => assumption); intro p hp; (try simp only [put_none] at hp); (repeat' (rename _ ∧ _ => hA; obtain ⟨_, _⟩ := hA))))
def sp_law_is_named : DSp := fun ds m P _ => ∃ z, ds = [.str z] ∧ 0 < z.length ∧ z.length ≤ 200000 ∧ P (.bl (named z)) m
theorem use_named {z : Str} {m : M} {P : DK} (h : 0 < z.length) (h2 : z.length ≤ 200000) (q : P (.bl (named z)) m) : sp_law_is_named [.str z] m P noX := ⟨z, rfl, h, h2, q⟩
theorem r_inSg {c : Nat} {z : Str} {m : M} {P : DK} (q : P (.bl (decide (c ∈ z.cps.toList))) m) : rInD (.str ⟨#[c]⟩) (.str z) m P := .inr ⟨c, z, rfl, rfl, q⟩
theorem rd_named : ∀ ds m P EX, sp_law_is_named ds m P EX → Go P (b_law_is_named sp_law_words) (dstart ["token", "letters"] ds) m := by
  rintro ds m P EX ⟨z, rfl, h0, h1, q⟩
  show b_law_is_named sp_law_words { nx := fun _ m' => Ret P .non m', rt := Ret P } [some (.str z), none] m
  unfold b_law_is_named
  have hlt : 0 < z.cps.toList.length := by rw [Array.length_toList]; exact h0
  have hz : z.cps.toList[0]? = some z.cps.toList[0] := List.getElem?_eq_getElem hlt
  have hh : headN z = some z.cps.toList[0] := by unfold headN; rw [List.head?_eq_getElem?]; exact hz
  have hn : named z = (decide (z.cps.toList[0] ∈ letS.cps.toList) && !decide (z ∈ lawWords)) := by unfold named; rw [hh]
  rw [hn] at q
  lcg_off
  refine ⟨by rw [PySem.sizeLine_eq]; omega, _, atI_nat hz, ?_⟩
  lcg_off
  refine r_inSg ?_
  show if decide (z.cps.toList[0] ∈ letS.cps.toList) = true then _ else _
  by_cases hc : z.cps.toList[0] ∈ letS.cps.toList
  · rw [if_pos (decide_eq_true hc)]
    rw [decide_eq_true hc] at q
    lcg_off
    exact ⟨m, by one_item, q⟩
  · rw [if_neg (by rw [decide_eq_true_eq]; exact hc)]
    rw [decide_eq_false hc] at q
    exact ⟨m, Less.refl _, q⟩
theorem lineGo_snoc : ∀ (p : Str) (ts : List Str) (t : Str), lineGo p (ts ++ [t]) = lineGo p ts ++ (gapL (ts.getLastD p) t ++ t)
  | p, [], t => by rw [List.nil_append, lineGo, lineGo, lineGo, sapp_nil, snil_app]; rfl
  | p, u :: ts, t => by
    rw [List.cons_append, lineGo, lineGo, lineGo_snoc u ts t, List.getLastD_cons]
    simp only [sapp_assoc]
theorem lineL_take {ts : List Str} {i : Nat} {a b : Str} (h0 : ts[i]? = some a) (h1 : ts[i + 1]? = some b) : lineL (ts.take (i + 1 + 1)) = lineL (ts.take (i + 1)) ++ (gapL a b) ++ b := by
  rw [List.take_add_one (i := i + 1), h1]
  have e : ∃ u r, ts.take (i + 1) = u :: r := by
    cases ts with
    | nil => cases h0
    | cons u r => exact ⟨u, r.take i, rfl⟩
  obtain ⟨u, r, e⟩ := e
  have el : r.getLastD u = a := by
    have x : (ts.take (i + 1)).getLast? = some a := by rw [List.take_add_one, h0]; simp
    rw [e] at x
    rw [List.getLast?_cons] at x
    simpa using x
  rw [e]
  show lineL (u :: (r ++ [b])) = _
  rw [lineL, lineL, lineGo_snoc, el]
  simp only [sapp_assoc]

/-! ### the text of a row -/
def sp_law_line : DSp := fun ds m P _ => ∃ a ts, ds = [.ref a] ∧ m a = some (.lst (List.map D.str ts)) ∧ ts ≠ [] ∧ OkT ts ∧ wt ts ≤ 200000 ∧ P (.str (lineL ts)) m
theorem use_line {a : Addr} {ts : List Str} {m : M} {P : DK} (h : m a = some (.lst (List.map D.str ts))) (h1 : ts ≠ []) (h2 : OkT ts) (h3 : wt ts ≤ 200000) (q : P (.str (lineL ts)) m) : sp_law_line [.ref a] m P noX := ⟨a, ts, rfl, h, h1, h2, h3, q⟩
theorem wt_get {ts : List Str} {i : Nat} {t : Str} (h : ts[i]? = some t) : t.length ≤ wt ts := by
  induction ts generalizing i with
  | nil => cases h
  | cons u r ih =>
    rw [wt_cons]
    cases i with
    | zero => cases h; omega
    | succ i => have := ih h; omega
theorem wt_take (ts : List Str) (i : Nat) : wt (ts.take i) ≤ wt ts := by
  have e := wt_app (ts.take i) (ts.drop i)
  rw [List.take_append_drop] at e
  omega
theorem gap_of {a b : Str} : gapL a b = if b ∈ puncA ∨ a ∈ puncB then ("" : Str) else if b = "(" ∧ named a = true then "" else " " := rfl
theorem rd_line : ∀ ds m P EX, sp_law_line ds m P EX → Go P (b_law_line sp_law_is_named) (dstart ["row", "text", "k", "gap"] ds) m := by
  rintro ds m P EX ⟨a, ts, rfl, hm, hne, hok, hw, q⟩
  show b_law_line sp_law_is_named { nx := fun _ m' => Ret P .non m', rt := Ret P } [some (.ref a), none, none, none] m
  unfold b_law_line
  obtain ⟨t0, r0, rfl⟩ : ∃ t r, ts = t :: r := by
    cases ts with
    | nil => exact absurd rfl hne
    | cons t r => exact ⟨t, r, rfl⟩
  have h00 : atI (List.map D.str (t0 :: r0)) 0 = some (.str t0) := atI_nat (xs := List.map D.str (t0 :: r0)) (j := 0) (v := D.str t0) rfl
  have hlen := wt_len (t0 :: r0)
  have hsz := PySem.sizeLine_eq
  lcg_off
  refine s_seq ?_
  lcg_off
  refine ⟨by simp only [List.length_map]; omega, fun i sd m' => ∃ kk gg, sd = [some (.ref a), some (.str (lineL ((t0 :: r0).take (i + 1)))), kk, gg] ∧ m' = m, ⟨_, _, rfl, rfl⟩, ?_, ?_⟩
  · rintro i _ m1 hi ⟨kk, gg, rfl, rfl⟩
    have hlt : i + 1 < (t0 :: r0).length := by simp only [List.length_map] at hi; omega
    obtain ⟨u, hu⟩ : ∃ u, (t0 :: r0)[i]? = some u := ⟨_, List.getElem?_eq_getElem (by omega)⟩
    obtain ⟨v, hv⟩ : ∃ v, (t0 :: r0)[i + 1]? = some v := ⟨_, List.getElem?_eq_getElem hlt⟩
    have iu : atI (List.map D.str (t0 :: r0)) (1 + (i : Int) - 1) = some (.str u) := by
      have e : 1 + (i : Int) - 1 = (i : Nat) := by omega
      rw [e]
      exact atI_nat (by rw [List.getElem?_map, hu]; rfl)
    have iv : atI (List.map D.str (t0 :: r0)) (1 + (i : Int)) = some (.str v) := by
      have e : 1 + (i : Int) = ((i + 1 : Nat) : Int) := by omega
      rw [e]
      exact atI_nat (by rw [List.getElem?_map, hv]; rfl)
    have hu0 : 0 < u.length := hok u (List.mem_of_getElem? hu)
    have hv0 : 0 < v.length := hok v (List.mem_of_getElem? hv)
    have hu1 := wt_get hu
    have hv1 := wt_get hv
    have hl1 := lineL_len ((t0 :: r0).take (i + 1))
    have hl2 := wt_take (t0 :: r0) (i + 1)
    generalize hT : lineL ((t0 :: r0).take (i + 1)) = T at *
    have hg := gap_len u v
    lcg_off
    refine s_cut (fun sd m' => sd = [some (.ref a), some (.str T), some (.int (1 + (i : Int))), some (.str (if v ∈ puncA ∨ u ∈ puncB then ("" : Str) else " "))] ∧ m' = m1) ?_ ?_
    · lcg_off
      · rename_i hA
        exact ⟨m1, by one_item, by rw [if_pos (Or.inl (show v ∈ puncA from hA))], rfl⟩
      · rename_i hB
        exact ⟨m1, by one_item, by rw [if_pos (Or.inr (show u ∈ puncB from hB))], rfl⟩
      · rename_i p1 _ hA p2 _ _ hB
        exact ⟨m1, by one_item, by rw [if_neg (fun h => h.elim hA hB)], rfl⟩
    · rintro _ m1 ⟨rfl, rfl⟩
      refine s_cut (fun sd m' => sd = [some (.ref a), some (.str T), some (.int (1 + (i : Int))), some (.str (gapL u v))] ∧ m' = m1) ?_ ?_
      · lcg_off
        · rename_i hv2
          refine use_named hu0 (by omega) ?_
          cases hnm : named u
          all_goals lcg_off
          · refine ⟨m1, Less.refl _, ?_, rfl⟩
            rw [gap_of, if_neg (fun h : v = "(" ∧ named u = true => by rw [hnm] at h; exact nomatch h.2)]
          · refine ⟨m1, Less.refl _, ?_, rfl⟩
            rw [gap_of, if_pos (c := v = "(" ∧ named u = true) ⟨hv2, hnm⟩]
            split <;> rfl
        · rename_i hv2
          refine ⟨m1, Less.refl _, ?_, rfl⟩
          rw [gap_of, if_neg (fun h : v = "(" ∧ named u = true => hv2 h.1)]
      · rintro _ m1 ⟨rfl, rfl⟩
        have hs1 : T.length + (gapL u v).length ≤ sizeLine := by omega
        have hs2 : (T ++ gapL u v).length + v.length ≤ sizeLine := by rw [slen_app]; omega
        lcg_off
        exact ⟨_, Less.refl _, _, _, by rw [lineL_take hu hv, hT], rfl⟩
  · rintro _ m1 ⟨kk, gg, rfl, rfl⟩
    lcg_off
    have e : (t0 :: r0).take ((((List.map D.str (t0 :: r0)).length : Int) - 1).toNat + 1) = t0 :: r0 := List.take_of_length_le (by simp only [List.length_map, List.length_cons]; omega)
    rw [e]
    exact ⟨_, Less.refl _, q⟩
local macro_rules | `(tactic| lcg_sub) => `(tactic| ((with_reducible refine' use_line ?h1 ?h2 ?h3 ?h4 ?h5); (case h1 => lcg_src); (case h2 => assumption); (case h3 => assumption); (case h4 => assumption)))

/-! ### blocks: their data, their rows (steps further in), their lines -/
structure Bk where
  d : D
  rows : List (Nat × List Str)
  lines : List Str
def indS (n : Nat) : Str := Txt.mul "    " (n : Int)
def lineT (r : Nat × List Str) : Str := indS r.1 ++ lineL r.2
def rowW (r : Nat × List Str) : Nat := 4 * r.1 + wt r.2 + 1
def rowsW (rs : List (Nat × List Str)) : Nat := (rs.map rowW).sum
structure RowOk (r : Nat × List Str) : Prop where
  ne : r.2 ≠ []
  ok : OkT r.2
  w : wt r.2 ≤ 200000
  d : r.1 ≤ 1000
theorem rowsW_app (a b : List (Nat × List Str)) : rowsW (a ++ b) = rowsW a + rowsW b := by unfold rowsW; rw [List.map_append, List.sum_append]
theorem rowsW_cons (r : Nat × List Str) (b : List (Nat × List Str)) : rowsW (r :: b) = rowW r + rowsW b := by unfold rowsW; rw [List.map_cons, List.sum_cons]
theorem rowsW_len (rs : List (Nat × List Str)) : rs.length ≤ rowsW rs := by
  induction rs with
  | nil => exact Nat.le_refl _
  | cons t r ih => rw [rowsW_cons, List.length_cons]; unfold rowW; omega
/-- one step further in -/
def inR (r : Nat × List Str) : Nat × List Str := (1 + r.1, r.2)
/-! ### rows in memory -/
def rowD (q : (Nat × List Str) × Addr) : D := .tup [.int q.1.1, .ref q.2]
structure RowsAt (m : M) (p : Addr) (rs : List ((Nat × List Str) × Addr)) : Prop where
  at_ : m p = some (.lst (rs.map rowD))
  row : ∀ q ∈ rs, m q.2 = some (.lst (q.1.2.map D.str)) ∧ q.2 ≠ p
theorem RowsAt.nil {m : M} {p : Addr} : RowsAt (put m p (.lst [])) p [] := ⟨put_same, (fun _ h => by cases h)⟩
theorem RowsAt.other {m : M} {p a : Addr} {rs : List ((Nat × List Str) × Addr)} {o : DO} (h : RowsAt m p rs) (hp : a ≠ p) (hr : ∀ q ∈ rs, q.2 ≠ a) : RowsAt (put m a o) p rs :=
  ⟨by rw [put_ne (Ne.symm hp)]; exact h.at_, fun q hq => ⟨by rw [put_ne (hr q hq)]; exact (h.row q hq).1, (h.row q hq).2⟩⟩
theorem RowsAt.fresh {m : M} {p a : Addr} {rs : List ((Nat × List Str) × Addr)} (h : RowsAt m p rs) (n : m a = none) : a ≠ p ∧ ∀ q ∈ rs, q.2 ≠ a :=
  ⟨(fun e => by have := h.at_; rw [← e, n] at this; cases this), (fun q hq e => by have := (h.row q hq).1; rw [e, n] at this; cases this)⟩
theorem RowsAt.new {m : M} {p a : Addr} {rs : List ((Nat × List Str) × Addr)} {o : DO} (h : RowsAt m p rs) (n : m a = none) : RowsAt (put m a o) p rs := h.other (h.fresh n).1 (h.fresh n).2
theorem RowsAt.more {m m' : M} {p : Addr} {rs : List ((Nat × List Str) × Addr)} (h : RowsAt m p rs) (l : Less m m') : RowsAt m' p rs := ⟨l _ _ h.at_, fun q hq => ⟨l _ _ (h.row q hq).1, (h.row q hq).2⟩⟩
theorem RowsAt.snoc {m : M} {p a : Addr} {rs : List ((Nat × List Str) × Addr)} {d : Nat} {ts : List Str} (h : RowsAt m p rs) (n : a ≠ p) (ha : m a = some (.lst (ts.map D.str))) :
    RowsAt (put m p (.lst (rs.map rowD ++ [.tup [.int d, .ref a]]))) p (rs ++ [((d, ts), a)]) := by
  refine ⟨by rw [put_same, List.map_append]; rfl, fun q hq => ?_⟩
  rcases List.mem_append.mp hq with hq | hq
  · exact ⟨by rw [put_ne (h.row q hq).2]; exact (h.row q hq).1, (h.row q hq).2⟩
  · rw [List.mem_singleton] at hq
    subst hq
    exact ⟨by rw [put_ne n]; exact ha, n⟩
theorem RowsAt.app {m : M} {p b : Addr} {rs ss : List ((Nat × List Str) × Addr)} (h : RowsAt m p rs) (h' : RowsAt m b ss) (n : ∀ q ∈ ss, q.2 ≠ p) : RowsAt (put m p (.lst (rs.map rowD ++ ss.map rowD))) p (rs ++ ss) := by
  refine ⟨by rw [put_same, List.map_append], fun q hq => ?_⟩
  rcases List.mem_append.mp hq with hq | hq
  · exact ⟨by rw [put_ne (h.row q hq).2]; exact (h.row q hq).1, (h.row q hq).2⟩
  · exact ⟨by rw [put_ne (n q hq)]; exact (h'.row q hq).1, n q hq⟩

/-! ### statements -/
inductive Sm where
  | let_ (z : Str) (e : Ex) | kw (w : Str) (e : Ex) | store (p : Plc) (e : Ex)
  | if_ (e : Ex) (a b : List Sm) | while_ (e : Ex) (a : List Sm)
mutual
def Sm.D : Sm → D
  | .let_ z e => .tup [.str "let", .str z, e.D]
  | .kw w e => .tup [.str w, e.D]
  | .store p e => .tup [.str "store", p.D, e.D]
  | .if_ e a b => .tup [.str "if", e.D, .tup (Sm.Ds a), .tup (Sm.Ds b)]
  | .while_ e a => .tup [.str "while", e.D, .tup (Sm.Ds a)]
def Sm.Ds : List Sm → List Q4.D
  | [] => []
  | s :: ss => s.D :: Sm.Ds ss
end
theorem Sm.Ds_map : ∀ ss : List Sm, Sm.Ds ss = ss.map Sm.D
  | [] => rfl
  | e :: es => by rw [Sm.Ds, Sm.Ds_map es]; rfl
/-- d steps further in -/
def shR (d : Nat) (r : Nat × List Str) : Nat × List Str := (d + r.1, r.2)
mutual
def smR : Sm → List (Nat × List Str)
  | .let_ z e => [(0, ("let" : Str) :: z :: ("=" : Str) :: (exR e ++ [(";" : Str)]))]
  | .kw w e => [(0, w :: (exR e ++ [(";" : Str)]))]
  | .store p e => [(0, p.R ++ ("=" : Str) :: (exR e ++ [(";" : Str)]))]
  | .if_ e a b => (0, ("if" : Str) :: (exR e ++ [("{" : Str)])) :: ((smRs a).map inR ++ (0, [("}" : Str), ("else" : Str), ("{" : Str)]) :: ((smRs b).map inR ++ [(0, [("}" : Str)])]))
  | .while_ e a => (0, ("while" : Str) :: (exR e ++ [("{" : Str)])) :: ((smRs a).map inR ++ [(0, [("}" : Str)])])
def smRs : List Sm → List (Nat × List Str)
  | [] => []
  | s :: ss => smR s ++ smRs ss
end
theorem smRs_map : ∀ ss : List Sm, smRs ss = (ss.map smR).flatten
  | [] => rfl
  | s :: ss => by rw [smRs, smRs_map ss]; rfl
theorem smRs_snoc (ss : List Sm) (s : Sm) : smRs (ss ++ [s]) = smRs ss ++ smR s := by
  rw [smRs_map, smRs_map, List.map_append, List.flatten_append]
  simp
def indT (s : Str) : Str := ("    " : Str) ++ s
mutual
def smL : Sm → List Str
  | .let_ z e => [("let " : Str) ++ z ++ (" = " : Str) ++ exT e ++ (";" : Str)]
  | .kw w e => [w ++ (" " : Str) ++ exT e ++ (";" : Str)]
  | .store p e => [p.T ++ (" = " : Str) ++ exT e ++ (";" : Str)]
  | .if_ e a b => (("if" : Str) ++ (" " : Str) ++ exT e ++ (" {" : Str)) :: ((smLs a).map indT ++ ("} else {" : Str) :: ((smLs b).map indT ++ [("}" : Str)]))
  | .while_ e a => (("while" : Str) ++ (" " : Str) ++ exT e ++ (" {" : Str)) :: ((smLs a).map indT ++ [("}" : Str)])
def smLs : List Sm → List Str
  | [] => []
  | s :: ss => smL s ++ smLs ss
end
theorem smLs_map : ∀ ss : List Sm, smLs ss = (ss.map smL).flatten
  | [] => rfl
  | s :: ss => by rw [smLs, smLs_map ss]; rfl
theorem smLs_snoc (ss : List Sm) (s : Sm) : smLs (ss ++ [s]) = smLs ss ++ smL s := by
  rw [smLs_map, smLs_map, List.map_append, List.flatten_append]
  simp
def kwW : List Str := ["do", "print", "return"]
structure EOk (x : Ex) : Prop where
  e : WE 5 x
  w : wt (exR x) ≤ 150000
inductive WS : Nat → Sm → Prop where
  | let_ {n z e} : NameOk z → EOk e → WS (n + 1) (.let_ z e)
  | kw {n w e} : w ∈ kwW → EOk e → WS (n + 1) (.kw w e)
  | store {n p e} : Plc.Ok p → EOk e → WS (n + 1) (.store p e)
  | if_ {n e a b} : EOk e → (∀ s ∈ a, WS n s) → (∀ s ∈ b, WS n s) → a.length ≤ 10 → b.length ≤ 10 → WS (n + 1) (.if_ e a b)
  | while_ {n e a} : EOk e → (∀ s ∈ a, WS n s) → a.length ≤ 10 → WS (n + 1) (.while_ e a)
theorem WS.mono : ∀ {n m : Nat} {s : Sm}, WS n s → n ≤ m → WS m s
  | _, m + 1, _, .let_ h1 h2, _ => .let_ h1 h2
  | _, m + 1, _, .kw h1 h2, _ => .kw h1 h2
  | _, m + 1, _, .store h1 h2, _ => .store h1 h2
  | n + 1, m + 1, _, .if_ h ha hb l1 l2, e => .if_ h (fun s hs => (ha s hs).mono (by omega)) (fun s hs => (hb s hs).mono (by omega)) l1 l2
  | n + 1, m + 1, _, .while_ h ha l1, e => .while_ h (fun s hs => (ha s hs).mono (by omega)) l1
  | _ + 1, 0, _, _, e => absurd e (by omega)
theorem kwW_ok {w : Str} (h : w ∈ kwW) : w ∉ puncB ∧ named w = false ∧ w.length ≤ 6 ∧ 0 < w.length := by
  have : kwW.all (fun w => decide (w ∉ puncB) && (named w == false) && decide (w.length ≤ 6) && decide (0 < w.length)) = true := by decide +kernel
  have := List.all_eq_true.mp this w h
  simp only [Bool.and_eq_true, decide_eq_true_eq, beq_iff_eq] at this
  exact ⟨this.1.1.1, this.1.1.2, this.1.2, this.2⟩
/-! indents -/
theorem indS_succ (n : Nat) : indS (1 + n) = indT (indS n) := by
  have key : ∀ (k : Nat) (acc : Array Nat), ((List.replicate k ("    " : Str).cps).foldl (· ++ ·) acc) = acc ++ ((List.replicate k ("    " : Str).cps).foldl (· ++ ·) #[]) := by
    intro k
    induction k with
    | zero => intro acc; simp
    | succ k ih =>
      intro acc
      rw [List.replicate_succ, List.foldl_cons, List.foldl_cons, ih (acc ++ _), ih (#[] ++ _), Array.append_assoc]
      simp
  have val : ∀ k : Nat, indS k = ⟨(List.replicate k ("    " : Str).cps).foldl (· ++ ·) #[]⟩ := by
    intro k
    unfold indS Txt.mul
    have e4 : (("    " : Str)).length = 4 := by decide +kernel
    match k with
    | 0 => rfl
    | 1 => rfl
    | k + 2 =>
      rw [if_neg (by omega)]
      have : (((k + 2 : Nat) : Int) == 1 || ("    " : Str).length == 0) = false := by
        rw [e4, Bool.or_eq_false_iff]
        exact ⟨beq_eq_false_iff_ne.mpr (by omega), rfl⟩
      simp only [this]
      rfl
  rw [val, val, Nat.add_comm, List.replicate_succ, List.foldl_cons, key]
  show Str.mk _ = Str.mk (_ ++ _)
  simp
theorem lineT_in (r : Nat × List Str) : lineT (inR r) = indT (lineT r) := by
  unfold lineT inR
  rw [indS_succ]
  unfold indT
  rw [sapp_assoc]
theorem lineT_in' (rs : List (Nat × List Str)) : (rs.map inR).map lineT = (rs.map lineT).map indT := by
  rw [List.map_map, List.map_map]
  exact List.map_congr_left fun r _ => lineT_in r
theorem lineT_0 (ts : List Str) : lineT (0, ts) = lineL ts := by
  have e : indS 0 = ("" : Str) := by decide +kernel
  unfold lineT
  rw [e, snil_app]
/-! the lines are the rows' texts -/
theorem semi_ph {ts : List Str} {h l x : Str} (a : Ph ts h l x) : Ph (ts ++ [(";" : Str)]) h ";" (x ++ (";" : Str)) := (a.app (Ph.one ";") (gapA (by decide +kernel))).is (by rw [snil_app]) rfl
theorem head_ph {w : Str} {e : Ex} {n : Nat} (he : WE n e) (hB : w ∉ puncB) (hn : named w = false) : ∃ l, Ph (w :: exR e) w l (w ++ ((" " : Str) ++ exT e)) ∧ l ∉ puncB := by
  obtain ⟨h1, l1, a, n1, m1⟩ := he.phk
  exact ⟨l1, ((Ph.one w).sp a n1 hB (.inr hn)), m1⟩
theorem ln_let {z : Str} {e : Ex} (hz : NameOk z) (he : EOk e) : lineL (("let" : Str) :: z :: ("=" : Str) :: (exR e ++ [(";" : Str)])) = ("let " : Str) ++ z ++ (" = " : Str) ++ exT e ++ (";" : Str) := by
  obtain ⟨l, a, m⟩ := head_ph (w := "=") he.e (by decide +kernel) (by decide +kernel)
  refine Ph.line ((semi_ph ((Ph.one "let").sp ((Ph.one z).sp a (by decide +kernel) hz.nB (.inl (by decide +kernel))) hz.nA (by decide +kernel) (.inl hz.nP))).is ?_ ?_)
  · have e1 : ("let " : Str) = ("let" : Str) ++ (" " : Str) := by decide +kernel
    have e2 : (" = " : Str) = (" " : Str) ++ (("=" : Str) ++ (" " : Str)) := by decide +kernel
    rw [e1, e2]
    simp only [sapp_assoc]
  · simp
theorem ln_kw {w : Str} {e : Ex} (hw : w ∈ kwW) (he : EOk e) : lineL (w :: (exR e ++ [(";" : Str)])) = w ++ (" " : Str) ++ exT e ++ (";" : Str) := by
  obtain ⟨o1, o2, _⟩ := kwW_ok hw
  obtain ⟨l, a, m⟩ := head_ph he.e o1 o2
  refine Ph.line ((semi_ph a).is ?_ ?_)
  · simp only [sapp_assoc]
  · simp
theorem ln_store {p : Plc} {e : Ex} (hp : p.Ok) (he : EOk e) : lineL (p.R ++ ("=" : Str) :: (exR e ++ [(";" : Str)])) = p.T ++ (" = " : Str) ++ exT e ++ (";" : Str) := by
  obtain ⟨l, a, m⟩ := head_ph (w := "=") he.e (by decide +kernel) (by decide +kernel)
  obtain ⟨h1, l1, b, n1, m1⟩ := hp.phk
  refine Ph.line ((semi_ph (b.sp a (by decide +kernel) m1 (.inl (by decide +kernel)))).is ?_ ?_)
  · have e2 : (" = " : Str) = (" " : Str) ++ (("=" : Str) ++ (" " : Str)) := by decide +kernel
    rw [e2]
    simp only [sapp_assoc]
  · simp
theorem ln_open {w : Str} {e : Ex} (hB : w ∉ puncB) (hn : named w = false) (he : EOk e) : lineL (w :: (exR e ++ [("{" : Str)])) = w ++ (" " : Str) ++ exT e ++ (" {" : Str) := by
  obtain ⟨l, a, m⟩ := head_ph he.e hB hn
  refine Ph.line ((a.sp (Ph.one "{") (by decide +kernel) m (.inl (by decide +kernel))).is ?_ ?_)
  · have e1 : (" {" : Str) = (" " : Str) ++ ("{" : Str) := by decide +kernel
    rw [e1]
    simp only [sapp_assoc]
  · simp
theorem ln_close : lineL [("}" : Str)] = "}" := by decide +kernel
theorem ln_else : lineL [("}" : Str), ("else" : Str), ("{" : Str)] = "} else {" := by decide +kernel
theorem flat_eq {ss : List Sm} (h : ∀ s ∈ ss, (smR s).map lineT = smL s) : (smRs ss).map lineT = smLs ss := by
  induction ss with
  | nil => rfl
  | cons s ss ih => rw [smRs, smLs, List.map_append, h s List.mem_cons_self, ih fun s hs => h s (List.mem_cons_of_mem _ hs)]
theorem WS.lines : ∀ {n : Nat} {s : Sm}, WS n s → (smR s).map lineT = smL s
  | _, _, .let_ hz he => by rw [smR, smL, List.map_cons, List.map_nil, lineT_0, ln_let hz he]
  | _, _, .kw hw he => by rw [smR, smL, List.map_cons, List.map_nil, lineT_0, ln_kw hw he]
  | _, _, .store hp he => by rw [smR, smL, List.map_cons, List.map_nil, lineT_0, ln_store hp he]
  | _, _, .if_ he ha hb _ _ => by
    rw [smR, smL, List.map_cons, List.map_append, List.map_cons, List.map_append, List.map_cons, List.map_nil, lineT_0, lineT_0, lineT_0, ln_open (by decide +kernel) (by decide +kernel) he, ln_close, ln_else, lineT_in', lineT_in', flat_eq fun s hs => (ha s hs).lines, flat_eq fun s hs => (hb s hs).lines]
  | _, _, .while_ he ha _ => by
    rw [smR, smL, List.map_cons, List.map_append, List.map_cons, List.map_nil, lineT_0, lineT_0, ln_open (by decide +kernel) (by decide +kernel) he, ln_close, lineT_in', flat_eq fun s hs => (ha s hs).lines]
/-! weights -/
def rW (rs : List (Nat × List Str)) : Nat := (rs.map fun r => wt r.2 + 101).sum
theorem rW_app (a b : List (Nat × List Str)) : rW (a ++ b) = rW a + rW b := by unfold rW; rw [List.map_append, List.sum_append]
theorem rW_cons (r : Nat × List Str) (b : List (Nat × List Str)) : rW (r :: b) = wt r.2 + 101 + rW b := by unfold rW; rw [List.map_cons, List.sum_cons]
theorem rW_nil : rW [] = 0 := rfl
theorem rW_in (a : List (Nat × List Str)) : rW (a.map inR) = rW a := by unfold rW; rw [List.map_map]; rfl
theorem rW_len (rs : List (Nat × List Str)) : rs.length ≤ rW rs := by
  induction rs with
  | nil => exact Nat.le_refl _
  | cons t r ih => rw [rW_cons, List.length_cons]; omega
/-- every row of a statement -/
structure RowS (n : Nat) (r : Nat × List Str) : Prop where
  ne : r.2 ≠ []
  ok : OkT r.2
  w : wt r.2 ≤ 200000
  d : r.1 < n
theorem RowS.inn {n : Nat} {r : Nat × List Str} (h : RowS n r) : RowS (n + 1) (inR r) := ⟨h.ne, h.ok, h.w, by have := h.d; unfold inR; dsimp only; omega⟩
theorem rowS_flat {n : Nat} {ss : List Sm} (h : ∀ s ∈ ss, ∀ r ∈ smR s, RowS n r) : ∀ r ∈ (smRs ss).map inR, RowS (n + 1) r := fun r hr => by
  obtain ⟨q, hq, rfl⟩ := List.mem_map.mp hr
  rw [smRs_map, List.mem_flatten] at hq
  obtain ⟨l, hl, hq⟩ := hq
  obtain ⟨s, hs, rfl⟩ := List.mem_map.mp hl
  exact (h s hs q hq).inn
theorem lit1 {s : Str} {k : Nat} (h : s.length ≤ k) {ts : List Str} {j : Nat} (h2 : wt ts ≤ j) : wt (s :: ts) ≤ k + 1 + j := by rw [wt_cons]; omega
theorem wt_semi {ts : List Str} {k : Nat} (h : wt ts ≤ k) {c : Str} (hc : c.length ≤ 1) : wt (ts ++ [c]) ≤ k + 2 := by
  rw [wt_app, wt_cons, wt_nil]; omega
theorem WS.rows : ∀ {n : Nat} {s : Sm}, WS n s → ∀ r ∈ smR s, RowS n r
  | n + 1, _, .let_ hz he, r, hr => by
    rw [smR, List.mem_singleton] at hr
    subst hr
    refine ⟨by simp, .cons (by decide +kernel) (.cons hz.pos (.cons (by decide +kernel) (he.e.okt.app (.one (by decide +kernel))))), ?_, Nat.succ_pos _⟩
    exact Nat.le_trans (lit1 (k := 3) (by decide +kernel) (lit1 hz.len (lit1 (k := 1) (by decide +kernel) (wt_semi he.w (c := ";") (by decide +kernel))))) (by omega)
  | n + 1, _, .kw hw he, r, hr => by
    rw [smR, List.mem_singleton] at hr
    subst hr
    obtain ⟨_, _, o1, o2⟩ := kwW_ok hw
    refine ⟨by simp, .cons o2 (he.e.okt.app (.one (by decide +kernel))), ?_, Nat.succ_pos _⟩
    exact Nat.le_trans (lit1 o1 (wt_semi he.w (c := ";") (by decide +kernel))) (by omega)
  | n + 1, _, .store hp he, r, hr => by
    rw [smR, List.mem_singleton] at hr
    subst hr
    refine ⟨by simp [Plc.R], hp.okt.app (.cons (by decide +kernel) (he.e.okt.app (.one (by decide +kernel)))), ?_, Nat.succ_pos _⟩
    show wt (_ ++ _) ≤ _
    rw [wt_app]
    have := hp.wt
    have := lit1 (s := "=") (k := 1) (by decide +kernel) (wt_semi he.w (c := ";") (by decide +kernel))
    omega
  | n + 1, _, .if_ he ha hb _ _, r, hr => by
    rw [smR] at hr
    rcases List.mem_cons.mp hr with hr | hr
    · subst hr
      refine ⟨by simp, .cons (by decide +kernel) (he.e.okt.app (.one (by decide +kernel))), ?_, Nat.succ_pos _⟩
      exact Nat.le_trans (lit1 (k := 2) (by decide +kernel) (wt_semi he.w (c := "{") (by decide +kernel))) (by omega)
    · rcases List.mem_append.mp hr with hr | hr
      · exact rowS_flat (fun s hs => (ha s hs).rows) r hr
      · rcases List.mem_cons.mp hr with hr | hr
        · subst hr
          exact ⟨by simp, .cons (by decide +kernel) (.cons (by decide +kernel) (.one (by decide +kernel))), by decide +kernel, Nat.succ_pos _⟩
        · rcases List.mem_append.mp hr with hr | hr
          · exact rowS_flat (fun s hs => (hb s hs).rows) r hr
          · rw [List.mem_singleton] at hr
            subst hr
            exact ⟨by simp, .one (by decide +kernel), by decide +kernel, Nat.succ_pos _⟩
  | n + 1, _, .while_ he ha _, r, hr => by
    rw [smR] at hr
    rcases List.mem_cons.mp hr with hr | hr
    · subst hr
      refine ⟨by simp, .cons (by decide +kernel) (he.e.okt.app (.one (by decide +kernel))), ?_, Nat.succ_pos _⟩
      exact Nat.le_trans (lit1 (k := 5) (by decide +kernel) (wt_semi he.w (c := "{") (by decide +kernel))) (by omega)
    · rcases List.mem_append.mp hr with hr | hr
      · exact rowS_flat (fun s hs => (ha s hs).rows) r hr
      · rw [List.mem_singleton] at hr
        subst hr
        exact ⟨by simp, .one (by decide +kernel), by decide +kernel, Nat.succ_pos _⟩
/-! blocks -/
def mkBk (ss : List Sm) : Bk := ⟨.tup (ss.map Sm.D), smRs ss, (smLs ss).map indT⟩
def BkOk (b : Bk) : Prop := ∃ ss, b = mkBk ss ∧ (∀ s ∈ ss, WS 20 s) ∧ rW (smRs ss) ≤ 1500000
theorem smRs_rows {n : Nat} {ss : List Sm} (h : ∀ s ∈ ss, WS n s) : ∀ r ∈ smRs ss, RowS n r := fun r hr => by
  rw [smRs_map, List.mem_flatten] at hr
  obtain ⟨l, hl, hq⟩ := hr
  obtain ⟨s, hs, rfl⟩ := List.mem_map.mp hl
  exact (h s hs).rows r hq
theorem BkOk.w {b : Bk} (h : BkOk b) : rowsW (b.rows.map inR) ≤ 2000000 := by
  obtain ⟨ss, rfl, hs, hw⟩ := h
  have hr := smRs_rows hs
  show rowsW ((smRs ss).map inR) ≤ _
  have key : ∀ rs : List (Nat × List Str), (∀ r ∈ rs, RowS 20 r) → rowsW (rs.map inR) ≤ rW rs := by
    intro rs h
    induction rs with
    | nil => exact Nat.le_refl _
    | cons r rs ih =>
      rw [List.map_cons, rowsW_cons, rW_cons]
      have a := ih fun r hr => h r (List.mem_cons_of_mem _ hr)
      have b := (h r List.mem_cons_self).d
      have e : rowW (inR r) ≤ wt r.2 + 101 := by
        show 4 * (1 + r.1) + wt r.2 + 1 ≤ _
        omega
      omega
  have := key _ hr
  omega
theorem BkOk.ok {b : Bk} (h : BkOk b) : ∀ r ∈ b.rows.map inR, RowOk r := by
  obtain ⟨ss, rfl, hs, hw⟩ := h
  intro r hr
  obtain ⟨q, hq, rfl⟩ := List.mem_map.mp hr
  have := smRs_rows hs q hq
  exact ⟨this.ne, this.ok, this.w, by have := this.d; unfold inR; dsimp only; omega⟩
theorem BkOk.ln {b : Bk} (h : BkOk b) : b.lines = (b.rows.map inR).map lineT := by
  obtain ⟨ss, rfl, hs, hw⟩ := h
  show (smLs ss).map indT = ((smRs ss).map inR).map lineT
  rw [lineT_in', flat_eq fun s h => (hs s h).lines]

/-! ### the law's rows of places and expressions -/
theorem get_map {α : Type} {f : α → D} {xs : List α} {i : Nat} {d : D} (h : (xs.map f)[i]? = some d) : ∃ x, xs[i]? = some x ∧ d = f x := by
  rw [List.getElem?_map] at h
  cases e : xs[i]? with
  | none => rw [e] at h; cases h
  | some x => rw [e] at h; cases h; exact ⟨x, rfl, rfl⟩
theorem r_strAI {i : Int} {m : M} {P : DK} (h1 : -2147483648 ≤ i) (h2 : i ≤ 2147483648) (q : P (.str (numT i)) m) : rStrA [.int i] m P := by
  refine ⟨?_, q⟩
  have : i.natAbs ≤ 2147483648 := by omega
  have h0 : i.natAbs < 2 ^ 32 := by omega
  by_cases e : i.natAbs = 0
  · rw [e]; decide
  · have := (Nat.log2_lt e).mpr h0
    omega
theorem r_strAS {z : Str} {m : M} {P : DK} (q : P (.str z) m) : rStrA [.str z] m P := q
local macro_rules | `(tactic| lcg_sub) => `(tactic| first | with_reducible refine r_strAS ?_ | ((with_reducible refine' r_strAI ?h1 ?h2 ?h3); (case h1 => omega); (case h2 => omega)) | fail)
def sp_law_place_row : DSp := fun ds m P _ => ∃ p, ds = [Plc.D p] ∧ p.Ok ∧ ∀ a, m a = none → P (.ref a) (put m a (.lst (p.R.map D.str)))
theorem use_prow {p : Plc} {m : M} {P : DK} (h : p.Ok) (q : ∀ a, m a = none → P (.ref a) (put m a (.lst (p.R.map D.str)))) : sp_law_place_row [p.D] m P noX := ⟨p, rfl, h, q⟩
theorem name_ne {z : Str} (h : NameOk z) : z ≠ "?" ∧ z ≠ "^" := ⟨fun e => h.nA (by rw [e]; decide +kernel), fun e => h.nA (by rw [e]; decide +kernel)⟩
theorem rd_prow : ∀ ds m P EX, sp_law_place_row ds m P EX → Go P b_law_place_row (dstart ["place", "row", "step"] ds) m := by
  rintro ds m P EX ⟨p, rfl, ho, q⟩
  show b_law_place_row { nx := fun _ m' => Ret P .non m', rt := Ret P } [some (.tup [.str p.v, .tup (p.ss.map Sp.D)]), none, none] m
  unfold b_law_place_row
  lcg_off
  refine s_seq ?_
  lcg_off
  rename_i a ha
  have hsz := PySem.sizeLine_eq
  have hl : ∀ i, (p.v :: ((p.ss.take i).map Sp.R).flatten).length ≤ 323 := fun i => Nat.le_trans (wt_len _) (ho.wtk i)
  refine ⟨fun i sd m' => ∃ kk, sd = [some (.tup [.str p.v, .tup (p.ss.map Sp.D)]), some (.ref a), kk] ∧ m' = put m a (.lst ((p.v :: ((p.ss.take i).map Sp.R).flatten).map D.str)), ⟨_, rfl, rfl⟩, ?_, ?_⟩
  · rintro i x _ _ hx ⟨kk, rfl, rfl⟩
    obtain ⟨s, hsi, rfl⟩ := get_map hx
    have hso := ho.ss s (List.mem_of_getElem? hsi)
    have hl1 := hl i
    have hl2 : (List.map D.str (p.v :: ((p.ss.take i).map Sp.R).flatten)).length ≤ 323 := by rw [List.length_map]; exact hl1
    have hl3 : ((p.ss.take i).map Sp.R).flatten.length ≤ 322 := by have := hl i; rw [List.length_cons] at this; omega
    have et : p.v :: ((p.ss.take (i + 1)).map Sp.R).flatten = (p.v :: ((p.ss.take i).map Sp.R).flatten) ++ s.R := by
      rw [List.take_add_one, hsi, List.map_append, List.flatten_append]
      simp
    cases hso with
    | q =>
      unfold Sp.D
      lcg_off
      all_goals first
        | (refine ⟨put m a (.lst (((p.v :: ((p.ss.take i).map Sp.R).flatten) ++ Sp.R .q).map D.str)), ?_, _, rfl, by rw [et]⟩; simp only [Sp.R, List.map_append, List.map_cons, List.map_nil]; one_item)
        | (exfalso; rename_i h; exact absurd rfl h)
    | c =>
      unfold Sp.D
      lcg_off
      all_goals first
        | (refine ⟨put m a (.lst (((p.v :: ((p.ss.take i).map Sp.R).flatten) ++ Sp.R .c).map D.str)), ?_, _, rfl, by rw [et]⟩; simp only [Sp.R, List.map_append, List.map_cons, List.map_nil]; one_item)
        | (exfalso; rename_i h; exact absurd rfl h)
    | f hz =>
      obtain ⟨n1, n2⟩ := name_ne hz
      unfold Sp.D
      lcg_off
      all_goals first
        | (exfalso; rename_i h; exact n1 h)
        | (exfalso; rename_i h; exact n2 h)
        | (refine ⟨put m a (.lst (((p.v :: ((p.ss.take i).map Sp.R).flatten) ++ Sp.R (.f _)).map D.str)), ?_, _, rfl, by rw [et]⟩; simp only [Sp.R, List.map_append, List.map_cons, List.map_nil]; one_item)
    | n hi =>
      unfold Sp.D
      lcg_off
      all_goals (refine ⟨put m a (.lst (((p.v :: ((p.ss.take i).map Sp.R).flatten) ++ Sp.R (.n _)).map D.str)), ?_, _, rfl, by rw [et]⟩; simp only [Sp.R, List.map_append, List.map_cons, List.map_nil]; one_item)
  · rintro _ _ ⟨kk, rfl, rfl⟩
    rw [List.length_map, List.take_length]
    lcg_off
    exact ⟨_, Less.refl _, q a ha⟩
local macro_rules | `(tactic| lcg_sub) => `(tactic| ((with_reducible refine' use_prow ?h1 ?h2); (case h1 => assumption); intro p hp; (try simp only [put_none] at hp); (repeat' (rename _ ∧ _ => hA; obtain ⟨_, _⟩ := hA))))
def sp_law_row (n : Nat) : DSp := fun ds m P _ => ∃ e, ds = [Ex.D e] ∧ WE n e ∧ wt (exR e) ≤ 150000 ∧ ∀ a, m a = none → P (.ref a) (put m a (.lst ((exR e).map D.str)))
theorem use_row {n j : Nat} {e : Ex} {m : M} {P : DK} (h : WE j e) (h2 : j ≤ n) (h3 : wt (exR e) ≤ 150000) (q : ∀ a, m a = none → P (.ref a) (put m a (.lst ((exR e).map D.str)))) : sp_law_row n [e.D] m P noX := ⟨e, rfl, h.mono h2, h3, q⟩
local macro_rules | `(tactic| lcg_sub) => `(tactic| ((with_reducible refine' use_row ?h1 ?h2 ?h3 ?h4); (case h1 => assumption); (case h2 => omega); (case h3 => omega); intro p hp; (try simp only [put_none] at hp); (repeat' (rename _ ∧ _ => hA; obtain ⟨_, _⟩ := hA))))
def sp_law_parts_row (n : Nat) : DSp := fun ds m P _ => ∃ es, ds = [.tup (List.map Ex.D es)] ∧ (∀ e ∈ es, WE n e) ∧ es.length ≤ 7 ∧ wt (rowsJ (es.map exR)) ≤ 150000 ∧ ∀ a, m a = none → P (.ref a) (put m a (.lst ((("(" : Str) :: (rowsJ (es.map exR) ++ [(")" : Str)])).map D.str)))
theorem use_parow {n : Nat} {es : List Ex} {m : M} {P : DK} (h : ∀ e ∈ es, WE n e) (h2 : es.length ≤ 7) (h3 : wt (rowsJ (es.map exR)) ≤ 150000) (q : ∀ a, m a = none → P (.ref a) (put m a (.lst ((("(" : Str) :: (rowsJ (es.map exR) ++ [(")" : Str)])).map D.str)))) : sp_law_parts_row n [.tup (List.map Ex.D es)] m P noX := ⟨es, rfl, h, h2, h3, q⟩
theorem rowsJ_take_wt {α : Type} {f : α → List Str} : ∀ (ks : List α) (i : Nat), wt (rowsJ ((ks.take i).map f)) ≤ wt (rowsJ (ks.map f))
  | [], i => by rw [List.take_nil]; exact Nat.le_refl _
  | k :: ks, 0 => by rw [List.take_zero]; exact Nat.zero_le _
  | k :: ks, i + 1 => by
    rw [List.take_succ_cons, List.map_cons, List.map_cons]
    by_cases h : ks = []
    · subst h; simp
    · have hne : ks.map f ≠ [] := fun e => h (List.map_eq_nil_iff.mp e)
      have e1 := rowsJ_cons (f k) hne
      by_cases h2 : ks.take i = []
      · rw [h2, e1, wt_app]
        show wt (f k) ≤ _
        omega
      · have e2 := rowsJ_cons (f k) (rs := (ks.take i).map f) fun e => h2 (List.map_eq_nil_iff.mp e)
        rw [e1, e2, wt_app, wt_app, wt_cons, wt_cons]
        have := rowsJ_take_wt (f := f) ks i
        omega
theorem rowsJ_mem_wt {α : Type} {f : α → List Str} : ∀ {ks : List α} {k : α}, k ∈ ks → wt (f k) ≤ wt (rowsJ (ks.map f))
  | [], _, h => by cases h
  | j :: ks, k, h => by
    rw [List.map_cons]
    by_cases e : ks = []
    · subst e
      rw [List.mem_singleton] at h
      subst h
      exact Nat.le_refl _
    · rw [rowsJ_cons _ (by simpa using e), wt_app, wt_cons]
      rcases List.mem_cons.mp h with h | h
      · subst h; omega
      · have := rowsJ_mem_wt (f := f) h
        omega
theorem rd_parow (n : Nat) : ∀ ds m P EX, sp_law_parts_row n ds m P EX → Go P (b_law_parts_row (sp_law_row n)) (dstart ["parts", "row", "k"] ds) m := by
  rintro ds m P EX ⟨es, rfl, he, hl7, hw, q⟩
  show b_law_parts_row (sp_law_row n) { nx := fun _ m' => Ret P .non m', rt := Ret P } [some (.tup (es.map Ex.D)), none, none] m
  unfold b_law_parts_row
  have hsz := PySem.sizeLine_eq
  lcg_off
  refine s_seq ?_
  lcg_off
  rename_i p hp
  have hl : ∀ i, (rowsJ ((es.take i).map exR)).length ≤ 150000 := fun i => Nat.le_trans (wt_len _) (Nat.le_trans (rowsJ_take_wt es i) hw)
  refine ⟨⟨by rw [List.length_map]; omega, by rw [List.length_map]; omega⟩, fun i sd m' => ∃ kk, sd = [some (.tup (es.map Ex.D)), some (.ref p), kk] ∧ m' = put m p (.lst (((("(" : Str)) :: rowsJ ((es.take i).map exR)).map D.str)), ⟨_, rfl, rfl⟩, ?_, ?_⟩
  · rintro i _ _ hi ⟨kk, rfl, rfl⟩
    have hlt : i < es.length := by rw [List.length_map] at hi; omega
    have hki : es[i]? = some es[i] := List.getElem?_eq_getElem hlt
    have hx : (es.map Ex.D)[i]? = some (Ex.D es[i]) := by rw [List.getElem?_map, hki]; rfl
    have hm : es[i] ∈ es := List.getElem_mem hlt
    have hW : WE n es[i] := he _ hm
    have hw2 : wt (exR es[i]) ≤ 150000 := Nat.le_trans (rowsJ_mem_wt hm) hw
    have hw3 := wt_len (exR es[i])
    have hl := hl i
    have et := rowsJ_take (f := exR) hki
    refine s_seq ?_
    lcg_off
    · refine ⟨_, ?_, _, rfl, rfl⟩
      rw [et, if_neg (by omega)]
      simp only [List.map_append, List.map_cons, List.cons_append, List.append_assoc, List.map_nil]
      one_item
    · refine ⟨_, ?_, _, rfl, rfl⟩
      have : i = 0 := by omega
      subst this
      rw [et, if_pos rfl]
      simp only [List.map_append, List.map_cons, List.cons_append, List.append_assoc, List.map_nil, List.take_zero, rowsJ, List.nil_append]
      one_item
  · rintro _ _ ⟨kk, rfl, rfl⟩
    rw [List.length_map, Int.toNat_natCast, List.take_length]
    have hl := hl es.length
    rw [List.take_length] at hl
    lcg_off
    rename_i z _ _ hz2
    refine ⟨_, ?_, q z hz2⟩
    simp only [List.map_append, List.map_cons, List.cons_append, List.append_assoc, List.map_nil]
    one_item
local macro_rules | `(tactic| lcg_sub) => `(tactic| ((with_reducible refine' use_parow ?h1 ?h2 ?h3 ?h4); (case h1 => assumption); (case h2 => assumption); (case h3 => omega); intro p hp; (try simp only [put_none] at hp); (repeat' (rename _ ∧ _ => hA; obtain ⟨_, _⟩ := hA))))
theorem rd_row (n : Nat) : ∀ ds m P EX, sp_law_row (n + 1) ds m P EX → Go P (b_law_row (sp_law_kind_row 9) sp_law_place_row (sp_law_row n) (sp_law_parts_row n)) (dstart ["tree", "word"] ds) m := by
  rintro ds m P EX ⟨e, rfl, he, hw, q⟩
  show b_law_row (sp_law_kind_row 9) sp_law_place_row (sp_law_row n) (sp_law_parts_row n) { nx := fun _ m' => Ret P .non m', rt := Ret P } [some e.D, none] m
  unfold b_law_row
  have hsz := PySem.sizeLine_eq
  cases he with
  | int h1 h2 =>
    rw [Ex.D]
    rw [exR] at q
    top_strB
    rename_i a ha
    exact ⟨_, Less.refl _, q a ha⟩
  | bool =>
    rename_i b
    rw [Ex.D]
    rw [exR] at q
    top_strB
    cases b with
    | false =>
      refine r_ixL put_same (d := .str "false") rfl ?_
      lcg_off
      rename_i a _ ha
      refine ⟨put m a (.lst ([("false" : Str)].map D.str)), ?_, q a ha⟩
      one_item
    | true =>
      refine r_ixL put_same (d := .str "true") rfl ?_
      lcg_off
      rename_i a _ ha
      refine ⟨put m a (.lst ([("true" : Str)].map D.str)), ?_, q a ha⟩
      one_item
  | unit =>
    rw [Ex.D]
    rw [exR] at q
    top_strB
    rename_i a ha
    exact ⟨_, Less.refl _, q a ha⟩
  | none hk =>
    rename_i k
    rw [Ex.D]
    rw [exR] at q
    have hk3 := hk.size (by decide)
    top_strB
    all_goals (refine ⟨_, ?_, q _ (by assumption)⟩; (try simp only [List.map_append, List.map_cons, List.map_nil, List.cons_append, List.nil_append, List.append_assoc]); one_item)
  | shr hp =>
    rw [Ex.D]
    rw [exR] at q
    have hl := Nat.le_trans (wt_len _) hp.wt
    top_strB
    all_goals (refine ⟨_, ?_, q _ (by assumption)⟩; (try simp only [List.map_append, List.map_cons, List.map_nil, List.cons_append, List.nil_append, List.append_assoc]); one_item)
  | exc hp =>
    rw [Ex.D]
    rw [exR] at q
    have hl := Nat.le_trans (wt_len _) hp.wt
    top_strB
    all_goals (refine ⟨_, ?_, q _ (by assumption)⟩; (try simp only [List.map_append, List.map_cons, List.map_nil, List.cons_append, List.nil_append, List.append_assoc]); one_item)
  | use hp =>
    rw [Ex.D]
    rw [exR] at q
    top_strB
    exact ⟨_, Less.refl _, q _ (by assumption)⟩
  | is hp =>
    rw [Ex.D]
    rw [exR] at q
    have hl := Nat.le_trans (wt_len _) hp.wt
    top_strB
    all_goals (refine ⟨_, ?_, q _ (by assumption)⟩; (try simp only [List.map_append, List.map_cons, List.map_nil, List.cons_append, List.nil_append, List.append_assoc]); one_item)
  | one hx he =>
    rename_i w e
    rw [Ex.D]
    rw [exR] at q hw
    rw [wt_cons] at hw
    have hl := wt_len (exR e)
    have hwe : wt (exR e) ≤ 150000 := by omega
    simp only [oneW, List.mem_cons, List.not_mem_nil, or_false] at hx
    rcases hx with rfl | rfl | rfl | rfl
    all_goals top_strB
    all_goals (refine ⟨_, ?_, q _ (by assumption)⟩; (try simp only [List.map_append, List.map_cons, List.map_nil, List.cons_append, List.nil_append, List.append_assoc]); one_item)
  | swap hp he =>
    rename_i p e
    rw [Ex.D]
    rw [exR] at q hw
    rw [wt_cons, wt_app, wt_cons] at hw
    have hl := wt_len (exR e)
    have hl2 := Nat.le_trans (wt_len _) hp.wt
    have hwe : wt (exR e) ≤ 150000 := by omega
    top_strB
    all_goals (refine ⟨_, ?_, q _ (by assumption)⟩; (try simp only [List.map_append, List.map_cons, List.map_nil, List.cons_append, List.nil_append, List.append_assoc]); one_item)
  | op hs h1 h2 =>
    rename_i s a b
    rw [Ex.D]
    rw [exR] at q hw
    rw [wt_cons, wt_app, wt_cons, wt_app] at hw
    have hl := wt_len (exR a)
    have hl2 := wt_len (exR b)
    have hwe : wt (exR a) ≤ 150000 := by omega
    have hwf : wt (exR b) ≤ 150000 := by omega
    top_strB
    all_goals (refine ⟨_, ?_, q _ (by assumption)⟩; (try simp only [List.map_append, List.map_cons, List.map_nil, List.cons_append, List.nil_append, List.append_assoc]); one_item)
  | tup ne hl7 he =>
    rename_i es
    rw [Ex.D, Ex.Ds_map]
    rw [exR, exRs_map] at q hw
    rw [wt_cons, wt_app] at hw
    have hwe : wt (rowsJ (es.map exR)) ≤ 150000 := by omega
    top_strB
    exact ⟨_, Less.refl _, q _ (by assumption)⟩
  | rcd hz hl7 he =>
    rename_i z es
    rw [Ex.D, Ex.Ds_map]
    rw [exR, exRs_map] at q hw
    rw [wt_cons, wt_cons, wt_app] at hw
    have hwe : wt (rowsJ (es.map exR)) ≤ 150000 := by omega
    have hl := wt_len (rowsJ (es.map exR))
    top_strB
    all_goals (refine ⟨_, ?_, q _ (by assumption)⟩; (try simp only [List.map_append, List.map_cons, List.map_nil, List.cons_append, List.nil_append, List.append_assoc]); one_item)
  | call hz hl7 he =>
    rename_i z es
    rw [Ex.D, Ex.Ds_map]
    rw [exR, exRs_map] at q hw
    rw [wt_cons, wt_cons, wt_app] at hw
    have hwe : wt (rowsJ (es.map exR)) ≤ 150000 := by omega
    have hl := wt_len (rowsJ (es.map exR))
    top_strB
    all_goals (refine ⟨_, ?_, q _ (by assumption)⟩; (try simp only [List.map_append, List.map_cons, List.map_nil, List.cons_append, List.nil_append, List.append_assoc]); one_item)

/-! ### the rows of blocks -/
def smW (ss : List Sm) : Nat := rW (smRs ss)
theorem smRs_cons (s : Sm) (ss : List Sm) : smRs (s :: ss) = smR s ++ smRs ss := by rw [smRs]
theorem sh_in (d : Nat) (rs : List (Nat × List Str)) : (rs.map inR).map (shR d) = rs.map (shR (d + 1)) := by
  rw [List.map_map]
  refine List.map_congr_left fun r _ => ?_
  show (d + (1 + r.1), r.2) = (d + 1 + r.1, r.2)
  rw [Nat.add_assoc]
def sp_lbr (n : Nat) : DSp := fun ds m P _ => ∃ ss, ∃ dep : Nat, ds = [.tup (List.map Sm.D ss), .int dep] ∧ (∀ s ∈ ss, WS n s) ∧ rW (smRs ss) ≤ 1500000 ∧ dep + n ≤ 1000 ∧
  ∀ p rs m', m p = none → (∀ q ∈ rs, m q.2 = none) → Less m m' → RowsAt m' p rs → rs.map (·.1) = (smRs ss).map (shR dep) → P (.ref p) m'
abbrev sp_law_block_rows : DSp := sp_lbr 20
theorem use_brows {b : Bk} {m : M} {P : DK} (h : BkOk b) (q : ∀ p rs m', m p = none → (∀ q ∈ rs, m q.2 = none) → Less m m' → RowsAt m' p rs → rs.map (·.1) = b.rows.map inR → P (.ref p) m') : sp_law_block_rows [b.d, .int 1] m P noX := by
  obtain ⟨ss, rfl, hs, hw⟩ := h
  exact ⟨ss, 1, rfl, hs, hw, by decide, q⟩
theorem use_lbr {n : Nat} {ss : List Sm} {dep : Nat} {m : M} {P : DK} (h : ∀ s ∈ ss, WS n s) (hw : rW (smRs ss) ≤ 1500000) (hd : dep + n ≤ 1000) (q : ∀ p rs m', m p = none → (∀ q ∈ rs, m q.2 = none) → Less m m' → RowsAt m' p rs → rs.map (·.1) = (smRs ss).map (shR dep) → P (.ref p) m') {d : Int} (hd2 : d = dep) : sp_lbr n [.tup (List.map Sm.D ss), .int d] m P noX := by
  subst hd2
  exact ⟨ss, dep, rfl, h, hw, hd, q⟩
theorem less_put {m m' : M} {a : Addr} {o : DO} (l : Less m m') (n : m a = none) : Less m (put m' a o) := fun x u h => by
  rw [put_ne (fun e => by subst e; rw [n] at h; cases h)]
  exact l x u h
theorem Less.free {m m' : M} {a : Addr} (l : Less m m') (n : m' a = none) : m a = none := by
  cases e : m a with
  | none => rfl
  | some o => have := l a o e; rw [n] at this; cases this
theorem RowsAt.more1 {m1 : M} {p z : Addr} {rs : List ((Nat × List Str) × Addr)} {d : Nat} {ts : List Str} {o : DO} (R : RowsAt m1 p rs) (hz : m1 z = none) (ho : o = .lst (ts.map D.str)) :
    RowsAt (put (put m1 z o) p (.lst (rs.map rowD ++ [.tup [.int d, .ref z]]))) p (rs ++ [((d, ts), z)]) := by
  subst ho
  exact (R.new hz).snoc (R.fresh hz).1 put_same
/-- rows so far: rs at p, nothing else touched -/
structure Acc (m m' : M) (p : Addr) (rs : List ((Nat × List Str) × Addr)) (want : List (Nat × List Str)) : Prop where
  less : Less m m'
  at_ : RowsAt m' p rs
  nn : ∀ q ∈ rs, m q.2 = none
  eq : rs.map (·.1) = want
theorem Acc.len {m m' : M} {p : Addr} {rs : List ((Nat × List Str) × Addr)} {want : List (Nat × List Str)} (a : Acc m m' p rs want) : rs.length = want.length := by rw [← a.eq, List.length_map]
theorem Acc.one {m m' : M} {p z : Addr} {rs : List ((Nat × List Str) × Addr)} {want : List (Nat × List Str)} (a : Acc m m' p rs want) (hp : m p = none) (hz : m' z = none) (d : Nat) (ts : List Str) :
    Acc m (put (put m' z (.lst (ts.map D.str))) p (.lst (rs.map rowD ++ [.tup [.int d, .ref z]]))) p (rs ++ [((d, ts), z)]) (want ++ [(d, ts)]) :=
  ⟨less_put (less_put a.less (a.less.free hz)) hp, a.at_.more1 hz rfl, fun y hy => by
    rcases List.mem_append.mp hy with hy | hy
    · exact a.nn y hy
    · rw [List.mem_singleton] at hy
      subst hy
      exact a.less.free hz, by rw [List.map_append, a.eq]; rfl⟩
theorem Acc.app {m m1 mm m2 : M} {p p2 : Addr} {rs rs2 : List ((Nat × List Str) × Addr)} {want w2 : List (Nat × List Str)} (a : Acc m m1 p rs want) (hp : m p = none) (l1 : Less m1 mm) (l : Less mm m2) (R : RowsAt m2 p2 rs2) (nn : ∀ q ∈ rs2, mm q.2 = none) (e : rs2.map (·.1) = w2) :
    Acc m (put m2 p (.lst (rs.map rowD ++ rs2.map rowD))) p (rs ++ rs2) (want ++ w2) := by
  have hnp : ∀ q ∈ rs2, q.2 ≠ p := fun q hq z => by have := l1.free (nn q hq); rw [z, a.at_.at_] at this; cases this
  refine ⟨less_put (a.less.trans (l1.trans l)) hp, (a.at_.more (l1.trans l)).app R hnp, fun y hy => ?_, by rw [List.map_append, a.eq, e]⟩
  rcases List.mem_append.mp hy with hy | hy
  · exact a.nn y hy
  · exact a.less.free (l1.free (nn y hy))
theorem Acc.to {m m' : M} {p : Addr} {rs : List ((Nat × List Str) × Addr)} {w w2 : List (Nat × List Str)} (a : Acc m m' p rs w) (e : w = w2) : Acc m m' p rs w2 := by subst e; exact a
theorem rd_lbr0 : ∀ ds m P EX, sp_lbr 0 ds m P EX → Go P (b_law_block_rows (sp_law_row 5) (fun _ _ _ _ => False) sp_law_place_row) (dstart ["block", "depth", "rows", "tree"] ds) m := by
  rintro ds m P EX ⟨ss, dep, rfl, hs, hw, hd, q⟩
  have e : ss = [] := by
    cases ss with
    | nil => rfl
    | cons s ss => exact nomatch hs s List.mem_cons_self
  subst e
  show b_law_block_rows _ _ _ { nx := fun _ m' => Ret P .non m', rt := Ret P } [some (.tup []), some (.int dep), none, none] m
  unfold b_law_block_rows
  lcg_off
  refine s_seq ?_
  lcg_off
  rename_i p hp
  refine ⟨fun i sd m' => i = 0 → sd = [some (.tup []), some (.int dep), some (.ref p), none] ∧ m' = put m p (.lst []), fun _ => ⟨rfl, rfl⟩, ?_, ?_⟩
  · intro i x sd m' hx
    cases hx
  · intro sd m' h
    obtain ⟨rfl, rfl⟩ := h rfl
    lcg_off
    exact ⟨_, Less.refl _, q p [] _ hp (fun _ h => by cases h) (by one_item) RowsAt.nil rfl⟩
theorem rW_mem {ss : List Sm} {s : Sm} (h : s ∈ ss) : rW (smR s) ≤ rW (smRs ss) := by
  obtain ⟨a, b, rfl⟩ := List.append_of_mem h
  rw [smRs_map, List.map_append, List.flatten_append, List.map_cons, List.flatten_cons, rW_app, rW_app]
  omega
theorem rW_takes (ss : List Sm) (i : Nat) : rW (smRs (ss.take i)) ≤ rW (smRs ss) := by
  have e : rW (smRs (ss.take i ++ ss.drop i)) = rW (smRs (ss.take i)) + rW (smRs (ss.drop i)) := by
    rw [smRs_map, List.map_append, List.flatten_append, rW_app, ← smRs_map, ← smRs_map]
  rw [List.take_append_drop] at e
  omega
theorem rowD_mk {d : Nat} {ts : List Str} {z : Addr} : rowD ((d, ts), z) = .tup [.int d, .ref z] := rfl
theorem rd_lbr (n : Nat) : ∀ ds m P EX, sp_lbr (n + 1) ds m P EX → Go P (b_law_block_rows (sp_law_row 5) (sp_lbr n) sp_law_place_row) (dstart ["block", "depth", "rows", "tree"] ds) m := by
  rintro ds m P EX ⟨ss, dep, rfl, hs, hw, hd, q⟩
  show b_law_block_rows _ _ _ { nx := fun _ m' => Ret P .non m', rt := Ret P } [some (.tup (ss.map Sm.D)), some (.int dep), none, none] m
  unfold b_law_block_rows
  have hsz := PySem.sizeLine_eq
  lcg_off
  refine s_seq ?_
  lcg_off
  rename_i p hp
  refine ⟨fun i sd m' => ∃ kk rs, sd = [some (.tup (ss.map Sm.D)), some (.int dep), some (.ref p), kk] ∧ Acc m m' p rs ((smRs (ss.take i)).map (shR dep)),
    ⟨_, [], rfl, ⟨Less.new hp, RowsAt.nil, (fun _ h => by cases h), rfl⟩⟩, ?_, ?_⟩
  · rintro i x _ m1 hx ⟨kk, rs, rfl, A⟩
    obtain ⟨s, hsi, rfl⟩ := get_map hx
    have hsm := List.mem_of_getElem? hsi
    have hws := hs s hsm
    have hl1 : rs.length ≤ 1500000 := by
      rw [A.len, List.length_map]
      exact Nat.le_trans (rW_len _) (Nat.le_trans (rW_takes ss i) hw)
    have hrw := Nat.le_trans (rW_mem hsm) hw
    have et : (smRs (ss.take (i + 1))).map (shR dep) = (smRs (ss.take i)).map (shR dep) ++ (smR s).map (shR dep) := by
      rw [List.take_add_one, hsi, ← List.map_append]
      exact congrArg _ (smRs_snoc _ _)
    have hp1 := A.at_.at_
    have hd0 : dep + 0 = dep := rfl
    cases hws with
    | let_ hz he =>
      rename_i z e
      rw [Sm.D]
      rw [smR, List.map_cons, List.map_nil] at et
      have he1 := he.e
      have he2 := he.w
      have hl := wt_len (exR e)
      lcg_off
      rename_i z0 _ _ _ _ hz0
      have A1 := A.one hp hz0 dep (("let" : Str) :: z :: ("=" : Str) :: (exR e ++ [(";" : Str)]))
      refine ⟨_, ?_, _, _, rfl, A1.to (by rw [et]; rfl)⟩
      simp only [List.map_append, List.map_cons, List.map_nil, List.cons_append, List.nil_append, List.append_assoc, rowD_mk]
      one_item
    | kw hw0 he =>
      rename_i w e
      rw [Sm.D]
      rw [smR, List.map_cons, List.map_nil] at et
      have he1 := he.e
      have he2 := he.w
      have hl := wt_len (exR e)
      simp only [kwW, List.mem_cons, List.not_mem_nil, or_false] at hw0
      rcases hw0 with rfl | rfl | rfl
      · lcg_off
        rename_i z0 _ _ _ _ hz0
        have A1 := A.one hp hz0 dep (("do" : Str) :: (exR e ++ [(";" : Str)]))
        refine ⟨_, ?_, _, _, rfl, A1.to (by rw [et]; rfl)⟩
        simp only [List.map_append, List.map_cons, List.map_nil, List.cons_append, List.nil_append, List.append_assoc, rowD_mk]
        one_item
      · lcg_off
        rename_i z0 _ _ _ _ hz0
        have A1 := A.one hp hz0 dep (("print" : Str) :: (exR e ++ [(";" : Str)]))
        refine ⟨_, ?_, _, _, rfl, A1.to (by rw [et]; rfl)⟩
        simp only [List.map_append, List.map_cons, List.map_nil, List.cons_append, List.nil_append, List.append_assoc, rowD_mk]
        one_item
      · lcg_off
        rename_i z0 _ _ _ _ hz0
        have A1 := A.one hp hz0 dep (("return" : Str) :: (exR e ++ [(";" : Str)]))
        refine ⟨_, ?_, _, _, rfl, A1.to (by rw [et]; rfl)⟩
        simp only [List.map_append, List.map_cons, List.map_nil, List.cons_append, List.nil_append, List.append_assoc, rowD_mk]
        one_item
    | store hp0 he =>
      rename_i pl e
      rw [Sm.D]
      rw [smR, List.map_cons, List.map_nil] at et
      have he1 := he.e
      have he2 := he.w
      have hl := wt_len (exR e)
      have hl2 := Nat.le_trans (wt_len _) hp0.wt
      lcg_off
      rename_i z0 _ _ _ _ _ _ hz0
      have A1 := A.one hp hz0 dep (pl.R ++ ("=" : Str) :: (exR e ++ [(";" : Str)]))
      refine ⟨_, ?_, _, _, rfl, A1.to (by rw [et]; rfl)⟩
      simp only [List.map_append, List.map_cons, List.map_nil, List.cons_append, List.nil_append, List.append_assoc, rowD_mk]
      one_item
    | if_ he ha hb la lb =>
      rename_i e a b
      rw [Sm.D, Sm.Ds_map, Sm.Ds_map]
      rw [smR] at et hrw
      rw [rW_cons, rW_app, rW_in, rW_cons, rW_app, rW_in] at hrw
      have he1 := he.e
      have he2 := he.w
      have hl := wt_len (exR e)
      have hla := rW_len (smRs a)
      have hlb := rW_len (smRs b)
      have hls := A.len
      have hls2 := Nat.le_trans (rW_len (smRs (ss.take i))) (Nat.le_trans (rW_takes ss i) hw)
      rw [List.length_map] at hls
      lcg_off
      rename_i z0 _ _ _ _ hz0
      refine use_lbr (dep := dep + 1) ha (by omega) (by omega) (fun p2 rs2 m3 hn2 hnn2 l3 R2 er2 => ?_) (by omega)
      have A1 := A.one hp hz0 dep (("if" : Str) :: (exR e ++ [("{" : Str)]))
      have A2 := A1.app hp (by (simp only [List.map_append, List.map_cons, List.map_nil, List.cons_append, List.nil_append, List.append_assoc, rowD_mk]); one_item) l3 R2 hnn2 er2
      have e5 := R2.at_
      have e4 : m3 p = some (.lst (rs.map rowD ++ [.tup [.int dep, .ref z0]])) := l3 _ _ (by simp only [put]; grind)
      have hl2 : rs2.length = (smRs a).length := by
        have := congrArg List.length er2
        simpa only [List.length_map] using this
      top_strB
      rename_i z1 hz1p hz1
      have hm : put m3 p (.lst (List.map rowD (rs ++ [((dep, ("if" : Str) :: (exR e ++ [("{" : Str)])), z0)]) ++ List.map rowD rs2)) z1 = none := by rw [put_ne hz1p]; exact hz1
      have A3 := A2.one hp hm dep [("}" : Str), ("else" : Str), ("{" : Str)]
      refine use_lbr (dep := dep + 1) hb (by omega) (by omega) (fun p4 rs4 m5 hn4 hnn4 l5 R4 er4 => ?_) (by omega)
      have A4 := A3.app hp (by (simp only [List.map_append, List.map_cons, List.map_nil, List.cons_append, List.nil_append, List.append_assoc, rowD_mk]); one_item) l5 R4 hnn4 er4
      have e7 := R4.at_
      have e6 : m5 p = some (.lst (rs.map rowD ++ [.tup [.int dep, .ref z0]] ++ rs2.map rowD ++ [.tup [.int dep, .ref z1]])) := l5 _ _ (by simp only [put]; grind)
      have hl4 : rs4.length = (smRs b).length := by
        have := congrArg List.length er4
        simpa only [List.length_map] using this
      top_strB
      rename_i z2 hz2p hz2
      have A5 := A4.one hp (z := z2) (by rw [put_ne hz2p]; exact hz2) dep [("}" : Str)]
      refine ⟨_, ?_, _, _, rfl, A5.to ?_⟩
      · simp only [List.map_append, List.map_cons, List.map_nil, List.cons_append, List.nil_append, List.append_assoc, rowD_mk]
        one_item
      · rw [et]
        simp only [List.map_append, List.map_cons, List.map_nil, sh_in, List.append_assoc, List.cons_append, List.nil_append]
        rfl
    | while_ he ha la =>
      rename_i e a
      rw [Sm.D, Sm.Ds_map]
      rw [smR] at et hrw
      rw [rW_cons, rW_app, rW_in] at hrw
      have he1 := he.e
      have he2 := he.w
      have hl := wt_len (exR e)
      have hla := rW_len (smRs a)
      have hls := A.len
      have hls2 := Nat.le_trans (rW_len (smRs (ss.take i))) (Nat.le_trans (rW_takes ss i) hw)
      rw [List.length_map] at hls
      lcg_off
      rename_i z0 _ _ _ _ hz0
      refine use_lbr (dep := dep + 1) ha (by omega) (by omega) (fun p2 rs2 m3 hn2 hnn2 l3 R2 er2 => ?_) (by omega)
      have A1 := A.one hp hz0 dep (("while" : Str) :: (exR e ++ [("{" : Str)]))
      have A2 := A1.app hp (by (simp only [List.map_append, List.map_cons, List.map_nil, List.cons_append, List.nil_append, List.append_assoc, rowD_mk]); one_item) l3 R2 hnn2 er2
      have e5 := R2.at_
      have e4 : m3 p = some (.lst (rs.map rowD ++ [.tup [.int dep, .ref z0]])) := l3 _ _ (by simp only [put]; grind)
      have hl2 : rs2.length = (smRs a).length := by
        have := congrArg List.length er2
        simpa only [List.length_map] using this
      top_strB
      rename_i z2 hz2p hz2
      have A5 := A2.one hp (z := z2) (by rw [put_ne hz2p]; exact hz2) dep [("}" : Str)]
      refine ⟨_, ?_, _, _, rfl, A5.to ?_⟩
      · simp only [List.map_append, List.map_cons, List.map_nil, List.cons_append, List.nil_append, List.append_assoc, rowD_mk]
        one_item
      · rw [et]
        simp only [List.map_append, List.map_cons, List.map_nil, sh_in, List.append_assoc, List.cons_append, List.nil_append]
        rfl
  · rintro _ m1 ⟨kk, rs, rfl, A⟩
    rw [List.length_map, List.take_length] at A
    lcg_off
    exact ⟨_, Less.refl _, q p rs _ hp A.nn A.less A.at_ A.eq⟩

/-! ### records and functions: rows and lines -/
structure Rc where
  z : Str
  fs : List (Str × Kd)
def Rc.D (r : Rc) : D := .tup [.str r.z, fldsD r.fs]
structure Rc.Ok (r : Rc) : Prop where
  z : NameOk r.z
  fs : FOk r.fs
  ne : r.fs ≠ []
structure Fn where
  z : Str
  fs : List (Str × Kd)
  k : Kd
  ws : List Str
  b : Bk
def Fn.D (f : Fn) : D := .tup [.str f.z, fldsD f.fs, f.k.D, .tup (f.ws.map D.str), f.b.d]
structure Fn.Ok (f : Fn) : Prop where
  z : NameOk f.z
  fs : FOk f.fs
  k : WT 9 f.k
  wl : f.ws.length ≤ 6
  ws : ∀ w ∈ f.ws, NameOk w
  b : BkOk f.b
def Rc.row (r : Rc) : List Str := [("record" : Str), r.z, ("{" : Str)] ++ fldR r.fs ++ [("}" : Str)]
def srcR (ws : List Str) : List Str := if ws = [] then [] else ("from" : Str) :: rowsJ (ws.map fun w => [w])
def Fn.head0 (f : Fn) : List Str := [("fn" : Str), f.z, ("(" : Str)] ++ fldR f.fs ++ [(")" : Str), ("->" : Str)] ++ kR f.k
def Fn.head (f : Fn) : List Str := f.head0 ++ srcR f.ws ++ [("{" : Str)]
def Fn.rows (f : Fn) : List (Nat × List Str) := (0, f.head) :: (f.b.rows.map inR ++ [(0, [("}" : Str)])])
def fldT (p : Str × Kd) : Str := p.1 ++ (": " : Str) ++ kT p.2
def fldsT (fs : List (Str × Kd)) : Str := Str.join ", " (fs.map fldT)
def Rc.line (r : Rc) : Str := Str.join " " [("record" : Str), r.z, ("{" : Str), fldsT r.fs, ("}" : Str)]
def srcT (ws : List Str) : Str := if ws = [] then "" else (" from " : Str) ++ Str.join ", " ws
def Fn.headT (f : Fn) : Str := ("fn " : Str) ++ (f.z ++ (("(" : Str) ++ (fldsT f.fs ++ ((") -> " : Str) ++ (kT f.k ++ (srcT f.ws ++ (" {" : Str)))))))
def Fn.lines (f : Fn) : List Str := f.headT :: (f.b.lines ++ [("}" : Str)])
theorem colon2 : ((": " : Str)) = (":" : Str) ++ (" " : Str) := by decide +kernel
theorem fld1_phk {p : Str × Kd} (h : NameOk p.1 ∧ WT 3 p.2) : PhK (fldR1 p) (fldT p) := by
  obtain ⟨h2, l2, a2, n2, m2⟩ := h.2.phk
  refine ⟨p.1, l2, (((Ph.one p.1).app (Ph.one ":") (gapA (by decide +kernel))).sp a2 n2 (by decide +kernel) (.inr (by decide +kernel))).is ?_ rfl, h.1.nA, m2⟩
  rw [fldT, colon2, snil_app]
  simp only [sapp_assoc]
theorem flds_phk {fs : List (Str × Kd)} (h : FOk fs) (ne : fs ≠ []) : PhK (fldR fs) (fldsT fs) := by
  have := PhK.join (ps := fs.map fun p => (fldR1 p, fldT p)) (by simpa using ne) fun q hq => by
    obtain ⟨j, hj, e⟩ := List.mem_map.mp hq
    subst e
    exact fld1_phk (h.all j hj)
  rw [List.map_map, List.map_map] at this
  exact this
theorem srcs_phk {ws : List Str} (h : ∀ w ∈ ws, NameOk w) (ne : ws ≠ []) : PhK (rowsJ (ws.map fun w => [w])) (Str.join ", " ws) := by
  have := PhK.join (ps := ws.map fun w => ([w], w)) (by simpa using ne) fun q hq => by
    obtain ⟨j, hj, e⟩ := List.mem_map.mp hq
    subst e
    exact (h j hj).phk
  rw [List.map_map, List.map_map] at this
  have e : ws.map ((fun q : List Str × Str => q.2) ∘ fun w => ([w], w)) = ws := List.map_id ws
  rw [e] at this
  exact this
theorem Rc.line_eq {r : Rc} (o : r.Ok) : lineL r.row = r.line := by
  obtain ⟨h, l, a, nA, nB⟩ := flds_phk o.fs o.ne
  have p := ((((Ph.one "record").sp (Ph.one r.z) o.z.nA (by decide +kernel) (.inl o.z.nP)).sp (Ph.one "{") (by decide +kernel) o.z.nB (.inl (by decide +kernel))).sp a nA (by decide +kernel) (.inr (by decide +kernel))).sp (Ph.one "}") (by decide +kernel) nB (.inl (by decide +kernel))
  refine Ph.line (p.is ?_ ?_)
  · unfold Rc.line
    rw [sjoin_cons _ _ (by simp), sjoin_cons _ _ (by simp), sjoin_cons _ _ (by simp), sjoin_cons _ _ (by simp), Str.join]
    simp only [sapp_assoc]
  · simp only [Rc.row, List.cons_append, List.nil_append, List.append_assoc]
theorem Fn.line_eq {f : Fn} (o : f.Ok) : lineL f.head = f.headT := by
  have hp : fldR f.fs = [] ∧ fldsT f.fs = "" ∨ PhK (fldR f.fs) (fldsT f.fs) := by
    by_cases e : f.fs = []
    · rw [e]
      exact .inl ⟨rfl, by decide +kernel⟩
    · exact .inr (flds_phk o.fs e)
  obtain ⟨h, l, a, nA, nB⟩ := o.k.phk
  have p := ((((Ph.one "fn").sp (Ph.one f.z) o.z.nA (by decide +kernel) (.inl o.z.nP)).app (par_ph hp) (gapN o.z.named)).sp (Ph.one "->") (by decide +kernel) (by decide +kernel) (.inl (by decide +kernel))).sp a nA (by decide +kernel) (.inr (by decide +kernel))
  have e1 : ((") -> " : Str)) = (")" : Str) ++ ((" " : Str) ++ (("->" : Str) ++ (" " : Str))) := by decide +kernel
  have e2 : (("fn " : Str)) = ("fn" : Str) ++ (" " : Str) := by decide +kernel
  have e3 : ((" {" : Str)) = (" " : Str) ++ ("{" : Str) := by decide +kernel
  have e4 : ((" from " : Str)) = (" " : Str) ++ (("from" : Str) ++ (" " : Str)) := by decide +kernel
  by_cases e : f.ws = []
  · have p2 := p.sp (Ph.one "{") (by decide +kernel) nB (.inl (by decide +kernel))
    refine Ph.line (p2.is ?_ ?_)
    · unfold Fn.headT srcT
      rw [if_pos e, e1, e2, e3]
      simp only [sapp_assoc, snil_app]
    · simp only [Fn.head, Fn.head0, srcR, if_pos e, List.cons_append, List.nil_append, List.append_assoc, List.append_nil]
  · obtain ⟨h2, l2, a2, nA2, nB2⟩ := srcs_phk o.ws e
    have p2 := ((p.sp (Ph.one "from") (by decide +kernel) nB (.inl (by decide +kernel))).sp a2 nA2 (by decide +kernel) (.inr (by decide +kernel))).sp (Ph.one "{") (by decide +kernel) nB2 (.inl (by decide +kernel))
    refine Ph.line (p2.is ?_ ?_)
    · unfold Fn.headT srcT
      rw [if_neg e, e1, e2, e3, e4]
      simp only [sapp_assoc, snil_app]
    · simp only [Fn.head, Fn.head0, srcR, if_neg e, List.cons_append, List.nil_append, List.append_assoc]
/-! all rows are good -/
theorem srcR_wt {ws : List Str} (h : ∀ w ∈ ws, NameOk w) (hl : ws.length ≤ 6) (i : Nat) : wt (srcR (ws.take i)) ≤ 200 := by
  unfold srcR
  split
  · exact Nat.zero_le _
  · have a := wt_rowsJ ((ws.take i).map fun w => [w])
    rw [List.map_map] at a
    have b := sum_le (f := (fun r => wt r + 2) ∘ fun w : Str => [w]) (n := 25) (xs := ws.take i) fun w hw => by
      have := (h w (List.mem_of_mem_take hw)).len
      show wt [w] + 2 ≤ 25
      rw [wt_cons, wt_nil]; omega
    rw [List.length_take] at b
    have c : min i ws.length * 25 ≤ 6 * 25 := Nat.mul_le_mul_right _ (by omega)
    have d : (("from" : Str)).length = 4 := by decide +kernel
    rw [wt_cons, d]; omega
theorem fldR_ok {fs : List (Str × Kd)} (h : FOk fs) : OkT (fldR fs) := OkT.joined fun r hr => by
  obtain ⟨p, hp, e⟩ := List.mem_map.mp hr
  subst e
  exact .cons (h.all p hp).1.pos (.cons (by decide +kernel) (h.all p hp).2.okt)
theorem srcR_ok {ws : List Str} (h : ∀ w ∈ ws, NameOk w) : OkT (srcR ws) := by
  unfold srcR
  split
  · exact .nil
  · exact .cons (by decide +kernel) (OkT.joined fun r hr => by
      obtain ⟨w, hw, e⟩ := List.mem_map.mp hr
      subst e
      exact .one (h w hw).pos)
theorem Rc.rowOk {r : Rc} (o : r.Ok) : RowOk (0, r.row) := by
  refine ⟨by simp [Rc.row], ?_, ?_, Nat.zero_le _⟩
  · exact ((OkT.cons (by decide +kernel) (.cons o.z.pos (.one (by decide +kernel)))).app (fldR_ok o.fs)).app (.one (by decide +kernel))
  · have a := fldR_wt0 o.fs
    have b := o.z.len
    have e1 : (("record" : Str)).length = 6 := by decide +kernel
    have e2 : (("{" : Str)).length = 1 := by decide +kernel
    have e3 : (("}" : Str)).length = 1 := by decide +kernel
    show wt ([("record" : Str), r.z, ("{" : Str)] ++ fldR r.fs ++ [("}" : Str)]) ≤ _
    rw [wt_app, wt_app, wt_cons, wt_cons, wt_cons, wt_cons, wt_nil, e1, e2, e3]
    omega
theorem Fn.rowOk {f : Fn} (o : f.Ok) : RowOk (0, f.head) := by
  refine ⟨by simp [Fn.head, Fn.head0], ?_, ?_, Nat.zero_le _⟩
  · exact (((((OkT.cons (by decide +kernel) (.cons o.z.pos (.one (by decide +kernel)))).app (fldR_ok o.fs)).app (.cons (by decide +kernel) (.one (by decide +kernel)))).app o.k.okt).app (srcR_ok o.ws)).app (.one (by decide +kernel))
  · have a := fldR_wt0 o.fs
    have b := o.z.len
    have c := o.k.wt
    have d := srcR_wt o.ws o.wl f.ws.length
    rw [List.take_length] at d
    have e1 : (("fn" : Str)).length = 2 := by decide +kernel
    have e2 : (("(" : Str)).length = 1 := by decide +kernel
    have e3 : ((")" : Str)).length = 1 := by decide +kernel
    have e4 : (("->" : Str)).length = 2 := by decide +kernel
    have e5 : (("{" : Str)).length = 1 := by decide +kernel
    show wt ([("fn" : Str), f.z, ("(" : Str)] ++ fldR f.fs ++ [(")" : Str), ("->" : Str)] ++ kR f.k ++ srcR f.ws ++ [("{" : Str)]) ≤ _
    simp only [wt_app, wt_cons, wt_nil, e1, e2, e3, e4, e5]
    omega
theorem Fn.head0_len (f : Fn) (o : f.Ok) : f.head0.length ≤ 20000 := by
  have a := fldR_wt0 o.fs
  have b := wt_len (fldR f.fs)
  have c := o.k.size (by decide)
  unfold Fn.head0
  simp only [List.length_append, List.length_cons, List.length_nil]
  omega

/-! ### the rows of a program -/
def recRows (rcs : List Rc) : List (Nat × List Str) := rcs.map fun r => (0, r.row)
def fnRows (fns : List Fn) : List (Nat × List Str) := (fns.map Fn.rows).flatten
local macro_rules | `(tactic| lcg_sub) => `(tactic| (with_reducible refine' use_brows ?h1 ?h2; (case h1 => assumption)))
def sp_law_program_rows : DSp := fun ds m P _ => ∃ rcs fns, ds = [.tup [.tup (List.map Rc.D rcs), .tup (List.map Fn.D fns)]] ∧ rcs.length ≤ 3 ∧ fns.length ≤ 3 ∧ (∀ r ∈ rcs, Rc.Ok r) ∧ (∀ f ∈ fns, Fn.Ok f) ∧
  ∀ p rs m', m p = none → (∀ q ∈ rs, m q.2 = none) → Less m m' → RowsAt m' p rs → rs.map (·.1) = recRows rcs ++ fnRows fns → P (.ref p) m'
theorem take_map_rows {i : Nat} {r : Rc} {rcs : List Rc} (h : rcs[i]? = some r) : recRows (rcs.take (i + 1)) = recRows (rcs.take i) ++ [(0, r.row)] := by
  unfold recRows
  rw [List.take_add_one, h, List.map_append]
  rfl
theorem take_fn_rows {i : Nat} {f : Fn} {fns : List Fn} (h : fns[i]? = some f) : fnRows (fns.take (i + 1)) = fnRows (fns.take i) ++ f.rows := by
  unfold fnRows
  rw [List.take_add_one, h, List.map_append, List.flatten_append]
  simp
theorem BkOk.len {b : Bk} (h : BkOk b) : b.rows.length ≤ 2000000 := by
  have a := h.w
  have c := rowsW_len (b.rows.map inR)
  rw [List.length_map] at c
  omega
theorem fnRows_len {fns : List Fn} (h : ∀ f ∈ fns, Fn.Ok f) : (fnRows fns).length ≤ fns.length * 2000002 := by
  unfold fnRows
  rw [List.length_flatten, List.map_map]
  refine sum_le fun f hf => ?_
  have := (h f hf).b.len
  show (Fn.rows f).length ≤ _
  unfold Fn.rows
  simp only [List.length_cons, List.length_append, List.length_map, List.length_nil]
  omega
theorem rd_prows : ∀ ds m P EX, sp_law_program_rows ds m P EX → Go P (b_law_program_rows sp_law_field_row (sp_law_kind_row 9) sp_law_block_rows) (dstart ["program", "rows", "record", "tree", "head", "k"] ds) m := by
  rintro ds m P EX ⟨rcs, fns, rfl, hr3, hf3, hr, hf, q⟩
  show b_law_program_rows _ _ _ { nx := fun _ m' => Ret P .non m', rt := Ret P } [some (.tup [.tup (List.map Rc.D rcs), .tup (List.map Fn.D fns)]), none, none, none, none, none] m
  unfold b_law_program_rows
  lcg_off
  refine s_seq ?_
  lcg_off
  rename_i p hp
  refine ⟨fun i sd m' => ∃ kk rs, sd = [some (.tup [.tup (List.map Rc.D rcs), .tup (List.map Fn.D fns)]), some (.ref p), kk, none, none, none] ∧ Less m m' ∧ RowsAt m' p rs ∧ (∀ q ∈ rs, m q.2 = none) ∧ rs.map (·.1) = recRows (rcs.take i),
    ⟨_, [], rfl, Less.new hp, RowsAt.nil, (fun _ h => by cases h), rfl⟩, ?_, ?_⟩
  · rintro i x _ m1 hx ⟨kk, rs, rfl, l1, R, nn, er⟩
    obtain ⟨r, hri, rfl⟩ : ∃ r, rcs[i]? = some r ∧ x = .tup [.str r.z, fldsD r.fs] := by
      rw [List.getElem?_map] at hx
      cases e : rcs[i]? with
      | none => rw [e] at hx; cases hx
      | some r => rw [e] at hx; cases hx; exact ⟨r, rfl, rfl⟩
    have ok := hr r (List.mem_of_getElem? hri)
    have hF := ok.fs
    have hk1 := fldR_wt0 hF
    have hk2 := wt_len (fldR r.fs)
    have hsz := PySem.sizeLine_eq
    have hp1 := R.at_
    have hl3 : rs.length ≤ 3 := by
      have := congrArg List.length er
      unfold recRows at this
      simp only [List.length_map, List.length_take] at this
      omega
    lcg_off
    rename_i z _ _ _ _ hz
    refine ⟨put (put m1 z (.lst ((r.row).map D.str))) p (.lst (rs.map rowD ++ [.tup [.int 0, .ref z]])), ?_, _, rs ++ [((0, r.row), z)], rfl, ?_, R.more1 hz rfl, ?_, ?_⟩
    · simp only [Rc.row, List.map_append, List.map_cons, List.map_nil]
      one_item
    · exact less_put (less_put l1 (l1.free hz)) hp
    · intro y hy
      rcases List.mem_append.mp hy with hy | hy
      · exact nn y hy
      · rw [List.mem_singleton] at hy
        subst hy
        exact l1.free hz
    · rw [List.map_append, er, take_map_rows hri]
      rfl
  · rintro _ m1 ⟨kk, rs, rfl, l1, R, nn, er⟩
    rw [List.length_map, List.take_length] at er
    lcg_off
    refine s_seq ?_
    lcg_off
    refine ⟨fun i sd m' => ∃ kk k2 k3 k4 rs, sd = [some (.tup [.tup (List.map Rc.D rcs), .tup (List.map Fn.D fns)]), some (.ref p), kk, k2, k3, k4] ∧ Less m m' ∧ RowsAt m' p rs ∧ (∀ q ∈ rs, m q.2 = none) ∧ rs.map (·.1) = recRows rcs ++ fnRows (fns.take i),
      ⟨_, _, _, _, rs, rfl, l1, R, nn, by rw [er]; simp [fnRows]⟩, ?_, ?_⟩
    · rintro i x _ m2 hx ⟨kk, k2, k3, k4, rs, rfl, l2, R, nn, er⟩
      obtain ⟨f, hfi, rfl⟩ : ∃ f, fns[i]? = some f ∧ x = .tup [.str f.z, fldsD f.fs, f.k.D, .tup (f.ws.map D.str), f.b.d] := by
        rw [List.getElem?_map] at hx
        cases e : fns[i]? with
        | none => rw [e] at hx; cases hx
        | some r => rw [e] at hx; cases hx; exact ⟨r, rfl, rfl⟩
      have ok := hf f (List.mem_of_getElem? hfi)
      have hF := ok.fs
      have hW := ok.k
      have hk1 := fldR_wt0 hF
      have hk2 := wt_len (fldR f.fs)
      have hk3 := hW.size (by decide)
      have hsz := PySem.sizeLine_eq
      have hp1 := R.at_
      refine s_cut (fun sd m' => ∃ z, sd = [some (.tup [.tup (List.map Rc.D rcs), .tup (List.map Fn.D fns)]), some (.ref p), kk, some (.tup [.str f.z, fldsD f.fs, f.k.D, .tup (f.ws.map D.str), f.b.d]), some (.ref z), k4] ∧ m2 z = none ∧ m' = put m2 z (.lst (List.map D.str (f.head0)))) ?_ ?_
      · lcg_off
        rename_i z _ _ _ _ _ _ hz
        refine ⟨put m2 z (.lst (List.map D.str (f.head0))), ?_, z, rfl, hz, rfl⟩
        simp only [Fn.head0, List.map_append, List.map_cons, List.map_nil]
        one_item
      rintro _ _ ⟨z, rfl, hz, rfl⟩
      have hwl := ok.wl
      have hzp : z ≠ p := (R.fresh hz).1
      have hh0 := f.head0_len ok
      refine s_cut (fun sd m' => ∃ k4, sd = [some (.tup [.tup (List.map Rc.D rcs), .tup (List.map Fn.D fns)]), some (.ref p), kk, some (.tup [.str f.z, fldsD f.fs, f.k.D, .tup (f.ws.map D.str), f.b.d]), some (.ref z), k4] ∧ m' = put m2 z (.lst (List.map D.str (f.head0 ++ srcR f.ws)))) ?_ ?_
      · lcg_off
        refine ⟨⟨by rw [List.length_map]; omega, by rw [List.length_map]; omega⟩, fun i sd m' => ∃ k4, sd = [some (.tup [.tup (List.map Rc.D rcs), .tup (List.map Fn.D fns)]), some (.ref p), kk, some (.tup [.str f.z, fldsD f.fs, f.k.D, .tup (f.ws.map D.str), f.b.d]), some (.ref z), k4] ∧ m' = put m2 z (.lst (List.map D.str (f.head0 ++ srcR (f.ws.take i)))), ⟨_, rfl, by rw [List.take_zero]; simp [srcR]⟩, ?_, ?_⟩
        · rintro i _ _ hi ⟨k4, rfl, rfl⟩
          have hlt : i < f.ws.length := by rw [List.length_map] at hi; omega
          have hki : f.ws[i]? = some f.ws[i] := List.getElem?_eq_getElem hlt
          have hx : (f.ws.map D.str)[i]? = some (.str f.ws[i]) := by rw [List.getElem?_map, hki]; rfl
          have hs := wt_len (srcR (f.ws.take i))
          have hs2 := srcR_wt ok.ws ok.wl i
          have et := rowsJ_take (f := fun w : Str => [w]) hki
          have ne1 : f.ws.take (i + 1) ≠ [] := by
            intro e
            have := congrArg List.length e
            rw [List.length_take, List.length_nil] at this
            omega
          by_cases h0 : i = 0
          · have e0 : (if decide ((0 : Int) < (i : Int)) = true then (1 : Int) else 0) = 0 := if_neg (by rw [decide_eq_true_eq]; omega)
            lcg_off
            rw [e0]
            refine r_ixL put_same (d := .str "from") rfl ?_
            lcg_off
            refine ⟨_, ?_, _, rfl, rfl⟩
            have e1 : srcR (f.ws.take (i + 1)) = [("from" : Str), f.ws[i]] := by
              rw [srcR, if_neg ne1, et, if_pos h0]
              rfl
            rw [e1]
            have e2 : srcR (f.ws.take i) = [] := by rw [h0, List.take_zero]; simp [srcR]
            rw [e2]
            simp only [List.map_append, List.map_cons, List.map_nil, List.append_nil]
            one_item
          · have e0 : (if decide ((0 : Int) < (i : Int)) = true then (1 : Int) else 0) = 1 := if_pos (by rw [decide_eq_true_eq]; omega)
            lcg_off
            rw [e0]
            refine r_ixL put_same (d := .str ",") rfl ?_
            lcg_off
            refine ⟨_, ?_, _, rfl, rfl⟩
            have ne2 : f.ws.take i ≠ [] := by
              intro e
              have := congrArg List.length e
              rw [List.length_take, List.length_nil] at this
              omega
            have e1 : srcR (f.ws.take (i + 1)) = srcR (f.ws.take i) ++ [(",": Str), f.ws[i]] := by
              rw [srcR, if_neg ne1, et, if_neg h0, srcR, if_neg ne2]
              simp
            rw [e1]
            simp only [List.map_append, List.map_cons, List.map_nil, List.append_assoc]
            one_item
        · rintro _ _ ⟨k4, rfl, rfl⟩
          rw [List.length_map, Int.toNat_natCast, List.take_length]
          exact ⟨_, Less.refl _, _, rfl, rfl⟩
      rintro _ _ ⟨k4, rfl, rfl⟩
      have hs3 : (srcR f.ws).length ≤ 200 := by
        have a := wt_len (srcR f.ws)
        have b := srcR_wt ok.ws ok.wl f.ws.length
        rw [List.take_length] at b
        omega
      have hrl : rs.length ≤ 3 + 3 * 2000002 := by
        have a := congrArg List.length er
        have b := fnRows_len (fns := fns.take i) fun f h => hf f (List.mem_of_mem_take h)
        rw [List.length_take] at b
        have c : min i fns.length * 2000002 ≤ 3 * 2000002 := Nat.mul_le_mul_right _ (by omega)
        unfold recRows at a
        simp only [List.length_append, List.length_map] at a
        omega
      have hbl := (hf f (List.mem_of_getElem? hfi)).b.len
      refine s_cut (fun sd m' => ∃ rs', sd = [some (.tup [.tup (List.map Rc.D rcs), .tup (List.map Fn.D fns)]), some (.ref p), kk, some (.tup [.str f.z, fldsD f.fs, f.k.D, .tup (f.ws.map D.str), f.b.d]), some (.ref z), k4] ∧ Less m m' ∧ RowsAt m' p rs' ∧ (∀ q ∈ rs', m q.2 = none) ∧ rs'.length = rs.length + 1 ∧ rs'.map (·.1) = recRows rcs ++ fnRows (fns.take i) ++ [(0, f.head)]) ?_ ?_
      · lcg_off
        rename_i y _ _ hy
        refine ⟨put (put m2 y (.lst (f.head.map D.str))) p (.lst (rs.map rowD ++ [.tup [.int 0, .ref y]])), ?_, rs ++ [((0, f.head), y)], rfl, less_put (less_put l2 (l2.free hy)) hp, R.more1 hy rfl, ?_, by simp, ?_⟩
        · simp only [Fn.head, List.map_append, List.map_cons, List.map_nil]
          one_item
        · intro x hx
          rcases List.mem_append.mp hx with hx | hx
          · exact nn x hx
          · rw [List.mem_singleton] at hx
            subst hx
            exact l2.free hy
        · rw [List.map_append, er]
          rfl
      rintro _ m3 ⟨rs1, rfl, l3, R1, nn1, el1, er1⟩
      have hb := ok.b
      have hp3 := R1.at_
      refine s_cut (fun sd m' => ∃ rs', sd = [some (.tup [.tup (List.map Rc.D rcs), .tup (List.map Fn.D fns)]), some (.ref p), kk, some (.tup [.str f.z, fldsD f.fs, f.k.D, .tup (f.ws.map D.str), f.b.d]), some (.ref z), k4] ∧ Less m m' ∧ RowsAt m' p rs' ∧ (∀ q ∈ rs', m q.2 = none) ∧ rs'.length ≤ rs.length + 1 + 2000000 ∧ rs'.map (·.1) = recRows rcs ++ fnRows (fns.take i) ++ [(0, f.head)] ++ f.b.rows.map inR) ?_ ?_
      · lcg_off
        intro p2 rs2 m4 hn2 hnn2 l4 R2 er2
        have e4 : m4 p = _ := l4 _ _ hp3
        have e5 := R2.at_
        have hl2 : rs2.length ≤ 2000000 := by
          have := congrArg List.length er2
          simp only [List.length_map] at this
          omega
        lcg_off
        have hnp : ∀ q ∈ rs2, q.2 ≠ p := fun q hq e => by have := hnn2 q hq; rw [e, hp3] at this; cases this
        refine ⟨_, Less.refl _, rs1 ++ rs2, rfl, less_put (l3.trans l4) hp, (R1.more l4).app R2 hnp, ?_, ?_, ?_⟩
        · intro x hx
          rcases List.mem_append.mp hx with hx | hx
          · exact nn1 x hx
          · exact l3.free (hnn2 x hx)
        · rw [List.length_append]; omega
        · rw [List.map_append, er1, er2]
      rintro _ m5 ⟨rs3, rfl, l5, R3, nn3, el3, er3⟩
      have hp5 := R3.at_
      lcg_off
      rename_i y hy
      refine ⟨put (put m5 y (.lst ([("}" : Str)].map D.str))) p (.lst (rs3.map rowD ++ [.tup [.int 0, .ref y]])), ?_, kk, _, _, _, rs3 ++ [((0, [("}" : Str)]), y)], rfl, less_put (less_put l5 (l5.free hy)) hp, R3.more1 hy rfl, ?_, ?_⟩
      · simp only [List.map_append, List.map_cons, List.map_nil]
        one_item
      · intro x hx
        rcases List.mem_append.mp hx with hx | hx
        · exact nn3 x hx
        · rw [List.mem_singleton] at hx
          subst hx
          exact l5.free hy
      · rw [List.map_append, er3, take_fn_rows hfi]
        simp only [Fn.rows, List.append_assoc, List.cons_append, List.nil_append, List.map_cons, List.map_nil]
    · rintro _ m2 ⟨kk, k2, k3, k4, rs, rfl, l2, R, nn, er⟩
      rw [List.length_map, List.take_length] at er
      lcg_off
      exact ⟨_, Less.refl _, q p rs _ hp nn l2 R er⟩

/-! ### the text of a program, as the law writes it -/
def lineN (r : Nat × List Str) : Str := lineT r ++ ("\n" : Str)
def textOf (rs : List (Nat × List Str)) : Str := Str.join "" (rs.map lineN)
theorem textOf_snoc (rs : List (Nat × List Str)) (r : Nat × List Str) : textOf (rs ++ [r]) = textOf rs ++ indS r.1 ++ lineL r.2 ++ ("\n" : Str) := by
  unfold textOf
  rw [List.map_append, sjoin0_app]
  show _ ++ Str.join "" [lineN r] = _
  have e : Str.join "" [lineN r] = lineN r := rfl
  rw [e, lineN, lineT]
  simp only [sapp_assoc]
theorem mul_len (n : Nat) : (indS n).length = 4 * n := by
  have e : ("    " : Str).length = 4 := by decide +kernel
  unfold indS
  have := PyProof.Rows.len_mul ("    " : Str) (n : Int)
  rw [e, if_neg (by rw [decide_eq_true_eq]; omega)] at this
  omega
theorem mulOk4 {d : Nat} (h : d ≤ 1000) : MulOk ("    " : Str) (d : Int) := by
  have e : ("    " : Str).length = 4 := by decide +kernel
  refine ⟨?_, fun h1 _ => ?_, fun _ _ => ?_⟩
  · rw [Bool.or_eq_false_iff, decide_eq_false_iff_not, decide_eq_false_iff_not]; omega
  · rw [e]
    have : (4 : Int) ≤ (2 ^ 63 - 1) / (d : Int) := Int.le_ediv_of_mul_le (by omega) (by omega)
    omega
  · rw [e]
    show decide (4 * (d : Int).toNat > sizeLine) = false
    rw [decide_eq_false_iff_not, PySem.sizeLine_eq]
    omega
theorem lineT_len (r : Nat × List Str) : (lineT r).length + 1 ≤ rowW r := by
  unfold lineT rowW
  rw [slen_app, mul_len]
  have := lineL_len r.2
  omega
theorem nl_len : (("\n" : Str)).length = 1 := by decide +kernel
theorem slen_join0 : ∀ xs : List Str, (Str.join "" xs).length = (xs.map (·.length)).sum
  | [] => by decide +kernel
  | x :: xs => by
    rw [show x :: xs = [x] ++ xs from rfl, sjoin0_app, slen_app, slen_join0 xs, List.map_append, List.sum_append]
    have e : Str.join "" [x] = x := rfl
    rw [e]
    simp
theorem textOf_len (rs : List (Nat × List Str)) : (textOf rs).length ≤ rowsW rs := by
  unfold textOf rowsW
  rw [slen_join0, List.map_map]
  induction rs with
  | nil => exact Nat.le_refl _
  | cons r rs ih =>
    rw [List.map_cons, List.map_cons, List.sum_cons, List.sum_cons]
    have := lineT_len r
    have e : (lineN r).length = (lineT r).length + 1 := by rw [lineN, slen_app, nl_len]
    show (lineN r).length + _ ≤ _
    omega
theorem Fn.rowsW_le {f : Fn} (o : f.Ok) : rowsW f.rows ≤ 2400000 := by
  unfold Fn.rows
  rw [rowsW_cons, rowsW_app]
  have a := o.b.w
  have b := (Fn.rowOk o).w
  have c : rowsW [(0, [("}" : Str)])] ≤ 10 := by decide +kernel
  unfold rowW
  dsimp only at b ⊢
  omega
theorem Rc.rowW_le {r : Rc} (o : r.Ok) : rowW (0, r.row) ≤ 200001 := by
  have b := (Rc.rowOk o).w
  unfold rowW
  dsimp only at b ⊢
  omega
theorem progW {rcs : List Rc} {fns : List Fn} (h1 : rcs.length ≤ 3) (h2 : fns.length ≤ 3) (hr : ∀ r ∈ rcs, Rc.Ok r) (hf : ∀ f ∈ fns, Fn.Ok f) : rowsW (recRows rcs ++ fnRows fns) ≤ 8000000 := by
  rw [rowsW_app]
  have a : rowsW (recRows rcs) ≤ rcs.length * 200001 := by
    unfold rowsW recRows
    rw [List.map_map]
    exact sum_le fun r h => Rc.rowW_le (hr r h)
  have b : rowsW (fnRows fns) ≤ fns.length * 2400000 := by
    clear h2 a
    unfold fnRows
    induction fns with
    | nil => exact Nat.le_refl _
    | cons f fns ih =>
      rw [List.map_cons, List.flatten_cons, rowsW_app, List.length_cons]
      have := Fn.rowsW_le (hf f List.mem_cons_self)
      have := ih fun f h => hf f (List.mem_cons_of_mem _ h)
      omega
  have c : rcs.length * 200001 ≤ 3 * 200001 := Nat.mul_le_mul_right _ h1
  have d : fns.length * 2400000 ≤ 3 * 2400000 := Nat.mul_le_mul_right _ h2
  omega
theorem progRowOk {rcs : List Rc} {fns : List Fn} (hr : ∀ r ∈ rcs, Rc.Ok r) (hf : ∀ f ∈ fns, Fn.Ok f) : ∀ r ∈ recRows rcs ++ fnRows fns, RowOk r := by
  intro r h
  rcases List.mem_append.mp h with h | h
  · obtain ⟨c, hc, rfl⟩ := List.mem_map.mp h
    exact Rc.rowOk (hr c hc)
  · unfold fnRows at h
    rw [List.mem_flatten] at h
    obtain ⟨l, hl, h⟩ := h
    obtain ⟨f, hff, rfl⟩ := List.mem_map.mp hl
    unfold Fn.rows at h
    rcases List.mem_cons.mp h with h | h
    · subst h
      exact Fn.rowOk (hf f hff)
    · rcases List.mem_append.mp h with h | h
      · exact (hf f hff).b.ok r h
      · rw [List.mem_singleton] at h
        subst h
        exact ⟨by simp, .one (by decide +kernel), by decide +kernel, Nat.zero_le _⟩
theorem rowsW_take (rs : List (Nat × List Str)) (i : Nat) : rowsW (rs.take i) ≤ rowsW rs := by
  have e := rowsW_app (rs.take i) (rs.drop i)
  rw [List.take_append_drop] at e
  omega
def sp_law_text : DSp := fun ds m P _ => ∃ rcs fns, ds = [.tup [.tup (List.map Rc.D rcs), .tup (List.map Fn.D fns)]] ∧ rcs.length ≤ 3 ∧ fns.length ≤ 3 ∧ (∀ r ∈ rcs, Rc.Ok r) ∧ (∀ f ∈ fns, Fn.Ok f) ∧ P (.str (textOf (recRows rcs ++ fnRows fns))) m
theorem rd_text : ∀ ds m P EX, sp_law_text ds m P EX → Go P (b_law_text sp_law_line sp_law_program_rows) (dstart ["program", "text", "row"] ds) m := by
  rintro ds m P EX ⟨rcs, fns, rfl, hr3, hf3, hr, hf, q⟩
  show b_law_text _ _ { nx := fun _ m' => Ret P .non m', rt := Ret P } [some (.tup [.tup (List.map Rc.D rcs), .tup (List.map Fn.D fns)]), none, none] m
  unfold b_law_text
  have hW := progW hr3 hf3 hr hf
  have hO := progRowOk hr hf
  generalize hG : recRows rcs ++ fnRows fns = G at *
  have hsz := PySem.sizeLine_eq
  lcg_off
  refine s_seq ?_
  lcg_off
  refine ⟨rcs, fns, rfl, hr3, hf3, hr, hf, fun p rs m1 hp nn l1 R er => ?_⟩
  rw [hG] at er
  have hp1 := R.at_
  lcg_off
  refine ⟨fun i sd m' => ∃ kk, sd = [some (.tup [.tup (List.map Rc.D rcs), .tup (List.map Fn.D fns)]), some (.str (textOf (G.take i))), kk] ∧ m' = m1, ⟨_, by rw [List.take_zero]; congr 3, rfl⟩, ?_, ?_, ?_⟩
  · rintro i _ _ hi ⟨kk, rfl, rfl⟩
    exact hp1
  · rintro i x _ _ hx ⟨kk, rfl, rfl⟩
    obtain ⟨y, hyi, rfl⟩ : ∃ y, rs[i]? = some y ∧ x = .tup [.int y.1.1, .ref y.2] := by
      rw [List.getElem?_map] at hx
      cases e : rs[i]? with
      | none => rw [e] at hx; cases hx
      | some r => rw [e] at hx; cases hx; exact ⟨r, rfl, rfl⟩
    have hGi : G[i]? = some y.1 := by rw [← er, List.getElem?_map, hyi]; rfl
    have hRo := hO y.1 (List.mem_of_getElem? hGi)
    have hrow := (R.row y (List.mem_of_getElem? hyi)).1
    have h1 := hRo.ne
    have h2 := hRo.ok
    have h3 := hRo.w
    have h4 := mulOk4 hRo.d
    have h5 := textOf_len (G.take i)
    have h6 := rowsW_take G i
    have h7 := mul_len y.1.1
    have h8 := lineL_len y.1.2
    have h9 := hRo.d
    have h10 := nl_len
    lcg_off
    refine r_mulS h4 ?_
    show rAdd (.str _) (.str (indS y.1.1)) _ _
    have hs1 : (textOf (G.take i)).length + (indS y.1.1).length ≤ sizeLine := by omega
    have hs2 : (textOf (G.take i) ++ indS y.1.1).length + (lineL y.1.2).length ≤ sizeLine := by rw [slen_app]; omega
    have hs3 : (textOf (G.take i) ++ indS y.1.1 ++ lineL y.1.2).length + (("\n" : Str)).length ≤ sizeLine := by rw [slen_app, slen_app]; omega
    lcg_off
    have eT : textOf (G.take (i + 1)) = textOf (G.take i) ++ indS y.1.1 ++ lineL y.1.2 ++ ("\n" : Str) := by
      rw [List.take_add_one, hGi]
      exact textOf_snoc _ _
    exact ⟨_, Less.refl _, _, by rw [eT], rfl⟩
  · rintro _ _ ⟨kk, rfl, rfl⟩
    have : (List.map rowD rs).length = G.length := by rw [← er, List.length_map, List.length_map]
    rw [this, List.take_length]
    lcg_off
    exact ⟨_, l1, q⟩

/-! ### the writer -/
theorem lit_mut : (("&mut " : Str)).length = 5 := by decide +kernel
theorem lit_amp : (("&" : Str)).length = 1 := by decide +kernel
theorem lit_box : (("box" : Str)).length = 3 := by decide +kernel
theorem lit_maybe : (("maybe" : Str)).length = 5 := by decide +kernel
theorem lit_sp : ((" " : Str)).length = 1 := by decide +kernel
def sp_kind_text (n : Nat) : DSp := fun ds m P _ => ∃ k, ds = [Kd.D k] ∧ WT n k ∧ n ≤ 1000 ∧ P (.str (kT k)) m
theorem use_ktext {n j : Nat} {k : Kd} {m : M} {P : DK} (h : WT j k) (e : j ≤ n) (hn : n ≤ 1000) (q : P (.str (kT k)) m) : sp_kind_text n [k.D] m P noX := ⟨k, rfl, h.mono e, hn, q⟩
local macro_rules | `(tactic| lcg_sub) => `(tactic| ((with_reducible refine' use_ktext ?h1 ?h2 ?h3 ?h4); (case h1 => assumption); (case h2 => omega); (case h3 => omega)))
theorem WT.tlen {n : Nat} {k : Kd} (h : WT n k) (hn : n ≤ 1000) : (kT k).length ≤ 7000 := by have := h.wt; have := h.phk.len; omega
theorem r_inKMt {a : Addr} {z w : Str} {ks : List (Str × Option Str)} {m : M} {P : DK} (h : (z, some w) ∈ ks) (q : P (.bl true) m) : rInKM a ks (.str z) (.ref a) m P := ⟨z, some w, rfl, rfl, h, q⟩
theorem r_inKMf {a : Addr} {z : Str} {ks : List (Str × Option Str)} {m : M} {P : DK} (h : (z, none) ∈ ks) (q : P (.bl false) m) : rInKM a ks (.str z) (.ref a) m P := ⟨z, none, rfl, rfl, h, q⟩
local macro_rules | `(tactic| lcg_sub) => `(tactic| first
  | ((with_reducible refine' r_inKMt ?h1 ?h2); (case h1 => with_reducible first | exact List.mem_cons_self | exact List.mem_cons_of_mem _ (List.mem_cons_self)))
  | ((with_reducible refine' r_inKMf ?h1 ?h2); (case h1 => with_reducible first | exact List.mem_cons_of_mem _ (List.mem_cons_of_mem _ (List.mem_cons_self)) | exact List.mem_cons_of_mem _ (List.mem_cons_of_mem _ (List.mem_cons_of_mem _ (List.mem_cons_self))) | exact List.mem_cons_of_mem _ (List.mem_cons_of_mem _ (List.mem_cons_of_mem _ (List.mem_cons_of_mem _ (List.mem_cons_self)))) | exact List.mem_cons_of_mem _ (List.mem_cons_of_mem _ (List.mem_cons_of_mem _ (List.mem_cons_of_mem _ (List.mem_cons_of_mem _ (List.mem_cons_self))))) | exact List.mem_cons_of_mem _ (List.mem_cons_of_mem _ (List.mem_cons_of_mem _ (List.mem_cons_of_mem _ (List.mem_cons_of_mem _ (List.mem_cons_of_mem _ (List.mem_cons_self)))))) | exact List.mem_cons_of_mem _ (List.mem_cons_of_mem _ (List.mem_cons_of_mem _ (List.mem_cons_of_mem _ (List.mem_cons_of_mem _ (List.mem_cons_of_mem _ (List.mem_cons_of_mem _ (List.mem_cons_self))))))) | exact List.mem_cons_of_mem _ (List.mem_cons_of_mem _ (List.mem_cons_of_mem _ (List.mem_cons_of_mem _ (List.mem_cons_of_mem _ (List.mem_cons_of_mem _ (List.mem_cons_of_mem _ (List.mem_cons_of_mem _ (List.mem_cons_self))))))))))
  | ((with_reducible refine' r_getKM ?h1 ?h2); (case h1 => with_reducible first | exact List.mem_cons_self | exact List.mem_cons_of_mem _ (List.mem_cons_self)))
  | fail)
local macro_rules | `(tactic| one_sign) => `(tactic| first
  | (rename WT _ _ => hW; have hA := hW.tlen (by omega); have hB := PySem.sizeLine_eq; (repeat rw [slen_app]); (first | omega | (simp only [lit_mut, lit_amp, lit_box, lit_maybe, lit_sp]; omega))) | fail)
theorem rd_ktext (x_MODES : Addr) (n : Nat) : ∀ ds m P EX, sp_kind_text (n + 1) ds m P EX → Go P (b_kind_text x_MODES (sp_kind_text n)) (dstart ["kind", "shape", "part"] ds) m := by
  rintro ds m P EX ⟨k, rfl, hk, hn, q⟩
  show b_kind_text x_MODES (sp_kind_text n) { nx := fun _ m' => Ret P .non m', rt := Ret P } [some k.D, none, none] m
  unfold b_kind_text
  cases hk
  all_goals (first | rw [Kd.D_tup] | unfold Kd.D)
  all_goals rw [kT] at q
  all_goals top_strB
  all_goals (first | exact ⟨_, Less.refl _, q⟩ | skip)
  rename_i ks h1 h2 h
  intro p hp
  refine ⟨fun i acc m' => acc = ((ks.take i).map kT).map D.str ∧ m' = m, ⟨rfl, rfl⟩, ?_, ?_⟩
  · rintro i x acc m2 hx ⟨rfl, rfl⟩
    obtain ⟨k, hki, rfl⟩ := get_map hx
    have hW := (h k (List.mem_of_getElem? hki)).mono (k := k) (show min n 2 ≤ n by omega)
    unfold CTurn
    lcg_off
    refine ⟨m2, Less.refl _, ?_, ?_, rfl⟩
    · have := PySem.sizeLine_eq
      simp only [List.length_map, List.length_take]
      omega
    · rw [List.take_add_one, hki]
      simp
  · rintro acc m2 ⟨rfl, rfl⟩
    rw [List.length_map, List.take_length]
    have hl : (Str.join ", " (ks.map kT)).length ≤ 7000 := by
      have := (WT.tup (n := n) h1 h2 h).tlen hn
      rw [kT, slen_app, slen_app, kTs_map] at this
      omega
    have hj : ((ks.map kT).map (·.length)).sum + (ks.map kT).length * ((", " : Str)).length ≤ 16777216 := by
      have e : ((", " : Str)).length = 2 := by decide +kernel
      have a := sum_le (f := fun s : Str => s.length) (n := 7000) (xs := ks.map kT) fun s hs => by
        obtain ⟨k, hk, rfl⟩ := List.mem_map.mp hs
        exact (h k hk).tlen (by omega)
      rw [List.length_map] at a ⊢
      have b : ks.length * 7000 ≤ 6 * 7000 := Nat.mul_le_mul_right _ h2
      rw [e]
      omega
    have e1 : (("(" : Str)).length = 1 := by decide +kernel
    have e2 : ((")" : Str)).length = 1 := by decide +kernel
    have hs1 : (("(" : Str)).length + (Str.join ", " (ks.map kT)).length ≤ sizeLine := by rw [PySem.sizeLine_eq]; omega
    have hs2 : (("(" : Str) ++ Str.join ", " (ks.map kT)).length + ((")" : Str)).length ≤ sizeLine := by rw [slen_app, PySem.sizeLine_eq]; omega
    rw [kTs_map] at q
    lcg_off
    refine r_joinL put_same hj ?_
    lcg_off
    refine ⟨_, ?_, q⟩
    one_item
theorem rec_ktext {P : Program} {w : World} {K : PySem.W.Frag} {mg : Str → Option Value} {x_MODES : Addr} (F : FunAt K mg "kind_text" s_kind_text ["kind"]) (g_MODES : mg "MODES" = some (.ref x_MODES)) (km_MODES : KMap K w x_MODES tab_MODES) :
    ∀ n : Nat, Callee P w K mg n "kind_text" ["kind"] (sp_kind_text n)
  | 0 => F.none fun ds m P EX h => by obtain ⟨_, _, h, _⟩ := h; cases h
  | n + 1 => ok_kind_text F (rec_ktext F g_MODES km_MODES n) g_MODES km_MODES (by rintro ds m P EX ⟨_, rfl, _⟩; rfl) (rd_ktext x_MODES n)

section
variable {t u v : TDE} {sd : DS} {m : M} {P : DK} {ts : List TDE} {acc y : Str} {Q : Str → M → Prop}
def rJs (x : D) (acc : Str) (ts : List TDE) (sd : DS) (m1 : M) (Q : Str → M → Prop) : Prop := ∃ y : Str, x = .str y ∧ (acc ++ y).length ≤ sizeLine ∧ dJs ts (acc ++ y) sd m1 Q
def rFmt (x : D) (m1 : M) (P : DK) : Prop := (∃ y : Str, x = .str y ∧ y.length ≤ sizeLine ∧ P (.str y) m1) ∨ ∃ i : Int, x = .int i ∧ i.natAbs.log2 < 1920 ∧ P (.str (toString i)) m1
theorem s_join (q : dJs ts Str.empty sd m fun out m1 => P (.str out) m1) : dJoin ts sd m P := q
theorem s_jsN (q : Q acc m) : dJs [] acc sd m Q := q
theorem s_jsC (q : t sd m fun x m1 => rJs x acc ts sd m1 Q) : dJs (t :: ts) acc sd m Q := q
theorem r_js (h : (acc ++ y).length ≤ sizeLine) (q : dJs ts (acc ++ y) sd m Q) : rJs (.str y) acc ts sd m Q := ⟨y, rfl, h, q⟩
theorem s_fmt (q : t sd m fun x m1 => rFmt x m1 P) : dFmt t sd m P := q
theorem r_fmtS (h : y.length ≤ sizeLine) (q : P (.str y) m) : rFmt (.str y) m P := .inl ⟨y, rfl, h, q⟩
theorem sempty_len : Str.empty.length = 0 := rfl
end
local macro_rules | `(tactic| lcg_sub) => `(tactic| first
  | with_reducible refine s_join ?_ | with_reducible refine s_jsN ?_ | with_reducible refine s_jsC ?_ | with_reducible refine s_fmt ?_
  | ((with_reducible refine' r_js ?h1 ?h2); (case h1 => (simp only [slen_app, sempty_len] at *; omega)))
  | ((with_reducible refine' r_fmtS ?h1 ?h2); (case h1 => omega)) | fail)

theorem slen_join_le (s : Str) : ∀ xs : List Str, (Str.join s xs).length ≤ (xs.map (·.length)).sum + xs.length * s.length
  | [] => by rw [show Str.join s [] = ("" : Str) from by rw [snil]; rfl]; exact Nat.zero_le _
  | x :: xs => by
    by_cases h : xs = []
    · subst h
      have e : Str.join s [x] = x := rfl
      rw [e]
      simp
    · rw [sjoin_cons _ _ h, slen_app, slen_app, List.map_cons, List.sum_cons, List.length_cons, Nat.add_mul]
      have := slen_join_le s xs
      omega
theorem comma_len : ((", " : Str)).length = 2 := by decide +kernel

/-! ### the writer: places, expressions, statements -/
theorem sempty_app (a : Str) : Str.empty ++ a = a := by rw [← snil]; exact snil_app a
theorem r_fmtI {i : Int} {m : M} {P : DK} (h1 : -2147483648 ≤ i) (h2 : i ≤ 2147483648) (q : P (.str (numT i)) m) : rFmt (.int i) m P := .inr ⟨i, rfl, (r_strAI (m := m) (P := fun _ _ => True) h1 h2 trivial).1, q⟩
local macro_rules | `(tactic| lcg_sub) => `(tactic| ((with_reducible refine' r_fmtI ?h1 ?h2 ?h3); (case h1 => omega); (case h2 => omega)))
theorem shS (z : Str) (h : PyData.strOk z = true) : ShD 0 (.str z) := ⟨by simp [D.py, PyData.canLay0, h], by simp [D.py, PyData.depth]⟩
theorem shI (i : Int) : ShD 0 (.int i) := ⟨by simp [D.py, PyData.canLay0], by simp [D.py, PyData.depth]⟩
theorem okD_qc : okD (.tup [.str "?", .str "^"]) := okD_of (ShD.tup (n := 0) fun x hx => by
  rcases List.mem_cons.mp hx with rfl | hx
  · exact shS _ (by decide +kernel)
  · rw [List.mem_singleton] at hx; subst hx; exact shS _ (by decide +kernel)) (by decide)
def sp_step_text : DSp := fun ds m P _ => ∃ s, ds = [Sp.D s] ∧ s.Ok ∧ P (.str s.T) m
theorem use_stext {s : Sp} {m : M} {P : DK} (h : s.Ok) (q : P (.str s.T) m) : sp_step_text [s.D] m P noX := ⟨s, rfl, h, q⟩
theorem rd_stext : ∀ ds m P EX, sp_step_text ds m P EX → Go P b_step_text (dstart ["step"] ds) m := by
  rintro ds m P EX ⟨s, rfl, ho, q⟩
  show b_step_text { nx := fun _ m' => Ret P .non m', rt := Ret P } [some s.D] m
  unfold b_step_text
  have hsz := PySem.sizeLine_eq
  have e1 : (("." : Str)).length = 1 := by decide +kernel
  cases ho with
  | q => unfold Sp.D; top_strB; refine Or.inl ?_; top_strB; exact ⟨_, Less.refl _, q⟩
  | c => unfold Sp.D; top_strB; refine Or.inl ?_; top_strB; exact ⟨_, Less.refl _, q⟩
  | f hz =>
    obtain ⟨n1, n2⟩ := name_ne hz
    have hl := hz.len
    rename_i z
    unfold Sp.D
    top_strB
    refine Or.inl ?_
    top_strB
    · exfalso
      rename_i h
      rcases List.mem_cons.mp h with h | h
      · exact n1 h
      · exact n2 (List.mem_singleton.mp h)
    refine ⟨_, Less.refl _, ?_⟩
    rw [sempty_app]
    exact q
  | n hi =>
    rename_i i
    have hl := (numT_ok (i := (i : Int)) (by omega) (by omega)).len
    unfold Sp.D
    top_strB
    refine Or.inr ⟨_, rfl, okD_of (shI _) (by decide), okD_qc, ?_⟩
    show (if false = true then _ else _)
    top_strB
    refine ⟨_, Less.refl _, ?_⟩
    rw [sempty_app]
    exact q
def sp_place_text : DSp := fun ds m P _ => ∃ p, ds = [Plc.D p] ∧ p.Ok ∧ P (.str p.T) m
theorem use_ptext {p : Plc} {m : M} {P : DK} (h : p.Ok) (q : P (.str p.T) m) : sp_place_text [p.D] m P noX := ⟨p, rfl, h, q⟩
theorem rd_ptext : ∀ ds m P EX, sp_place_text ds m P EX → Go P (b_place_text sp_step_text) (dstart ["place", "variable", "steps", "step"] ds) m := by
  rintro ds m P EX ⟨p, rfl, ho, q⟩
  show b_place_text sp_step_text { nx := fun _ m' => Ret P .non m', rt := Ret P } [some (.tup [.str p.v, .tup (p.ss.map Sp.D)]), none, none, none] m
  unfold b_place_text
  have hsz := PySem.sizeLine_eq
  lcg_off
  intro a ha
  refine ⟨fun i acc m' => acc = ((p.ss.take i).map Sp.T).map D.str ∧ m' = m, ⟨rfl, rfl⟩, ?_, ?_⟩
  · rintro i x acc m2 hx ⟨rfl, rfl⟩
    obtain ⟨s, hsi, rfl⟩ := get_map hx
    unfold CTurn
    lcg_off
    refine use_stext (ho.ss s (List.mem_of_getElem? hsi)) ?_
    lcg_off
    refine ⟨m2, Less.refl _, ?_, ?_, rfl⟩
    · have := ho.len
      simp only [List.length_map, List.length_take]
      omega
    · rw [List.take_add_one, hsi]
      simp
  · rintro acc m2 ⟨rfl, rfl⟩
    rw [List.length_map, List.take_length]
    have hT : p.T.length ≤ 323 := Nat.le_trans ho.phk.len ho.wt
    have e0 : (("" : Str)).length = 0 := by decide +kernel
    unfold Plc.T at hT q
    rw [slen_app] at hT
    have hj : ((p.ss.map Sp.T).map (·.length)).sum + (p.ss.map Sp.T).length * (("" : Str)).length ≤ 16777216 := by
      rw [e0, Nat.mul_zero, Nat.add_zero, ← slen_join0]
      omega
    have hs1 : p.v.length + (Str.join "" (p.ss.map Sp.T)).length ≤ sizeLine := by omega
    lcg_off
    refine r_joinL put_same hj ?_
    lcg_off
    exact ⟨_, by one_item, q⟩
local macro_rules | `(tactic| lcg_sub) => `(tactic| ((with_reducible refine' use_ptext ?h1 ?h2); (case h1 => assumption)))
def sp_et (n : Nat) : DSp := fun ds m P _ => ∃ e, ds = [Ex.D e] ∧ WE n e ∧ wt (exR e) ≤ 150000 ∧ P (.str (exT e)) m
theorem use_et {n j : Nat} {e : Ex} {m : M} {P : DK} (h : WE j e) (h2 : j ≤ n) (h3 : wt (exR e) ≤ 150000) (q : P (.str (exT e)) m) : sp_et n [e.D] m P noX := ⟨e, rfl, h.mono h2, h3, q⟩
local macro_rules | `(tactic| lcg_sub) => `(tactic| ((with_reducible refine' use_et ?h1 ?h2 ?h3 ?h4); (case h1 => assumption); (case h2 => omega); (case h3 => omega)))
def sp_lt (n : Nat) : DSp := fun ds m P _ => ∃ es, ds = [.tup (List.map Ex.D es)] ∧ (∀ e ∈ es, WE n e) ∧ es.length ≤ 7 ∧ wt (rowsJ (es.map exR)) ≤ 150000 ∧ P (.str (("(" : Str) ++ Str.join ", " (es.map exT) ++ (")" : Str))) m
theorem use_lt {n : Nat} {es : List Ex} {m : M} {P : DK} (h : ∀ e ∈ es, WE n e) (h2 : es.length ≤ 7) (h3 : wt (rowsJ (es.map exR)) ≤ 150000) (q : P (.str (("(" : Str) ++ Str.join ", " (es.map exT) ++ (")" : Str))) m) : sp_lt n [.tup (List.map Ex.D es)] m P noX := ⟨es, rfl, h, h2, h3, q⟩
theorem join_len {n : Nat} {es : List Ex} (h : ∀ e ∈ es, WE n e) (h2 : es.length ≤ 7) (h3 : wt (rowsJ (es.map exR)) ≤ 150000) : ((es.map exT).map (·.length)).sum + (es.map exT).length * ((", " : Str)).length ≤ 1100000 := by
  have a := sum_le (f := fun s : Str => s.length) (n := 150000) (xs := es.map exT) fun s hs => by
    obtain ⟨e, he, rfl⟩ := List.mem_map.mp hs
    exact Nat.le_trans (h e he).phk.len (Nat.le_trans (rowsJ_mem_wt he) h3)
  rw [List.length_map] at a ⊢
  have b : es.length * 150000 ≤ 7 * 150000 := Nat.mul_le_mul_right _ h2
  rw [comma_len]
  omega
theorem rd_lt (n : Nat) : ∀ ds m P EX, sp_lt n ds m P EX → Go P (b_list_text (sp_et n)) (dstart ["expressions", "part"] ds) m := by
  rintro ds m P EX ⟨es, rfl, he, hl7, hw, q⟩
  show b_list_text (sp_et n) { nx := fun _ m' => Ret P .non m', rt := Ret P } [some (.tup (es.map Ex.D)), none] m
  unfold b_list_text
  have hsz := PySem.sizeLine_eq
  lcg_off
  intro a ha
  refine ⟨fun i acc m' => acc = ((es.take i).map exT).map D.str ∧ m' = m, ⟨rfl, rfl⟩, ?_, ?_⟩
  · rintro i x acc m2 hx ⟨rfl, rfl⟩
    obtain ⟨e, hei, rfl⟩ := get_map hx
    have hem := List.mem_of_getElem? hei
    have hwe := he e hem
    have hw2 : wt (exR e) ≤ 150000 := Nat.le_trans (rowsJ_mem_wt hem) hw
    unfold CTurn
    lcg_off
    refine ⟨m2, Less.refl _, ?_, ?_, rfl⟩
    · simp only [List.length_map, List.length_take]
      omega
    · rw [List.take_add_one, hei]
      simp
  · rintro acc m2 ⟨rfl, rfl⟩
    rw [List.length_map, List.take_length]
    have hj := join_len he hl7 hw
    have hjl := Nat.le_trans (slen_join_le _ _) hj
    have e1 : (("(" : Str)).length = 1 := by decide +kernel
    have e2 : ((")" : Str)).length = 1 := by decide +kernel
    have hs1 : (("(" : Str)).length + (Str.join ", " (es.map exT)).length ≤ sizeLine := by omega
    have hs2 : (("(" : Str) ++ Str.join ", " (es.map exT)).length + ((")" : Str)).length ≤ sizeLine := by rw [slen_app]; omega
    lcg_off
    refine r_joinL put_same (Nat.le_trans hj (by decide)) ?_
    lcg_off
    exact ⟨_, by one_item, q⟩
local macro_rules | `(tactic| lcg_sub) => `(tactic| ((with_reducible refine' use_lt ?h1 ?h2 ?h3 ?h4); (case h1 => assumption); (case h2 => assumption); (case h3 => omega)))

inductive OE : Ex → Prop where
  | one {w e} : w ∈ oneW → OE (.one w e)
  | swap {p e} : OE (.swap p e)
  | op {s a b} : OE (.op s a b)
  | tup {es} : OE (.tup es)
  | rcd {z es} : OE (.rcd z es)
  | call {z es} : OE (.call z es)
def sp_ot (n : Nat) : DSp := fun ds m P _ => ∃ e, ds = [Ex.D e] ∧ WE (n + 1) e ∧ OE e ∧ wt (exR e) ≤ 150000 ∧ P (.str (exT e)) m
theorem rd_et (x_MODES : Addr) (n : Nat) : ∀ ds m P EX, sp_et (n + 1) ds m P EX → Go P (b_expression_text x_MODES (sp_kind_text 9) sp_place_text (sp_ot n)) (dstart ["expression", "shape"] ds) m := by
  rintro ds m P EX ⟨e, rfl, he, hw, q⟩
  show b_expression_text x_MODES (sp_kind_text 9) sp_place_text (sp_ot n) { nx := fun _ m' => Ret P .non m', rt := Ret P } [some e.D, none] m
  unfold b_expression_text
  have hsz := PySem.sizeLine_eq
  have heo := he
  cases he with
  | int h1 h2 =>
    rw [Ex.D]
    rw [exT] at q
    top_strB
    exact ⟨_, Less.refl _, q⟩
  | bool =>
    rename_i b
    rw [Ex.D]
    rw [exT] at q
    cases b
    all_goals top_strB
    all_goals exact ⟨_, Less.refl _, q⟩
  | unit =>
    rw [Ex.D]
    rw [exT] at q
    top_strB
    exact ⟨_, Less.refl _, q⟩
  | none hk =>
    rename_i k
    rw [Ex.D]
    rw [exT] at q
    have hl := hk.tlen (by decide)
    have e1 : (("none[" : Str)).length = 5 := by decide +kernel
    have e2 : (("]" : Str)).length = 1 := by decide +kernel
    have hs1 : (("none[" : Str)).length + (kT k).length ≤ sizeLine := by omega
    have hs2 : (("none[" : Str) ++ kT k).length + (("]" : Str)).length ≤ sizeLine := by rw [slen_app]; omega
    top_strB
    exact ⟨_, Less.refl _, q⟩
  | shr hp =>
    rename_i p
    rw [Ex.D]
    rw [exT] at q
    have hl := Nat.le_trans hp.phk.len hp.wt
    have hs1 : (("&" : Str)).length + p.T.length ≤ sizeLine := by rw [lit_amp]; omega
    top_strB
    exact ⟨_, Less.refl _, q⟩
  | exc hp =>
    rename_i p
    rw [Ex.D]
    rw [exT] at q
    have hl := Nat.le_trans hp.phk.len hp.wt
    have hs1 : (("&mut " : Str)).length + p.T.length ≤ sizeLine := by rw [lit_mut]; omega
    top_strB
    exact ⟨_, Less.refl _, q⟩
  | use hp =>
    rw [Ex.D]
    rw [exT] at q
    top_strB
    exact ⟨_, Less.refl _, q⟩
  | is hp =>
    rename_i p
    rw [Ex.D]
    rw [exT] at q
    have hl := Nat.le_trans hp.phk.len hp.wt
    have e1 : ((" is some" : Str)).length = 8 := by decide +kernel
    have hs1 : p.T.length + ((" is some" : Str)).length ≤ sizeLine := by omega
    top_strB
    exact ⟨_, Less.refl _, q⟩
  | one hx he =>
    rename_i w e
    have ho : OE (.one w e) := .one hx
    have go : ∀ x, x = Ex.D (.one w e) → sp_ot n [x] m (Ret P) noX := fun x hx => ⟨_, by rw [hx], heo, ho, hw, ⟨_, Less.refl _, q⟩⟩
    rw [Ex.D] at *
    simp only [oneW, List.mem_cons, List.not_mem_nil, or_false] at hx
    rcases hx with rfl | rfl | rfl | rfl
    all_goals top_strB
    all_goals exact go _ rfl
  | swap hp he =>
    rename_i p e
    have go : ∀ x, x = Ex.D (.swap p e) → sp_ot n [x] m (Ret P) noX := fun x hx => ⟨_, by rw [hx], heo, .swap, hw, ⟨_, Less.refl _, q⟩⟩
    rw [Ex.D] at *
    top_strB
    exact go _ rfl
  | op hs h1 h2 =>
    rename_i s a b
    have go : ∀ x, x = Ex.D (.op s a b) → sp_ot n [x] m (Ret P) noX := fun x hx => ⟨_, by rw [hx], heo, .op, hw, ⟨_, Less.refl _, q⟩⟩
    rw [Ex.D] at *
    top_strB
    exact go _ rfl
  | tup ne hl7 he =>
    rename_i es
    have go : ∀ x, x = Ex.D (.tup es) → sp_ot n [x] m (Ret P) noX := fun x hx => ⟨_, by rw [hx], heo, .tup, hw, ⟨_, Less.refl _, q⟩⟩
    rw [Ex.D] at *
    top_strB
    exact go _ rfl
  | rcd hz hl7 he =>
    rename_i z es
    have go : ∀ x, x = Ex.D (.rcd z es) → sp_ot n [x] m (Ret P) noX := fun x hx => ⟨_, by rw [hx], heo, .rcd, hw, ⟨_, Less.refl _, q⟩⟩
    rw [Ex.D] at *
    top_strB
    exact go _ rfl
  | call hz hl7 he =>
    rename_i z es
    have go : ∀ x, x = Ex.D (.call z es) → sp_ot n [x] m (Ret P) noX := fun x hx => ⟨_, by rw [hx], heo, .call, hw, ⟨_, Less.refl _, q⟩⟩
    rw [Ex.D] at *
    top_strB
    exact go _ rfl
theorem rd_ot (n : Nat) : ∀ ds m P EX, sp_ot n ds m P EX → Go P (b_outer_text (sp_et n) sp_place_text (sp_lt n)) (dstart ["expression", "shape"] ds) m := by
  rintro ds m P EX ⟨e, rfl, he, ho, hw, q⟩
  show b_outer_text (sp_et n) sp_place_text (sp_lt n) { nx := fun _ m' => Ret P .non m', rt := Ret P } [some e.D, none] m
  unfold b_outer_text
  have hsz := PySem.sizeLine_eq
  have htl := Nat.le_trans he.phk.len hw
  have e0 : ((" " : Str)).length = 1 := by decide +kernel
  cases ho with
  | one hx0 =>
    cases he with
    | one hx he =>
      rename_i w e
      have o5 := (oneW_ok hx).2.2.2.1
      rw [Ex.D]
      rw [exT] at q
      rw [exR, wt_cons] at hw
      have hl := he.phk.len
      have hwe : wt (exR e) ≤ 150000 := by omega
      have hs1 : w.length + ((" " : Str)).length ≤ sizeLine := by omega
      have hs2 : (w ++ (" " : Str)).length + (exT e).length ≤ sizeLine := by rw [slen_app]; omega
      simp only [oneW, List.mem_cons, List.not_mem_nil, or_false] at hx
      rcases hx with rfl | rfl | rfl | rfl
      all_goals top_strB
      all_goals exact ⟨_, Less.refl _, q⟩
  | swap =>
    cases he with
    | swap hp he =>
      rename_i p e
      rw [Ex.D]
      rw [exT] at q
      rw [exR, wt_cons, wt_app, wt_cons] at hw
      have hl := he.phk.len
      have hlp := Nat.le_trans hp.phk.len hp.wt
      have hwe : wt (exR e) ≤ 150000 := by omega
      have e1 : (("swap " : Str)).length = 5 := by decide +kernel
      have e2 : ((" with " : Str)).length = 6 := by decide +kernel
      clear htl
      top_strB
      refine ⟨_, Less.refl _, ?_⟩
      rw [sempty_app]
      exact q
  | op =>
    cases he with
    | op hs h1 h2 =>
      rename_i s a b
      rw [Ex.D]
      rw [exT] at q
      rw [exR, wt_cons, wt_app, wt_cons, wt_app] at hw
      have hl1 := h1.phk.len
      have hl2 := h2.phk.len
      have hls := (opW_ok hs).2.2.2.2.1
      have hwe : wt (exR a) ≤ 150000 := by omega
      have hwf : wt (exR b) ≤ 150000 := by omega
      have e1 : (("(" : Str)).length = 1 := by decide +kernel
      have e2 : ((")" : Str)).length = 1 := by decide +kernel
      clear htl
      top_strB
      refine ⟨_, Less.refl _, ?_⟩
      rw [sempty_app]
      exact q
  | tup =>
    cases he with
    | tup ne hl7 he =>
      rename_i es
      rw [Ex.D, Ex.Ds_map]
      rw [exT, exTs_map] at q
      rw [exR, exRs_map, wt_cons, wt_app] at hw
      have hwe : wt (rowsJ (es.map exR)) ≤ 150000 := by omega
      top_strB
      exact ⟨_, Less.refl _, q⟩
  | rcd =>
    cases he with
    | rcd hz hl7 he =>
      rename_i z es
      have hzl := hz.len
      rw [Ex.D, Ex.Ds_map]
      rw [exT, exTs_map] at q htl
      rw [exR, exRs_map, wt_cons, wt_cons, wt_app] at hw
      have hwe : wt (rowsJ (es.map exR)) ≤ 150000 := by omega
      have hs1 : z.length + (("(" : Str) ++ Str.join ", " (es.map exT) ++ (")" : Str)).length ≤ sizeLine := by rw [slen_app] at htl; omega
      top_strB
      exact ⟨_, Less.refl _, q⟩
  | call =>
    cases he with
    | call hz hl7 he =>
      rename_i z es
      have hzl := hz.len
      rw [Ex.D, Ex.Ds_map]
      rw [exT, exTs_map] at q htl
      rw [exR, exRs_map, wt_cons, wt_cons, wt_app] at hw
      have hwe : wt (rowsJ (es.map exR)) ≤ 150000 := by omega
      have hs1 : z.length + (("(" : Str) ++ Str.join ", " (es.map exT) ++ (")" : Str)).length ≤ sizeLine := by rw [slen_app] at htl; omega
      top_strB
      exact ⟨_, Less.refl _, q⟩
/-! statements -/
def sp_bl (n : Nat) : DSp := fun ds m P _ => ∃ ss, ds = [.tup (List.map Sm.D ss)] ∧ (∀ s ∈ ss, WS n s) ∧ rW (smRs ss) ≤ 1500000 ∧ ∀ p m', m p = none → Less m m' → m' p = some (.lst (((smLs ss).map indT).map D.str)) → P (.ref p) m'
abbrev sp_block_lines : DSp := sp_bl 20
def sp_sl (n : Nat) : DSp := fun ds m P _ => ∃ s, ds = [Sm.D s] ∧ WS n s ∧ rW (smR s) ≤ 1500000 ∧ ∀ p m', m p = none → Less m m' → m' p = some (.lst ((smL s).map D.str)) → P (.ref p) m'
theorem use_blines {b : Bk} {m : M} {P : DK} (h : BkOk b) (q : ∀ p m', m p = none → Less m m' → m' p = some (.lst (b.lines.map D.str)) → P (.ref p) m') : sp_block_lines [b.d] m P noX := by
  obtain ⟨ss, rfl, hs, hw⟩ := h
  exact ⟨ss, rfl, hs, hw, q⟩
theorem use_bl {n : Nat} {ss : List Sm} {m : M} {P : DK} (h : ∀ s ∈ ss, WS n s) (hw : rW (smRs ss) ≤ 1500000) (q : ∀ p m', m p = none → Less m m' → m' p = some (.lst (((smLs ss).map indT).map D.str)) → P (.ref p) m') : sp_bl n [.tup (List.map Sm.D ss)] m P noX := ⟨ss, rfl, h, hw, q⟩
theorem smLs_len {n : Nat} {ss : List Sm} (h : ∀ s ∈ ss, WS n s) : (smLs ss).length = (smRs ss).length := by
  rw [← flat_eq fun s hs => (h s hs).lines, List.length_map]
theorem smL_len {n : Nat} {s : Sm} (h : WS n s) : (smL s).length = (smR s).length := by rw [← h.lines, List.length_map]
theorem line_len {n : Nat} {ss : List Sm} (h : ∀ s ∈ ss, WS n s) (hn : n ≤ 100) {t : Str} (ht : t ∈ smLs ss) : t.length ≤ 300000 := by
  rw [← flat_eq fun s hs => (h s hs).lines] at ht
  obtain ⟨r, hr, rfl⟩ := List.mem_map.mp ht
  have R := smRs_rows h r hr
  unfold lineT
  rw [slen_app, mul_len]
  have := lineL_len r.2
  have := R.w
  have := R.d
  omega
theorem rd_bl (n : Nat) (hn : n ≤ 100) : ∀ ds m P EX, sp_bl n ds m P EX → Go P (b_block_lines (sp_sl n)) (dstart ["block", "lines", "statement", "line"] ds) m := by
  rintro ds m P EX ⟨ss, rfl, hs, hw, q⟩
  show b_block_lines (sp_sl n) { nx := fun _ m' => Ret P .non m', rt := Ret P } [some (.tup (ss.map Sm.D)), none, none, none] m
  unfold b_block_lines
  have hsz := PySem.sizeLine_eq
  lcg_off
  refine s_seq ?_
  lcg_off
  rename_i p hp
  refine ⟨fun i sd m' => ∃ kk, sd = [some (.tup (ss.map Sm.D)), some (.ref p), kk, none] ∧ Less m m' ∧ m' p = some (.lst ((smLs (ss.take i)).map D.str)),
    ⟨_, rfl, less_put (Less.refl _) hp, by rw [put_same, List.take_zero]; rfl⟩, ?_, ?_⟩
  · rintro i x _ m1 hx ⟨kk, rfl, l1, hm1⟩
    obtain ⟨s, hsi, rfl⟩ := get_map hx
    have hsm := List.mem_of_getElem? hsi
    have hl1 : (smLs (ss.take i)).length ≤ 1500000 := by
      rw [smLs_len fun s h => hs s (List.mem_of_mem_take h)]
      exact Nat.le_trans (rW_len _) (Nat.le_trans (rW_takes ss i) hw)
    have hr := Nat.le_trans (rW_mem hsm) hw
    have hl2 : (smL s).length ≤ 1500000 := by
      rw [smL_len (hs s hsm)]
      exact Nat.le_trans (rW_len _) hr
    lcg_off
    refine ⟨s, rfl, hs s hsm, hr, fun p2 m2 hp2 l2 hm2 => ?_⟩
    have e4 : m2 p = _ := l2 _ _ hm1
    have hpp : p2 ≠ p := fun e => by rw [e, hm1] at hp2; cases hp2
    lcg_off
    refine ⟨_, Less.refl _, _, rfl, less_put (l1.trans l2) hp, ?_⟩
    rw [put_same, List.take_add_one, hsi]
    have := smLs_snoc (ss.take i) s
    show some (DO.lst _) = some (DO.lst (List.map D.str (smLs (ss.take i ++ [s]))))
    rw [this, List.map_append]
  · rintro _ m1 ⟨kk, rfl, l1, hm1⟩
    rw [List.length_map, List.take_length] at hm1
    have hl : (smLs ss).length ≤ 1500000 := by
      rw [smLs_len hs]
      exact Nat.le_trans (rW_len _) hw
    lcg_off
    intro z hz
    have hzp : z ≠ p := fun e => by rw [e, hm1] at hz; cases hz
    refine ⟨fun i acc m' => acc = (((smLs ss).take i).map indT).map D.str ∧ m' = m1, ⟨rfl, rfl⟩, ?_, ?_, ?_⟩
    · rintro i acc m' hi ⟨rfl, rfl⟩
      exact hm1
    · rintro i x acc m2 hx ⟨rfl, rfl⟩
      obtain ⟨t, hti, rfl⟩ := get_map hx
      have htl := line_len hs hn (List.mem_of_getElem? hti)
      have e4 : (("    " : Str)).length = 4 := by decide +kernel
      have hs1 : (("    " : Str)).length + t.length ≤ sizeLine := by omega
      unfold CTurn
      lcg_off
      refine ⟨m2, Less.refl _, ?_, ?_, rfl⟩
      · simp only [List.length_map, List.length_take]
        omega
      · rw [List.take_add_one, hti]
        simp [indT]
    · rintro acc m2 ⟨rfl, rfl⟩
      rw [List.length_map, List.take_length]
      exact ⟨_, Less.refl _, q z _ (l1.free hz) (less_put l1 (l1.free hz)) put_same⟩

theorem rd_sl (n : Nat) : ∀ ds m P EX, sp_sl (n + 1) ds m P EX → Go P (b_statement_lines (sp_et 5) sp_place_text (sp_bl n)) (dstart ["statement", "word", "start"] ds) m := by
  rintro ds m P EX ⟨s, rfl, hs, hw, q⟩
  show b_statement_lines (sp_et 5) sp_place_text (sp_bl n) { nx := fun _ m' => Ret P .non m', rt := Ret P } [some s.D, none, none] m
  unfold b_statement_lines
  have hsz := PySem.sizeLine_eq
  have e0 : ((" " : Str)).length = 1 := by decide +kernel
  have e3 : ((";" : Str)).length = 1 := by decide +kernel
  have e4 : ((" = " : Str)).length = 3 := by decide +kernel
  have e5 : ((" {" : Str)).length = 2 := by decide +kernel
  cases hs with
  | let_ hz he =>
    rename_i z e
    have he1 := he.e
    have he2 := he.w
    have hl := Nat.le_trans he1.phk.len he2
    have hzl := hz.len
    have e1 : (("let " : Str)).length = 4 := by decide +kernel
    rw [Sm.D]
    rw [smL] at q
    top_strB
    rename_i p hp
    refine ⟨_, Less.refl _, q p _ hp (Less.new hp) ?_⟩
    rw [put_same, sempty_app]
    rfl
  | kw hx he =>
    rename_i w e
    have he1 := he.e
    have he2 := he.w
    have hl := Nat.le_trans he1.phk.len he2
    have o5 := (kwW_ok hx).2.2.1
    rw [Sm.D]
    rw [smL] at q
    have hs1 : w.length + ((" " : Str)).length ≤ sizeLine := by omega
    have hs2 : (w ++ (" " : Str)).length + (exT e).length ≤ sizeLine := by rw [slen_app]; omega
    have hs3 : (w ++ (" " : Str) ++ exT e).length + ((";" : Str)).length ≤ sizeLine := by rw [slen_app, slen_app]; omega
    simp only [kwW, List.mem_cons, List.not_mem_nil, or_false] at hx
    rcases hx with rfl | rfl | rfl
    all_goals top_strB
    all_goals
      rename_i p hp
      refine ⟨_, Less.refl _, q p _ hp (Less.new hp) ?_⟩
      rw [put_same]
      rfl
  | store hp0 he =>
    rename_i pl e
    have he1 := he.e
    have he2 := he.w
    have hl := Nat.le_trans he1.phk.len he2
    have hlp := Nat.le_trans hp0.phk.len hp0.wt
    rw [Sm.D]
    rw [smL] at q
    top_strB
    rename_i p hp
    refine ⟨_, Less.refl _, q p _ hp (Less.new hp) ?_⟩
    rw [put_same, sempty_app]
    rfl
  | if_ he ha hb la lb =>
    rename_i e a b
    have he1 := he.e
    have he2 := he.w
    have hl := Nat.le_trans he1.phk.len he2
    rw [Sm.D, Sm.Ds_map, Sm.Ds_map]
    rw [smL] at q
    rw [smR, rW_cons, rW_app, rW_in, rW_cons, rW_app, rW_in] at hw
    have e1 : (("if" : Str)).length = 2 := by decide +kernel
    have hs1 : (("if" : Str)).length + ((" " : Str)).length ≤ sizeLine := by omega
    have hs2 : (("if" : Str) ++ (" " : Str)).length + (exT e).length ≤ sizeLine := by rw [slen_app]; omega
    have hs3 : (("if" : Str) ++ (" " : Str) ++ exT e).length + ((" {" : Str)).length ≤ sizeLine := by rw [slen_app, slen_app]; omega
    have hla : (smLs a).length ≤ 1500000 := by rw [smLs_len ha]; exact Nat.le_trans (rW_len _) (by omega)
    have hlb : (smLs b).length ≤ 1500000 := by rw [smLs_len hb]; exact Nat.le_trans (rW_len _) (by omega)
    top_strB
    rename_i z1 hz1
    refine use_bl ha (by omega) fun p2 m2 hp2 l2 hm2 => ?_
    have f1 : m2 z1 = some (.lst [.str (("if" : Str) ++ (" " : Str) ++ exT e ++ (" {" : Str))]) := l2 _ _ put_same
    have hm2' : m2 p2 = some (.lst (((smLs a).map indT).map D.str)) := hm2
    lcg_off
    refine use_bl hb (by omega) fun p3 m3 hp3 l3 hm3 => ?_
    rename_i za _ _ zb _ _ _ _
    have f2 : m3 _ = some _ := l3 _ _ put_same
    have g2 : (smLs b).length ≤ 1500000 := hlb
    lcg_off
    rename_i zf _ _ hzf
    have L : Less m m3 := by
      intro x o h
      have h1 := l2 x o (Less.new hz1 x o h)
      refine l3 x o ?_
      simp only [put]
      grind
    refine ⟨_, Less.refl _, q zf _ (L.free hzf) ?_ ?_⟩
    · intro x o h
      have h1 := L x o h
      simp only [put]
      grind
    · rw [put_same]
      simp only [List.map_append, List.map_cons, List.map_nil, List.cons_append, List.nil_append, List.append_assoc]
  | while_ he ha la =>
    rename_i e a
    have he1 := he.e
    have he2 := he.w
    have hl := Nat.le_trans he1.phk.len he2
    rw [Sm.D, Sm.Ds_map]
    rw [smL] at q
    rw [smR, rW_cons, rW_app, rW_in] at hw
    have e1 : (("while" : Str)).length = 5 := by decide +kernel
    have hs1 : (("while" : Str)).length + ((" " : Str)).length ≤ sizeLine := by omega
    have hs2 : (("while" : Str) ++ (" " : Str)).length + (exT e).length ≤ sizeLine := by rw [slen_app]; omega
    have hs3 : (("while" : Str) ++ (" " : Str) ++ exT e).length + ((" {" : Str)).length ≤ sizeLine := by rw [slen_app, slen_app]; omega
    have hla : (smLs a).length ≤ 1500000 := by rw [smLs_len ha]; exact Nat.le_trans (rW_len _) (by omega)
    top_strB
    rename_i z1 hz1
    refine use_bl ha (by omega) fun p2 m2 hp2 l2 hm2 => ?_
    have f1 : m2 z1 = some (.lst [.str (("while" : Str) ++ (" " : Str) ++ exT e ++ (" {" : Str))]) := l2 _ _ put_same
    lcg_off
    rename_i zf _ _ hzf
    have L : Less m m2 := fun x o h => l2 x o (Less.new hz1 x o h)
    refine ⟨_, Less.refl _, q zf _ (L.free hzf) ?_ ?_⟩
    · intro x o h
      have h1 := L x o h
      simp only [put]
      grind
    · rw [put_same]
      simp only [List.map_append, List.map_cons, List.map_nil, List.cons_append, List.nil_append, List.append_assoc]

def sp_fields_text : DSp := fun ds m P _ => ∃ fs, ds = [fldsD fs] ∧ FOk fs ∧ P (.str (fldsT fs)) m
theorem use_ftext {fs : List (Str × Kd)} {m : M} {P : DK} (h : FOk fs) (q : P (.str (fldsT fs)) m) : sp_fields_text [fldsD fs] m P noX := ⟨fs, rfl, h, q⟩
local macro_rules | `(tactic| lcg_sub) => `(tactic| ((with_reducible refine' use_ftext ?h1 ?h2); (case h1 => assumption)))
theorem colon_len : ((": " : Str)).length = 2 := by decide +kernel
theorem fldT_len {p : Str × Kd} (h : NameOk p.1 ∧ WT 3 p.2) : (fldT p).length ≤ 7100 := by
  unfold fldT
  rw [slen_app, slen_app, colon_len]
  have := h.1.len
  have := h.2.tlen (by decide)
  omega
theorem flds_join {fs : List (Str × Kd)} (h : FOk fs) : ((fs.map fldT).map (·.length)).sum + (fs.map fldT).length * ((", " : Str)).length ≤ 43000 := by
  have a := sum_le (f := fun s : Str => s.length) (n := 7100) (xs := fs.map fldT) fun s hs => by
    obtain ⟨k, hk, rfl⟩ := List.mem_map.mp hs
    exact fldT_len (h.all k hk)
  rw [List.length_map] at a ⊢
  have b : fs.length * 7100 ≤ 6 * 7100 := Nat.mul_le_mul_right _ h.len
  rw [comma_len]
  have := h.len
  omega
theorem fldsT_len {fs : List (Str × Kd)} (h : FOk fs) : (fldsT fs).length ≤ 43000 := Nat.le_trans (slen_join_le _ _) (flds_join h)
theorem rd_ftext : ∀ ds m P EX, sp_fields_text ds m P EX → Go P (b_fields_text (sp_kind_text 9)) (dstart ["fields", "name", "kind"] ds) m := by
  rintro ds m P EX ⟨fs, rfl, hf, q⟩
  show b_fields_text (sp_kind_text 9) { nx := fun _ m' => Ret P .non m', rt := Ret P } [some (.tup (fs.map fldD)), none, none] m
  unfold b_fields_text
  lcg_off
  intro p hp
  refine ⟨fun i acc m' => acc = ((fs.take i).map fldT).map D.str ∧ m' = m, ⟨rfl, rfl⟩, ?_, ?_⟩
  · rintro i x acc m2 hx ⟨rfl, rfl⟩
    obtain ⟨k, hki, rfl⟩ := get_map hx
    have hk := hf.all k (List.mem_of_getElem? hki)
    have hW := hk.2
    have hN := hk.1.len
    have hsz := PySem.sizeLine_eq
    have hcl := colon_len
    have hs1 : k.1.length + ((": " : Str)).length ≤ sizeLine := by omega
    have hs2 : (k.1 ++ (": " : Str)).length + (kT k.2).length ≤ sizeLine := by
      rw [slen_app]
      have := hW.tlen (by decide)
      omega
    unfold CTurn fldD
    lcg_off
    refine ⟨m2, Less.refl _, ?_, ?_, rfl⟩
    · have := hf.len
      simp only [List.length_map, List.length_take]
      omega
    · rw [List.take_add_one, hki]
      simp [fldT]
  · rintro acc m2 ⟨rfl, rfl⟩
    rw [List.length_map, List.take_length]
    lcg_off
    refine r_joinL put_same (Nat.le_trans (flds_join hf) (by decide)) ?_
    lcg_off
    exact ⟨_, by one_item, q⟩
theorem r_truF {fs : List (Str × Kd)} {m : M} {R : Bool → M → Prop} (q : R (!(fs.map fldD).isEmpty) m) : truD (fldsD fs) m R := q
theorem ite_ne {α : Type} {xs : List α} {A B : Prop} (h : (!xs.isEmpty) = true) (q : A) : if (!xs.isEmpty) = true then A else B := by rw [if_pos h]; exact q
theorem ite_em {α : Type} {xs : List α} {A B : Prop} (h : (!xs.isEmpty) = false) (q : B) : if (!xs.isEmpty) = true then A else B := by rw [if_neg (by rw [h]; decide)]; exact q
local macro_rules | `(tactic| lcg_sub) => `(tactic| first | with_reducible refine r_truF ?_ | ((with_reducible refine' ite_ne ?h1 ?h2); (case h1 => assumption)) | ((with_reducible refine' ite_em ?h1 ?h2); (case h1 => assumption)) | fail)
def sp_record_line : DSp := fun ds m P _ => ∃ r, ds = [Rc.D r] ∧ Rc.Ok r ∧ P (.str r.line) m
theorem rd_rline : ∀ ds m P EX, sp_record_line ds m P EX → Go P (b_record_line sp_fields_text) (dstart ["record", "words", "name", "fields"] ds) m := by
  rintro ds m P EX ⟨r, rfl, ok, q⟩
  show b_record_line sp_fields_text { nx := fun _ m' => Ret P .non m', rt := Ret P } [some (.tup [.str r.z, fldsD r.fs]), none, none, none] m
  unfold b_record_line
  have hF := ok.fs
  have hne : (!(r.fs.map fldD).isEmpty) = true := by
    have := ok.ne
    cases h : r.fs with
    | nil => exact absurd h this
    | cons a b => rfl
  have hsz := PySem.sizeLine_eq
  top_strB
  have hj : (([("record" : Str), r.z, ("{" : Str), fldsT r.fs, ("}" : Str)] : List Str).map (·.length)).sum + ([("record" : Str), r.z, ("{" : Str), fldsT r.fs, ("}" : Str)] : List Str).length * ((" " : Str)).length ≤ 16777216 := by
    have a := fldsT_len hF
    have b := ok.z.len
    have e1 : (("record" : Str)).length = 6 := by decide +kernel
    have e2 : (("{" : Str)).length = 1 := by decide +kernel
    have e3 : (("}" : Str)).length = 1 := by decide +kernel
    have e4 : ((" " : Str)).length = 1 := by decide +kernel
    simp only [List.map_cons, List.map_nil, List.sum_cons, List.sum_nil, List.length_cons, List.length_nil, e1, e2, e3, e4]
    omega
  refine ⟨[("record" : Str), r.z, ("{" : Str), fldsT r.fs, ("}" : Str)], .inr put_same, hj, ?_⟩
  exact ⟨_, by one_item, q⟩
theorem srcs_join {ws : List Str} (h : ∀ w ∈ ws, NameOk w) (hl : ws.length ≤ 6) : (ws.map (·.length)).sum + ws.length * ((", " : Str)).length ≤ 200 := by
  have a := sum_le (f := fun s : Str => s.length) (n := 22) (xs := ws) fun s hs => (h s hs).len
  have b : ws.length * 22 ≤ 6 * 22 := Nat.mul_le_mul_right _ hl
  rw [comma_len]
  omega
def fnLines (fns : List Fn) : List Str := (fns.map Fn.lines).flatten
def sp_function_lines : DSp := fun ds m P _ => ∃ f, ds = [Fn.D f] ∧ Fn.Ok f ∧ ∀ p m', m p = none → Less m m' → m' p = some (.lst (f.lines.map D.str)) → P (.ref p) m'
theorem rd_flines : ∀ ds m P EX, sp_function_lines ds m P EX → Go P (b_function_lines (sp_kind_text 9) sp_fields_text sp_block_lines) (dstart ["function", "head", "name", "parameters", "result", "sources", "block"] ds) m := by
  rintro ds m P EX ⟨f, rfl, ok, q⟩
  show b_function_lines (sp_kind_text 9) sp_fields_text sp_block_lines { nx := fun _ m' => Ret P .non m', rt := Ret P } [some (.tup [.str f.z, fldsD f.fs, f.k.D, .tup (f.ws.map D.str), f.b.d]), none, none, none, none, none, none] m
  unfold b_function_lines
  have hF := ok.fs
  have hW := ok.k
  have hB := ok.b
  have hN := ok.z.len
  have hsz := PySem.sizeLine_eq
  have hT := fldsT_len hF
  have hK := hW.tlen (by decide)
  have e1 : (("fn " : Str)).length = 3 := by decide +kernel
  have e2 : (("(" : Str)).length = 1 := by decide +kernel
  have e3 : ((") -> " : Str)).length = 5 := by decide +kernel
  have e4 : ((" {" : Str)).length = 2 := by decide +kernel
  have e5 : ((" from " : Str)).length = 6 := by decide +kernel
  have hp0 : (Str.empty ++ ("fn " : Str) ++ f.z ++ ("(" : Str) ++ fldsT f.fs ++ (") -> " : Str) ++ kT f.k) = ("fn " : Str) ++ (f.z ++ (("(" : Str) ++ (fldsT f.fs ++ ((") -> " : Str) ++ kT f.k)))) := by
    have : Str.empty = ("" : Str) := snil.symm
    rw [this]
    simp only [sapp_assoc, snil_app]
  lcg_off
  rw [hp0]
  refine s_cut (fun sd m' => sd = [some (.tup [.str f.z, fldsD f.fs, f.k.D, .tup (f.ws.map D.str), f.b.d]), some (.str (("fn " : Str) ++ (f.z ++ (("(" : Str) ++ (fldsT f.fs ++ ((") -> " : Str) ++ (kT f.k ++ srcT f.ws))))))), some (.str f.z), some (fldsD f.fs), some f.k.D, some (.tup (f.ws.map D.str)), some f.b.d] ∧ m' = m) ?_ ?_
  · by_cases hws : f.ws = []
    · have hs0 : srcT f.ws = "" := by rw [srcT, if_pos hws]
      rw [hs0, sapp_nil]
      have he : (!(f.ws.map D.str).isEmpty) = false := by rw [hws]; rfl
      lcg_off
      exact ⟨m, Less.refl _, rfl, rfl⟩
    · have hs0 : srcT f.ws = (" from " : Str) ++ Str.join ", " f.ws := by rw [srcT, if_neg hws]
      rw [hs0]
      have he : (!(f.ws.map D.str).isEmpty) = true := by cases h : f.ws with | nil => exact absurd h hws | cons a b => rfl
      have hj := srcs_join ok.ws ok.wl
      have hjl := Nat.le_trans (slen_join_le _ _) hj
      have hl1 : ((" from " : Str)).length + (Str.join ", " f.ws).length ≤ sizeLine := by omega
      have hl2 : (("fn " : Str) ++ (f.z ++ (("(" : Str) ++ (fldsT f.fs ++ ((") -> " : Str) ++ kT f.k))))).length + ((" from " : Str) ++ Str.join ", " f.ws).length ≤ sizeLine := by
        simp only [slen_app]
        omega
      lcg_off
      refine r_joinT (Nat.le_trans hj (by decide)) ?_
      lcg_off
      refine ⟨m, Less.refl _, ?_, rfl⟩
      simp only [sapp_assoc]
  rintro _ m1 ⟨rfl, rfl⟩
  have hh := (Fn.rowOk ok).w
  have hh2 : f.headT.length ≤ 200000 := by
    rw [← Fn.line_eq ok]
    exact Nat.le_trans (lineL_len _) hh
  have hs3 : (("fn " : Str) ++ (f.z ++ (("(" : Str) ++ (fldsT f.fs ++ ((") -> " : Str) ++ (kT f.k ++ srcT f.ws)))))).length + ((" {" : Str)).length ≤ sizeLine := by
    unfold Fn.headT at hh2
    simp only [slen_app] at hh2 ⊢
    omega
  have hbl : f.b.lines.length ≤ 2000000 := by
    rw [hB.ln, List.length_map, List.length_map]
    exact hB.len
  lcg_off
  rename_i p0 hp0
  refine use_blines hB fun p2 m2 hp2 l2 hm2 => ?_
  have L : Less m1 m2 := fun x o h => l2 x o (Less.new hp0 x o h)
  have f1 := l2 _ _ put_same
  lcg_off
  rename_i y _ _ hy
  refine ⟨put m2 y (.lst (f.lines.map D.str)), ?_, q y _ (L.free hy) (less_put L (L.free hy)) put_same⟩
  have e6 : (("fn " : Str) ++ (f.z ++ (("(" : Str) ++ (fldsT f.fs ++ ((") -> " : Str) ++ (kT f.k ++ srcT f.ws)))))) ++ (" {" : Str) = f.headT := by
    unfold Fn.headT
    simp only [sapp_assoc]
  rw [e6]
  simp only [Fn.lines, List.map_append, List.map_cons, List.map_nil, List.cons_append, List.nil_append]
  one_item
theorem use_rline {r : Rc} {m : M} {P : DK} (h : r.Ok) (q : P (.str r.line) m) : sp_record_line [r.D] m P noX := ⟨r, rfl, h, q⟩
theorem use_flines {f : Fn} {m : M} {P : DK} (h : f.Ok) (q : ∀ p m', m p = none → Less m m' → m' p = some (.lst (f.lines.map D.str)) → P (.ref p) m') : sp_function_lines [f.D] m P noX := ⟨f, rfl, h, q⟩

/-! ### the whole text -/
theorem Rc.lineT_eq {r : Rc} (o : r.Ok) : lineT (0, r.row) = r.line := by
  have e : indS 0 = ("" : Str) := by decide +kernel
  unfold lineT
  rw [e, snil_app]
  exact Rc.line_eq o
theorem Fn.lines_eq {f : Fn} (o : f.Ok) : f.rows.map lineT = f.lines := by
  have e : indS 0 = ("" : Str) := by decide +kernel
  have e1 : lineT (0, f.head) = f.headT := by
    unfold lineT
    rw [e, snil_app]
    exact Fn.line_eq o
  have e2 : lineT (0, [("}" : Str)]) = ("}" : Str) := by decide +kernel
  unfold Fn.rows Fn.lines
  rw [List.map_cons, List.map_append, ← o.b.ln, e1, List.map_cons, e2, List.map_nil]
def progLines (rcs : List Rc) (fns : List Fn) : List Str := rcs.map Rc.line ++ fnLines fns
theorem progLines_eq {rcs : List Rc} {fns : List Fn} (hr : ∀ r ∈ rcs, Rc.Ok r) (hf : ∀ f ∈ fns, Fn.Ok f) : (recRows rcs ++ fnRows fns).map lineT = progLines rcs fns := by
  have h1 : (recRows rcs).map lineT = rcs.map Rc.line := by
    rw [recRows, List.map_map]
    exact List.map_congr_left fun r h => Rc.lineT_eq (hr r h)
  have h2 : (fns.map Fn.rows).map (List.map lineT) = fns.map Fn.lines := by
    rw [List.map_map]
    exact List.map_congr_left fun f h => Fn.lines_eq (hf f h)
  rw [progLines, List.map_append, h1, fnRows, List.map_flatten, h2, fnLines]
theorem Fn.lines_len (f : Fn) (o : f.Ok) : f.lines.length ≤ 2000002 := by
  have : f.b.lines.length = f.b.rows.length := by rw [o.b.ln, List.length_map, List.length_map]
  have := o.b.len
  unfold Fn.lines
  simp only [List.length_cons, List.length_append, List.length_nil]
  omega
theorem progLines_len {rcs : List Rc} {fns : List Fn} {n : Nat} (h1 : rcs.length ≤ n) (h2 : fns.length ≤ n) (hf : ∀ f ∈ fns, Fn.Ok f) : (progLines rcs fns).length ≤ n + n * 2000002 := by
  unfold progLines fnLines
  rw [List.length_append, List.length_map, List.length_flatten, List.map_map]
  have a := sum_le (f := List.length ∘ Fn.lines) (n := 2000002) (xs := fns) fun f h => Fn.lines_len f (hf f h)
  have b : fns.length * 2000002 ≤ n * 2000002 := Nat.mul_le_mul_right _ h2
  omega
theorem progLines_take {rcs : List Rc} {fns : List Fn} {i : Nat} {f : Fn} (h : fns[i]? = some f) : progLines rcs (fns.take (i + 1)) = progLines rcs (fns.take i) ++ f.lines := by
  unfold progLines fnLines
  rw [List.take_add_one, h, List.map_append, List.flatten_append]
  simp
theorem rowW_mem {r : Nat × List Str} {rs : List (Nat × List Str)} (h : r ∈ rs) : rowW r ≤ rowsW rs := by
  obtain ⟨a, b, rfl⟩ := List.append_of_mem h
  rw [rowsW_app, rowsW_cons]
  omega
def sp_write_program : DSp := fun ds m P _ => ∃ rcs fns, ds = [.tup [.tup (List.map Rc.D rcs), .tup (List.map Fn.D fns)]] ∧ rcs.length ≤ 3 ∧ fns.length ≤ 3 ∧ (∀ r ∈ rcs, Rc.Ok r) ∧ (∀ f ∈ fns, Fn.Ok f) ∧ P (.str (textOf (recRows rcs ++ fnRows fns))) m
theorem rd_wprog : ∀ ds m P EX, sp_write_program ds m P EX → Go P (b_write_program sp_record_line sp_function_lines) (dstart ["program", "lines", "function", "records", "functions", "record", "line"] ds) m := by
  rintro ds m P EX ⟨rcs, fns, rfl, hr3, hf3, hr, hf, q⟩
  show b_write_program _ _ { nx := fun _ m' => Ret P .non m', rt := Ret P } [some (.tup [.tup (List.map Rc.D rcs), .tup (List.map Fn.D fns)]), none, none, none, none, none, none] m
  unfold b_write_program
  have hW := progW hr3 hf3 hr hf
  have hO := progRowOk hr hf
  have hE := progLines_eq hr hf
  have hsz := PySem.sizeLine_eq
  lcg_off
  intro p hp
  refine ⟨fun i acc m' => acc = ((rcs.take i).map Rc.line).map D.str ∧ m' = m, ⟨rfl, rfl⟩, ?_, ?_⟩
  · rintro i x acc m2 hx ⟨rfl, rfl⟩
    obtain ⟨r, hri, rfl⟩ := get_map hx
    unfold CTurn
    lcg_off
    refine use_rline (hr r (List.mem_of_getElem? hri)) ?_
    lcg_off
    refine ⟨m2, Less.refl _, ?_, ?_, rfl⟩
    · simp only [List.length_map, List.length_take]
      omega
    · rw [List.take_add_one, hri]
      simp
  · rintro acc m2 ⟨rfl, rfl⟩
    rw [List.length_map, List.take_length]
    lcg_off
    refine s_seq ?_
    lcg_off
    refine ⟨fun i sd m' => ∃ kk, sd = [some (.tup [.tup (List.map Rc.D rcs), .tup (List.map Fn.D fns)]), some (.ref p), kk, some (.tup (List.map Rc.D rcs)), some (.tup (List.map Fn.D fns)), none, none] ∧ Less m2 m' ∧ m' p = some (.lst ((progLines rcs (fns.take i)).map D.str)),
      ⟨_, rfl, less_put (Less.refl _) hp, by rw [put_same, List.take_zero]; simp [progLines, fnLines]⟩, ?_, ?_⟩
    · rintro i x _ m3 hx ⟨kk, rfl, l3, hm3⟩
      obtain ⟨f, hfi, rfl⟩ := get_map hx
      have ok := hf f (List.mem_of_getElem? hfi)
      have hl1 := progLines_len (rcs := rcs) (fns := fns.take i) (n := 3) hr3 (by rw [List.length_take]; omega) fun f h => hf f (List.mem_of_mem_take h)
      have hl2 := f.lines_len ok
      lcg_off
      refine use_flines ok fun p2 m4 hp2 l4 hm4 => ?_
      have hm5 : m4 p = _ := l4 _ _ hm3
      have hpp : p2 ≠ p := fun e => by rw [e, hm3] at hp2; cases hp2
      lcg_off
      refine ⟨_, Less.refl _, _, rfl, less_put (l3.trans l4) hp, ?_⟩
      rw [put_same, progLines_take hfi, List.map_append]
    · rintro _ m3 ⟨kk, rfl, l3, hm3⟩
      rw [List.length_map, List.take_length] at hm3
      have hl := progLines_len hr3 hf3 hf
      lcg_off
      intro p4 hp4
      refine ⟨fun i acc m' => acc = ((progLines rcs fns).take i |>.map (· ++ ("\n" : Str))).map D.str ∧ m' = m3, ⟨rfl, rfl⟩, ?_, ?_, ?_⟩
      · rintro i acc m' hi ⟨rfl, rfl⟩
        exact hm3
      · rintro i x acc m4 hx ⟨rfl, rfl⟩
        obtain ⟨s, hsi, rfl⟩ := get_map hx
        have hs1 : s.length + (("\n" : Str)).length ≤ sizeLine := by
          rw [← hE] at hsi
          obtain ⟨r, hr1, rfl⟩ := List.mem_map.mp (List.mem_of_getElem? hsi)
          have := lineT_len r
          have := rowW_mem hr1
          rw [nl_len]
          omega
        unfold CTurn
        lcg_off
        refine ⟨m4, Less.refl _, ?_, ?_, rfl⟩
        · simp only [List.length_map, List.length_take]
          omega
        · rw [List.take_add_one, hsi]
          simp
      · rintro acc m4 ⟨rfl, rfl⟩
        rw [List.length_map, List.take_length]
        have e0 : (("" : Str)).length = 0 := by decide +kernel
        have ej : Str.join "" ((progLines rcs fns).map (· ++ ("\n" : Str))) = textOf (recRows rcs ++ fnRows fns) := by
          rw [← hE, List.map_map]
          rfl
        have hj : (((progLines rcs fns).map (· ++ ("\n" : Str))).map (·.length)).sum + ((progLines rcs fns).map (· ++ ("\n" : Str))).length * (("" : Str)).length ≤ 16777216 := by
          rw [e0, Nat.mul_zero, Nat.add_zero, ← slen_join0, ej]
          have := textOf_len (recRows rcs ++ fnRows fns)
          omega
        lcg_off
        refine r_joinL put_same hj ?_
        rw [ej]
        exact ⟨_, l3.trans (Less.new (by assumption)), q⟩

/-! ### the recursions -/
section
variable {P : Program} {w : World} {K : PySem.W.Frag} {mg : Str → Option Value}
theorem rec_et {x_MODES : Addr} (Fe : FunAt K mg "expression_text" s_expression_text ["expression"]) (Fo : FunAt K mg "outer_text" s_outer_text ["expression"]) (Fl : FunAt K mg "list_text" s_list_text ["expressions"]) (CK : Callee P w K mg 10 "kind_text" ["kind"] (sp_kind_text 9)) (CP : Callee P w K mg 10 "place_text" ["place"] sp_place_text) (g : mg "MODES" = some (.ref x_MODES)) (km : KMap K w x_MODES tab_MODES) (zs : mg "str" = none) :
    ∀ n : Nat, Callee P w K mg (3 * n + 10) "expression_text" ["expression"] (sp_et n)
  | 0 => Fe.none fun ds m P EX h => by obtain ⟨_, _, h, _⟩ := h; cases h
  | n + 1 => by
    have E := rec_et Fe Fo Fl CK CP g km zs n
    have L : Callee P w K mg (3 * n + 11) "list_text" ["expressions"] (sp_lt n) := ok_list_text Fl E (by rintro ds m P EX ⟨_, rfl, _⟩; rfl) (rd_lt n)
    have O : Callee P w K mg (3 * n + 12) "outer_text" ["expression"] (sp_ot n) := ok_outer_text Fo (E.mono (by omega)) (CP.mono (by omega)) L (by rintro ds m P EX ⟨_, rfl, _⟩; rfl) (rd_ot n)
    exact ok_expression_text Fe (CK.mono (by omega)) (CP.mono (by omega)) O g km zs (by rintro ds m P EX ⟨_, rfl, _⟩; rfl) (rd_et x_MODES n)
theorem rec_bl (Fs : FunAt K mg "statement_lines" s_statement_lines ["statement"]) (Fb : FunAt K mg "block_lines" s_block_lines ["block"]) (CE : Callee P w K mg 26 "expression_text" ["expression"] (sp_et 5)) (CP : Callee P w K mg 26 "place_text" ["place"] sp_place_text) (kI : ConstAt K mg "INDENT" c_INDENT) :
    ∀ n : Nat, n ≤ 100 → Callee P w K mg (2 * n + 27) "block_lines" ["block"] (sp_bl n)
  | 0, h => ok_block_lines (k := 26) Fb (Fs.none fun ds m P EX h => by obtain ⟨_, _, h, _⟩ := h; cases h) kI (by rintro ds m P EX ⟨_, rfl, _⟩; rfl) (rd_bl 0 h)
  | n + 1, h => by
    have B := rec_bl Fs Fb CE CP kI n (by omega)
    have S : Callee P w K mg (2 * n + 28) "statement_lines" ["statement"] (sp_sl (n + 1)) := ok_statement_lines Fs (CE.mono (by omega)) (CP.mono (by omega)) B (by rintro ds m P EX ⟨_, rfl, _⟩; rfl) (rd_sl n)
    exact ok_block_lines Fb S kI (by rintro ds m P EX ⟨_, rfl, _⟩; rfl) (rd_bl (n + 1) h)
theorem rec_row (Fr : FunAt K mg "_law_row" s_law_row ["tree"]) (Fp : FunAt K mg "_law_parts_row" s_law_parts_row ["parts"]) (CK : Callee P w K mg 10 "_law_kind_row" ["kind"] (sp_law_kind_row 9)) (CP : Callee P w K mg 10 "_law_place_row" ["place"] sp_law_place_row) (zs : mg "str" = none) (zi : mg "int" = none) (zl : mg "len" = none) (zr : mg "range" = none) :
    ∀ n : Nat, Callee P w K mg (2 * n + 10) "_law_row" ["tree"] (sp_law_row n)
  | 0 => Fr.none fun ds m P EX h => by obtain ⟨_, _, h, _⟩ := h; cases h
  | n + 1 => by
    have E := rec_row Fr Fp CK CP zs zi zl zr n
    have L : Callee P w K mg (2 * n + 11) "_law_parts_row" ["parts"] (sp_law_parts_row n) := ok_law_parts_row Fp E zl zr (by rintro ds m P EX ⟨_, rfl, _⟩; rfl) (rd_parow n)
    exact ok_law_row Fr (CK.mono (by omega)) (CP.mono (by omega)) (E.mono (by omega)) L zs zi (by rintro ds m P EX ⟨_, rfl, _⟩; rfl) (rd_row n)
theorem rec_lbr (F : FunAt K mg "_law_block_rows" s_law_block_rows ["block", "depth"]) (CR : Callee P w K mg 22 "_law_row" ["tree"] (sp_law_row 5)) (CP : Callee P w K mg 22 "_law_place_row" ["place"] sp_law_place_row) :
    ∀ n : Nat, Callee P w K mg (n + 23) "_law_block_rows" ["block", "depth"] (sp_lbr n)
  | 0 => ok_law_block_rows (k := 22) (d_law_block_rows := fun _ _ _ _ => False) F CR (F.none fun _ _ _ _ h => h) CP (by rintro ds m P EX ⟨_, _, rfl, _⟩; rfl) rd_lbr0
  | n + 1 => ok_law_block_rows F (CR.mono (by omega)) (rec_lbr F CR CP n) (CP.mono (by omega)) (by rintro ds m P EX ⟨_, _, rfl, _⟩; rfl) (rd_lbr n)
end

/-! ### k13: the law -/
theorem r_eqS' {a : Str} {m : M} {P : DK} (q : P (.bl true) m) : rEqD (.str a) (.str a) m P := by
  show P (.bl (decide (a = a))) m
  rw [decide_eq_true rfl]
  exact q
theorem rd_law13 : ∀ ds m P EX, sp_law ds m P EX → Go P (b_law (sp_law_expression 5) sp_law_pick sp_law_name sp_write_program sp_law_text) (dstart ["script", "state", "block", "k", "program", "actual"] ds) m := by
  rintro ds m P EX ⟨ns, rfl, hns, hm0, q⟩
  show b_law _ _ _ _ _ { nx := fun _ m' => Ret P .non m', rt := Ret P } [some (.rol (List.map D.int ns)), none, none, none, none, none] m
  unfold b_law
  have o0 : S4.Ok ⟨0, 0, 1, 14⟩ := ⟨by decide, by decide, by decide⟩
  lcg_off
  refine s_seq ?_
  lcg_off
  rename_i st hst pb hpb1 hpb2 n s1 n0 n1 o1 d1
  refine ⟨⟨by omega, by omega⟩, fun i sd m' => ∃ (es : List Ex) (kk : Option D) (s' : S4), sd = [some (.rol (List.map D.int ns)), some (.ref st), some (.ref pb), kk, none, none] ∧ m' = put (put m pb (.lst ((es.map fun e => Sm.kw "do" e).map Sm.D))) st s'.D ∧ s'.Ok ∧ s'.d ≤ 14 ∧ es.length = i ∧ ∀ e ∈ es, EOk e,
    ⟨[], _, s1, rfl, ?_, o1, by omega, rfl, (fun _ h => by cases h)⟩, ?_, ?_⟩
  · rw [put_comm (Ne.symm hpb1), put_put]
    rfl
  · rintro i _ _ hi ⟨es, kk, s2, rfl, rfl, o2, d2, hl, he⟩
    lcg_off
    rename_i e s3 h3 o3 d3 we
    refine ⟨_, Less.refl _, es ++ [e], _, s3, rfl, ?_, o3, by omega, by simp [hl], ?_⟩
    · rw [List.map_append, List.map_append]
      rfl
    · intro y hy
      rcases List.mem_append.mp hy with h | h
      · exact he y h
      · rw [List.mem_singleton] at h
        subst h
        unfold Wt at we
        have := mx_le d2
        have := mx_nn s3.d
        have e14 : mx 14 = 14 := rfl
        exact ⟨h3.mono (by decide), by omega⟩
  · rintro _ _ ⟨es, kk, s2, rfl, rfl, o2, d2, hl, he⟩
    lcg_off
    rename_i z s3 hz o3 d3
    have hy : ∀ y ∈ es.map (fun e => Sm.kw "do" e), WS 20 y := fun y h => by
      obtain ⟨e, hm, rfl⟩ := List.mem_map.mp h
      exact .kw (by decide +kernel) (he e hm)
    have hw : rW (smRs (es.map fun e => Sm.kw "do" e)) ≤ es.length * 151000 := by
      clear hl hy q
      induction es with
      | nil => exact Nat.le_refl _
      | cons e es ih =>
        have a := ih (fun x h => he x (List.mem_cons_of_mem _ h))
        have b := (he e List.mem_cons_self).w
        rw [List.map_cons, smRs, rW_app, smR, rW_cons, rW_nil, List.length_cons]
        have e1 : wt (("do" : Str) :: (exR e ++ [(";" : Str)])) = wt (exR e) + 5 := by
          have a1 : (("do" : Str)).length = 2 := by decide +kernel
          have a2 : wt [(";" : Str)] = 2 := by decide +kernel
          rw [wt_cons, wt_app, a1, a2]; omega
        dsimp only
        rw [e1]
        omega
    have hw2 : es.length * 151000 ≤ 4 * 151000 := Nat.mul_le_mul_right _ (by omega)
    have hFn : Fn.Ok ⟨z, [], .unit, [], mkBk (es.map fun e => Sm.kw "do" e)⟩ := ⟨hz, ⟨Nat.zero_le _, (fun _ h => by cases h)⟩, .unit _, Nat.zero_le _, (fun _ h => by cases h), ⟨_, rfl, hy, by omega⟩⟩
    have hfn : ∀ f ∈ [(⟨z, [], .unit, [], mkBk (es.map fun e => Sm.kw "do" e)⟩ : Fn)], Fn.Ok f := fun f h => by
      rw [List.mem_singleton] at h
      subst h
      exact hFn
    refine ⟨[], [⟨z, [], .unit, [], mkBk (es.map fun e => Sm.kw "do" e)⟩], rfl, Nat.zero_le _, (show 1 ≤ 3 by decide), (fun _ h => by cases h), hfn, ?_⟩
    lcg_off
    refine ⟨[], [⟨z, [], .unit, [], mkBk (es.map fun e => Sm.kw "do" e)⟩], rfl, Nat.zero_le _, (show 1 ≤ 3 by decide), (fun _ h => by cases h), hfn, ?_⟩
    refine r_eqS' ?_
    exact ⟨_, Less.refl _, q _⟩

theorem main {P : Program} {w : World} {K : PySem.W.Frag} {mg : Str → Option Value} {x_MODES : Addr} (F_write_program : FunAt K mg "write_program" s_write_program ["program"]) (F_record_line : FunAt K mg "record_line" s_record_line ["record"]) (F_function_lines : FunAt K mg "function_lines" s_function_lines ["function"]) (F_fields_text : FunAt K mg "fields_text" s_fields_text ["fields"]) (F_kind_text : FunAt K mg "kind_text" s_kind_text ["kind"]) (F_block_lines : FunAt K mg "block_lines" s_block_lines ["block"]) (F_statement_lines : FunAt K mg "statement_lines" s_statement_lines ["statement"]) (F_place_text : FunAt K mg "place_text" s_place_text ["place"]) (F_step_text : FunAt K mg "step_text" s_step_text ["step"]) (F_expression_text : FunAt K mg "expression_text" s_expression_text ["expression"]) (F_outer_text : FunAt K mg "outer_text" s_outer_text ["expression"]) (F_list_text : FunAt K mg "list_text" s_list_text ["expressions"]) (F_law_pick : FunAt K mg "_law_pick" s_law_pick ["state", "script", "many"]) (F_law_words : FunAt K mg "_law_words" s_law_words []) (F_law_name : FunAt K mg "_law_name" s_law_name ["state", "script"]) (F_law_big : FunAt K mg "_law_big" s_law_big ["state", "script"]) (F_law_tree_kind : FunAt K mg "_law_tree_kind" s_law_tree_kind ["state", "script", "room"]) (F_law_number : FunAt K mg "_law_number" s_law_number ["state", "script"]) (F_law_place : FunAt K mg "_law_place" s_law_place ["state", "script"]) (F_law_expression : FunAt K mg "_law_expression" s_law_expression ["state", "script", "room"]) (F_law_kind_row : FunAt K mg "_law_kind_row" s_law_kind_row ["kind"]) (F_law_place_row : FunAt K mg "_law_place_row" s_law_place_row ["place"]) (F_law_parts_row : FunAt K mg "_law_parts_row" s_law_parts_row ["parts"]) (F_law_row : FunAt K mg "_law_row" s_law_row ["tree"]) (F_law_block_rows : FunAt K mg "_law_block_rows" s_law_block_rows ["block", "depth"]) (F_law_field_row : FunAt K mg "_law_field_row" s_law_field_row ["fields"]) (F_law_program_rows : FunAt K mg "_law_program_rows" s_law_program_rows ["program"]) (F_law_is_named : FunAt K mg "_law_is_named" s_law_is_named ["token"]) (F_law_line : FunAt K mg "_law_line" s_law_line ["row"]) (F_law_text : FunAt K mg "_law_text" s_law_text ["program"]) (F_law : FunAt K mg "law" s_law ["script"]) (k_INDENT : ConstAt K mg "INDENT" c_INDENT) (z_abs : mg "abs" = none) (z_int : mg "int" = none) (z_isinstance : mg "isinstance" = none) (z_len : mg "len" = none) (z_min : mg "min" = none) (z_range : mg "range" = none) (z_str : mg "str" = none) (z_tuple : mg "tuple" = none) (g_MODES : mg "MODES" = some (.ref x_MODES)) (km_MODES : KMap K w x_MODES tab_MODES) : Callee P w K mg 70 "law" ["script"] sp_law := by
  have C_law_pick : Callee P w K mg 1 "_law_pick" ["state", "script", "many"] (sp_law_pick) := ok_law_pick (k := 0) F_law_pick z_int z_len z_abs (by intro _ _ _ _ h; (try unfold sp_law_pick at h); repeat (first | (obtain ⟨rfl, _⟩ := h; rfl) | obtain ⟨_, h⟩ := h)) rd_pick
  have C_law_number : Callee P w K mg 2 "_law_number" ["state", "script"] (sp_law_number) := ok_law_number (k := 1) F_law_number (C_law_pick.mono (by decide)) (by intro _ _ _ _ h; (try unfold sp_law_number at h); repeat (first | (obtain ⟨rfl, _⟩ := h; rfl) | obtain ⟨_, h⟩ := h)) rd_number
  have C_law_big : Callee P w K mg 2 "_law_big" ["state", "script"] (sp_law_big) := ok_law_big (k := 1) F_law_big (C_law_pick.mono (by decide)) z_range (by intro _ _ _ _ h; (try unfold sp_law_big at h); repeat (first | (obtain ⟨rfl, _⟩ := h; rfl) | obtain ⟨_, h⟩ := h)) rd_big
  have C_law_tree_kind := rec_tkind F_law_tree_kind C_law_pick C_law_big z_min z_range z_int z_tuple 9
  have C_law_words : Callee P w K mg 1 "_law_words" [] (sp_law_words) := ok_law_words (k := 0) F_law_words (by intro _ _ _ _ h; (try unfold sp_law_words at h); repeat (first | (obtain ⟨rfl, _⟩ := h; rfl) | obtain ⟨_, h⟩ := h)) rd_words
  have C_law_name : Callee P w K mg 2 "_law_name" ["state", "script"] (sp_law_name) := ok_law_name (k := 1) F_law_name (C_law_pick.mono (by decide)) (C_law_words.mono (by decide)) z_range (by intro _ _ _ _ h; (try unfold sp_law_name at h); repeat (first | (obtain ⟨rfl, _⟩ := h; rfl) | obtain ⟨_, h⟩ := h)) rd_name
  have C_law_place : Callee P w K mg 3 "_law_place" ["state", "script"] (sp_law_place) := ok_law_place (k := 2) F_law_place (C_law_pick.mono (by decide)) (C_law_name.mono (by decide)) z_range z_tuple (by intro _ _ _ _ h; (try unfold sp_law_place at h); repeat (first | (obtain ⟨rfl, _⟩ := h; rfl) | obtain ⟨_, h⟩ := h)) rd_place
  have C_law_expression := rec_expr F_law_expression (C_law_pick.mono (by decide)) (C_law_number.mono (by decide)) (C_law_tree_kind.mono (by decide)) (C_law_place.mono (by decide)) (C_law_big.mono (by decide)) (C_law_name.mono (by decide)) z_int z_range z_tuple 5
  have C_kind_text := rec_ktext (P := P) (w := w) F_kind_text g_MODES km_MODES 9
  have C_fields_text : Callee P w K mg 10 "fields_text" ["fields"] (sp_fields_text) := ok_fields_text (k := 9) F_fields_text (C_kind_text.mono (by decide)) (by intro _ _ _ _ h; (try unfold sp_fields_text at h); repeat (first | (obtain ⟨rfl, _⟩ := h; rfl) | obtain ⟨_, h⟩ := h)) rd_ftext
  have C_record_line : Callee P w K mg 11 "record_line" ["record"] (sp_record_line) := ok_record_line (k := 10) F_record_line (C_fields_text.mono (by decide)) (by intro _ _ _ _ h; (try unfold sp_record_line at h); repeat (first | (obtain ⟨rfl, _⟩ := h; rfl) | obtain ⟨_, h⟩ := h)) rd_rline
  have C_step_text : Callee P w K mg 1 "step_text" ["step"] (sp_step_text) := ok_step_text (k := 0) F_step_text (by intro _ _ _ _ h; (try unfold sp_step_text at h); repeat (first | (obtain ⟨rfl, _⟩ := h; rfl) | obtain ⟨_, h⟩ := h)) rd_stext
  have C_place_text : Callee P w K mg 2 "place_text" ["place"] (sp_place_text) := ok_place_text (k := 1) F_place_text (C_step_text.mono (by decide)) (by intro _ _ _ _ h; (try unfold sp_place_text at h); repeat (first | (obtain ⟨rfl, _⟩ := h; rfl) | obtain ⟨_, h⟩ := h)) rd_ptext
  have C_expression_text := rec_et F_expression_text F_outer_text F_list_text (C_kind_text.mono (by decide)) (C_place_text.mono (by decide)) g_MODES km_MODES z_str 5
  have C_block_lines := rec_bl F_statement_lines F_block_lines (C_expression_text.mono (by decide)) (C_place_text.mono (by decide)) k_INDENT 20 (by decide)
  have C_function_lines : Callee P w K mg 68 "function_lines" ["function"] (sp_function_lines) := ok_function_lines (k := 67) F_function_lines (C_kind_text.mono (by decide)) (C_fields_text.mono (by decide)) (C_block_lines.mono (by decide)) (by intro _ _ _ _ h; (try unfold sp_function_lines at h); repeat (first | (obtain ⟨rfl, _⟩ := h; rfl) | obtain ⟨_, h⟩ := h)) rd_flines
  have C_write_program : Callee P w K mg 69 "write_program" ["program"] (sp_write_program) := ok_write_program (k := 68) F_write_program (C_record_line.mono (by decide)) (C_function_lines.mono (by decide)) (by intro _ _ _ _ h; (try unfold sp_write_program at h); repeat (first | (obtain ⟨rfl, _⟩ := h; rfl) | obtain ⟨_, h⟩ := h)) rd_wprog
  have C_law_is_named : Callee P w K mg 2 "_law_is_named" ["token"] (sp_law_is_named) := ok_law_is_named (k := 1) F_law_is_named (C_law_words.mono (by decide)) (by intro _ _ _ _ h; (try unfold sp_law_is_named at h); repeat (first | (obtain ⟨rfl, _⟩ := h; rfl) | obtain ⟨_, h⟩ := h)) rd_named
  have C_law_line : Callee P w K mg 3 "_law_line" ["row"] (sp_law_line) := ok_law_line (k := 2) F_law_line (C_law_is_named.mono (by decide)) z_len z_range (by intro _ _ _ _ h; (try unfold sp_law_line at h); repeat (first | (obtain ⟨rfl, _⟩ := h; rfl) | obtain ⟨_, h⟩ := h)) rd_line
  have C_law_kind_row := rec_krow (P := P) (w := w) F_law_kind_row z_len z_range 9
  have C_law_field_row : Callee P w K mg 10 "_law_field_row" ["fields"] (sp_law_field_row) := ok_law_field_row (k := 9) F_law_field_row (C_law_kind_row.mono (by decide)) z_len z_range (by intro _ _ _ _ h; (try unfold sp_law_field_row at h); repeat (first | (obtain ⟨rfl, _⟩ := h; rfl) | obtain ⟨_, h⟩ := h)) rd_frow
  have C_law_place_row : Callee P w K mg 1 "_law_place_row" ["place"] (sp_law_place_row) := ok_law_place_row (k := 0) F_law_place_row z_str (by intro _ _ _ _ h; (try unfold sp_law_place_row at h); repeat (first | (obtain ⟨rfl, _⟩ := h; rfl) | obtain ⟨_, h⟩ := h)) rd_prow
  have C_law_row := rec_row F_law_row F_law_parts_row (C_law_kind_row.mono (by decide)) (C_law_place_row.mono (by decide)) z_str z_int z_len z_range 5
  have C_law_block_rows := rec_lbr F_law_block_rows (C_law_row.mono (by decide)) (C_law_place_row.mono (by decide)) 20
  have C_law_program_rows : Callee P w K mg 44 "_law_program_rows" ["program"] (sp_law_program_rows) := ok_law_program_rows (k := 43) F_law_program_rows (C_law_field_row.mono (by decide)) (C_law_kind_row.mono (by decide)) (C_law_block_rows.mono (by decide)) z_int z_len z_range (by intro _ _ _ _ h; (try unfold sp_law_program_rows at h); repeat (first | (obtain ⟨rfl, _⟩ := h; rfl) | obtain ⟨_, h⟩ := h)) rd_prows
  have C_law_text : Callee P w K mg 45 "_law_text" ["program"] (sp_law_text) := ok_law_text (k := 44) F_law_text (C_law_line.mono (by decide)) (C_law_program_rows.mono (by decide)) (by intro _ _ _ _ h; (try unfold sp_law_text at h); repeat (first | (obtain ⟨rfl, _⟩ := h; rfl) | obtain ⟨_, h⟩ := h)) rd_text
  have C_law : Callee P w K mg 70 "law" ["script"] (sp_law) := ok_law (k := 69) F_law (C_law_expression.mono (by decide)) (C_law_pick.mono (by decide)) (C_law_name.mono (by decide)) (C_write_program.mono (by decide)) (C_law_text.mono (by decide)) z_range z_tuple z_str z_isinstance (by intro _ _ _ _ h; (try unfold sp_law at h); repeat (first | (obtain ⟨rfl, _⟩ := h; rfl) | obtain ⟨_, h⟩ := h)) rd_law13
  exact C_law
theorem all_mk {P : Program} {w : World} {K : PySem.W.Frag} {h : Heap} {mg : Str → Option Value} {fa : Addr} (X : K.In h) (G : h.Ns mainGlobals mg) (hfa : mg "law" = some (.ref fa)) {x_MODES : Addr} {f0 : Addr} {od0 an0 : Option Addr} {sl0 : Array (Option Value)} {oc0 kV0 dc0 pm0 cd0 ct0 : Value} {f1 : Addr} {od1 an1 : Option Addr} {sl1 : Array (Option Value)} {oc1 kV1 dc1 pm1 cd1 ct1 : Value} {f2 : Addr} {od2 an2 : Option Addr} {sl2 : Array (Option Value)} {oc2 kV2 dc2 pm2 cd2 ct2 : Value} {f3 : Addr} {od3 an3 : Option Addr} {sl3 : Array (Option Value)} {oc3 kV3 dc3 pm3 cd3 ct3 : Value} {f4 : Addr} {od4 an4 : Option Addr} {sl4 : Array (Option Value)} {oc4 kV4 dc4 pm4 cd4 ct4 : Value} {f5 : Addr} {od5 an5 : Option Addr} {sl5 : Array (Option Value)} {oc5 kV5 dc5 pm5 cd5 ct5 : Value} {f6 : Addr} {od6 an6 : Option Addr} {sl6 : Array (Option Value)} {oc6 kV6 dc6 pm6 cd6 ct6 : Value} {f7 : Addr} {od7 an7 : Option Addr} {sl7 : Array (Option Value)} {oc7 kV7 dc7 pm7 cd7 ct7 : Value} {f8 : Addr} {od8 an8 : Option Addr} {sl8 : Array (Option Value)} {oc8 kV8 dc8 pm8 cd8 ct8 : Value} {f9 : Addr} {od9 an9 : Option Addr} {sl9 : Array (Option Value)} {oc9 kV9 dc9 pm9 cd9 ct9 : Value} {f10 : Addr} {od10 an10 : Option Addr} {sl10 : Array (Option Value)} {oc10 kV10 dc10 pm10 cd10 ct10 : Value} {f11 : Addr} {od11 an11 : Option Addr} {sl11 : Array (Option Value)} {oc11 kV11 dc11 pm11 cd11 ct11 : Value} {f12 : Addr} {od12 an12 : Option Addr} {sl12 : Array (Option Value)} {oc12 kV12 dc12 pm12 cd12 ct12 : Value} {f13 : Addr} {od13 an13 : Option Addr} {sl13 : Array (Option Value)} {oc13 kV13 dc13 pm13 cd13 ct13 : Value} {f14 : Addr} {od14 an14 : Option Addr} {sl14 : Array (Option Value)} {oc14 kV14 dc14 pm14 cd14 ct14 : Value} {f15 : Addr} {od15 an15 : Option Addr} {sl15 : Array (Option Value)} {oc15 kV15 dc15 pm15 cd15 ct15 : Value} {f16 : Addr} {od16 an16 : Option Addr} {sl16 : Array (Option Value)} {oc16 kV16 dc16 pm16 cd16 ct16 : Value} {f17 : Addr} {od17 an17 : Option Addr} {sl17 : Array (Option Value)} {oc17 kV17 dc17 pm17 cd17 ct17 : Value} {f18 : Addr} {od18 an18 : Option Addr} {sl18 : Array (Option Value)} {oc18 kV18 dc18 pm18 cd18 ct18 : Value} {f19 : Addr} {od19 an19 : Option Addr} {sl19 : Array (Option Value)} {oc19 kV19 dc19 pm19 cd19 ct19 : Value} {f20 : Addr} {od20 an20 : Option Addr} {sl20 : Array (Option Value)} {oc20 kV20 dc20 pm20 cd20 ct20 : Value} {f21 : Addr} {od21 an21 : Option Addr} {sl21 : Array (Option Value)} {oc21 kV21 dc21 pm21 cd21 ct21 : Value} {f22 : Addr} {od22 an22 : Option Addr} {sl22 : Array (Option Value)} {oc22 kV22 dc22 pm22 cd22 ct22 : Value} {f23 : Addr} {od23 an23 : Option Addr} {sl23 : Array (Option Value)} {oc23 kV23 dc23 pm23 cd23 ct23 : Value} {f24 : Addr} {od24 an24 : Option Addr} {sl24 : Array (Option Value)} {oc24 kV24 dc24 pm24 cd24 ct24 : Value} {f25 : Addr} {od25 an25 : Option Addr} {sl25 : Array (Option Value)} {oc25 kV25 dc25 pm25 cd25 ct25 : Value} {f26 : Addr} {od26 an26 : Option Addr} {sl26 : Array (Option Value)} {oc26 kV26 dc26 pm26 cd26 ct26 : Value} {f27 : Addr} {od27 an27 : Option Addr} {sl27 : Array (Option Value)} {oc27 kV27 dc27 pm27 cd27 ct27 : Value} {f28 : Addr} {od28 an28 : Option Addr} {sl28 : Array (Option Value)} {oc28 kV28 dc28 pm28 cd28 ct28 : Value} {f29 : Addr} {od29 an29 : Option Addr} {sl29 : Array (Option Value)} {oc29 kV29 dc29 pm29 cd29 ct29 : Value} {f30 : Addr} {od30 an30 : Option Addr} {sl30 : Array (Option Value)} {oc30 kV30 dc30 pm30 cd30 ct30 : Value} {tc0 : Tok} {es_MODES : Array DictEntry} {nn_MODES : Nat} {tv0_MODES : Tok} {tv1_MODES : Tok}
    (a0 : PySem.W.nsIn K mainGlobals "write_program" = some (some (.ref f0)))
    (l0 : K.lookup f0 = some ⟨oc0, od0, .func (PySem.W.fnOf "write_program" "write_program" (defArgs s_write_program) (defBody s_write_program) (defScope s_write_program) .none kV0 dc0 pm0 an0 cd0 ct0), sl0⟩)
    (c0 : PySem.W.codeIn K cd0 "write_program" = true) (k0 : PySem.W.keepIn K (.ref f0) = true)
    (a1 : PySem.W.nsIn K mainGlobals "record_line" = some (some (.ref f1)))
    (l1 : K.lookup f1 = some ⟨oc1, od1, .func (PySem.W.fnOf "record_line" "record_line" (defArgs s_record_line) (defBody s_record_line) (defScope s_record_line) .none kV1 dc1 pm1 an1 cd1 ct1), sl1⟩)
    (c1 : PySem.W.codeIn K cd1 "record_line" = true) (k1 : PySem.W.keepIn K (.ref f1) = true)
    (a2 : PySem.W.nsIn K mainGlobals "function_lines" = some (some (.ref f2)))
    (l2 : K.lookup f2 = some ⟨oc2, od2, .func (PySem.W.fnOf "function_lines" "function_lines" (defArgs s_function_lines) (defBody s_function_lines) (defScope s_function_lines) .none kV2 dc2 pm2 an2 cd2 ct2), sl2⟩)
    (c2 : PySem.W.codeIn K cd2 "function_lines" = true) (k2 : PySem.W.keepIn K (.ref f2) = true)
    (a3 : PySem.W.nsIn K mainGlobals "fields_text" = some (some (.ref f3)))
    (l3 : K.lookup f3 = some ⟨oc3, od3, .func (PySem.W.fnOf "fields_text" "fields_text" (defArgs s_fields_text) (defBody s_fields_text) (defScope s_fields_text) .none kV3 dc3 pm3 an3 cd3 ct3), sl3⟩)
    (c3 : PySem.W.codeIn K cd3 "fields_text" = true) (k3 : PySem.W.keepIn K (.ref f3) = true)
    (a4 : PySem.W.nsIn K mainGlobals "kind_text" = some (some (.ref f4)))
    (l4 : K.lookup f4 = some ⟨oc4, od4, .func (PySem.W.fnOf "kind_text" "kind_text" (defArgs s_kind_text) (defBody s_kind_text) (defScope s_kind_text) .none kV4 dc4 pm4 an4 cd4 ct4), sl4⟩)
    (c4 : PySem.W.codeIn K cd4 "kind_text" = true) (k4 : PySem.W.keepIn K (.ref f4) = true)
    (a5 : PySem.W.nsIn K mainGlobals "block_lines" = some (some (.ref f5)))
    (l5 : K.lookup f5 = some ⟨oc5, od5, .func (PySem.W.fnOf "block_lines" "block_lines" (defArgs s_block_lines) (defBody s_block_lines) (defScope s_block_lines) .none kV5 dc5 pm5 an5 cd5 ct5), sl5⟩)
    (c5 : PySem.W.codeIn K cd5 "block_lines" = true) (k5 : PySem.W.keepIn K (.ref f5) = true)
    (a6 : PySem.W.nsIn K mainGlobals "statement_lines" = some (some (.ref f6)))
    (l6 : K.lookup f6 = some ⟨oc6, od6, .func (PySem.W.fnOf "statement_lines" "statement_lines" (defArgs s_statement_lines) (defBody s_statement_lines) (defScope s_statement_lines) .none kV6 dc6 pm6 an6 cd6 ct6), sl6⟩)
    (c6 : PySem.W.codeIn K cd6 "statement_lines" = true) (k6 : PySem.W.keepIn K (.ref f6) = true)
    (a7 : PySem.W.nsIn K mainGlobals "place_text" = some (some (.ref f7)))
    (l7 : K.lookup f7 = some ⟨oc7, od7, .func (PySem.W.fnOf "place_text" "place_text" (defArgs s_place_text) (defBody s_place_text) (defScope s_place_text) .none kV7 dc7 pm7 an7 cd7 ct7), sl7⟩)
    (c7 : PySem.W.codeIn K cd7 "place_text" = true) (k7 : PySem.W.keepIn K (.ref f7) = true)
    (a8 : PySem.W.nsIn K mainGlobals "step_text" = some (some (.ref f8)))
    (l8 : K.lookup f8 = some ⟨oc8, od8, .func (PySem.W.fnOf "step_text" "step_text" (defArgs s_step_text) (defBody s_step_text) (defScope s_step_text) .none kV8 dc8 pm8 an8 cd8 ct8), sl8⟩)
    (c8 : PySem.W.codeIn K cd8 "step_text" = true) (k8 : PySem.W.keepIn K (.ref f8) = true)
    (a9 : PySem.W.nsIn K mainGlobals "expression_text" = some (some (.ref f9)))
    (l9 : K.lookup f9 = some ⟨oc9, od9, .func (PySem.W.fnOf "expression_text" "expression_text" (defArgs s_expression_text) (defBody s_expression_text) (defScope s_expression_text) .none kV9 dc9 pm9 an9 cd9 ct9), sl9⟩)
    (c9 : PySem.W.codeIn K cd9 "expression_text" = true) (k9 : PySem.W.keepIn K (.ref f9) = true)
    (a10 : PySem.W.nsIn K mainGlobals "outer_text" = some (some (.ref f10)))
    (l10 : K.lookup f10 = some ⟨oc10, od10, .func (PySem.W.fnOf "outer_text" "outer_text" (defArgs s_outer_text) (defBody s_outer_text) (defScope s_outer_text) .none kV10 dc10 pm10 an10 cd10 ct10), sl10⟩)
    (c10 : PySem.W.codeIn K cd10 "outer_text" = true) (k10 : PySem.W.keepIn K (.ref f10) = true)
    (a11 : PySem.W.nsIn K mainGlobals "list_text" = some (some (.ref f11)))
    (l11 : K.lookup f11 = some ⟨oc11, od11, .func (PySem.W.fnOf "list_text" "list_text" (defArgs s_list_text) (defBody s_list_text) (defScope s_list_text) .none kV11 dc11 pm11 an11 cd11 ct11), sl11⟩)
    (c11 : PySem.W.codeIn K cd11 "list_text" = true) (k11 : PySem.W.keepIn K (.ref f11) = true)
    (a12 : PySem.W.nsIn K mainGlobals "_law_pick" = some (some (.ref f12)))
    (l12 : K.lookup f12 = some ⟨oc12, od12, .func (PySem.W.fnOf "_law_pick" "_law_pick" (defArgs s_law_pick) (defBody s_law_pick) (defScope s_law_pick) .none kV12 dc12 pm12 an12 cd12 ct12), sl12⟩)
    (c12 : PySem.W.codeIn K cd12 "_law_pick" = true) (k12 : PySem.W.keepIn K (.ref f12) = true)
    (a13 : PySem.W.nsIn K mainGlobals "_law_words" = some (some (.ref f13)))
    (l13 : K.lookup f13 = some ⟨oc13, od13, .func (PySem.W.fnOf "_law_words" "_law_words" (defArgs s_law_words) (defBody s_law_words) (defScope s_law_words) .none kV13 dc13 pm13 an13 cd13 ct13), sl13⟩)
    (c13 : PySem.W.codeIn K cd13 "_law_words" = true) (k13 : PySem.W.keepIn K (.ref f13) = true)
    (a14 : PySem.W.nsIn K mainGlobals "_law_name" = some (some (.ref f14)))
    (l14 : K.lookup f14 = some ⟨oc14, od14, .func (PySem.W.fnOf "_law_name" "_law_name" (defArgs s_law_name) (defBody s_law_name) (defScope s_law_name) .none kV14 dc14 pm14 an14 cd14 ct14), sl14⟩)
    (c14 : PySem.W.codeIn K cd14 "_law_name" = true) (k14 : PySem.W.keepIn K (.ref f14) = true)
    (a15 : PySem.W.nsIn K mainGlobals "_law_big" = some (some (.ref f15)))
    (l15 : K.lookup f15 = some ⟨oc15, od15, .func (PySem.W.fnOf "_law_big" "_law_big" (defArgs s_law_big) (defBody s_law_big) (defScope s_law_big) .none kV15 dc15 pm15 an15 cd15 ct15), sl15⟩)
    (c15 : PySem.W.codeIn K cd15 "_law_big" = true) (k15 : PySem.W.keepIn K (.ref f15) = true)
    (a16 : PySem.W.nsIn K mainGlobals "_law_tree_kind" = some (some (.ref f16)))
    (l16 : K.lookup f16 = some ⟨oc16, od16, .func (PySem.W.fnOf "_law_tree_kind" "_law_tree_kind" (defArgs s_law_tree_kind) (defBody s_law_tree_kind) (defScope s_law_tree_kind) .none kV16 dc16 pm16 an16 cd16 ct16), sl16⟩)
    (c16 : PySem.W.codeIn K cd16 "_law_tree_kind" = true) (k16 : PySem.W.keepIn K (.ref f16) = true)
    (a17 : PySem.W.nsIn K mainGlobals "_law_number" = some (some (.ref f17)))
    (l17 : K.lookup f17 = some ⟨oc17, od17, .func (PySem.W.fnOf "_law_number" "_law_number" (defArgs s_law_number) (defBody s_law_number) (defScope s_law_number) .none kV17 dc17 pm17 an17 cd17 ct17), sl17⟩)
    (c17 : PySem.W.codeIn K cd17 "_law_number" = true) (k17 : PySem.W.keepIn K (.ref f17) = true)
    (a18 : PySem.W.nsIn K mainGlobals "_law_place" = some (some (.ref f18)))
    (l18 : K.lookup f18 = some ⟨oc18, od18, .func (PySem.W.fnOf "_law_place" "_law_place" (defArgs s_law_place) (defBody s_law_place) (defScope s_law_place) .none kV18 dc18 pm18 an18 cd18 ct18), sl18⟩)
    (c18 : PySem.W.codeIn K cd18 "_law_place" = true) (k18 : PySem.W.keepIn K (.ref f18) = true)
    (a19 : PySem.W.nsIn K mainGlobals "_law_expression" = some (some (.ref f19)))
    (l19 : K.lookup f19 = some ⟨oc19, od19, .func (PySem.W.fnOf "_law_expression" "_law_expression" (defArgs s_law_expression) (defBody s_law_expression) (defScope s_law_expression) .none kV19 dc19 pm19 an19 cd19 ct19), sl19⟩)
    (c19 : PySem.W.codeIn K cd19 "_law_expression" = true) (k19 : PySem.W.keepIn K (.ref f19) = true)
    (a20 : PySem.W.nsIn K mainGlobals "_law_kind_row" = some (some (.ref f20)))
    (l20 : K.lookup f20 = some ⟨oc20, od20, .func (PySem.W.fnOf "_law_kind_row" "_law_kind_row" (defArgs s_law_kind_row) (defBody s_law_kind_row) (defScope s_law_kind_row) .none kV20 dc20 pm20 an20 cd20 ct20), sl20⟩)
    (c20 : PySem.W.codeIn K cd20 "_law_kind_row" = true) (k20 : PySem.W.keepIn K (.ref f20) = true)
    (a21 : PySem.W.nsIn K mainGlobals "_law_place_row" = some (some (.ref f21)))
    (l21 : K.lookup f21 = some ⟨oc21, od21, .func (PySem.W.fnOf "_law_place_row" "_law_place_row" (defArgs s_law_place_row) (defBody s_law_place_row) (defScope s_law_place_row) .none kV21 dc21 pm21 an21 cd21 ct21), sl21⟩)
    (c21 : PySem.W.codeIn K cd21 "_law_place_row" = true) (k21 : PySem.W.keepIn K (.ref f21) = true)
    (a22 : PySem.W.nsIn K mainGlobals "_law_parts_row" = some (some (.ref f22)))
    (l22 : K.lookup f22 = some ⟨oc22, od22, .func (PySem.W.fnOf "_law_parts_row" "_law_parts_row" (defArgs s_law_parts_row) (defBody s_law_parts_row) (defScope s_law_parts_row) .none kV22 dc22 pm22 an22 cd22 ct22), sl22⟩)
    (c22 : PySem.W.codeIn K cd22 "_law_parts_row" = true) (k22 : PySem.W.keepIn K (.ref f22) = true)
    (a23 : PySem.W.nsIn K mainGlobals "_law_row" = some (some (.ref f23)))
    (l23 : K.lookup f23 = some ⟨oc23, od23, .func (PySem.W.fnOf "_law_row" "_law_row" (defArgs s_law_row) (defBody s_law_row) (defScope s_law_row) .none kV23 dc23 pm23 an23 cd23 ct23), sl23⟩)
    (c23 : PySem.W.codeIn K cd23 "_law_row" = true) (k23 : PySem.W.keepIn K (.ref f23) = true)
    (a24 : PySem.W.nsIn K mainGlobals "_law_block_rows" = some (some (.ref f24)))
    (l24 : K.lookup f24 = some ⟨oc24, od24, .func (PySem.W.fnOf "_law_block_rows" "_law_block_rows" (defArgs s_law_block_rows) (defBody s_law_block_rows) (defScope s_law_block_rows) .none kV24 dc24 pm24 an24 cd24 ct24), sl24⟩)
    (c24 : PySem.W.codeIn K cd24 "_law_block_rows" = true) (k24 : PySem.W.keepIn K (.ref f24) = true)
    (a25 : PySem.W.nsIn K mainGlobals "_law_field_row" = some (some (.ref f25)))
    (l25 : K.lookup f25 = some ⟨oc25, od25, .func (PySem.W.fnOf "_law_field_row" "_law_field_row" (defArgs s_law_field_row) (defBody s_law_field_row) (defScope s_law_field_row) .none kV25 dc25 pm25 an25 cd25 ct25), sl25⟩)
    (c25 : PySem.W.codeIn K cd25 "_law_field_row" = true) (k25 : PySem.W.keepIn K (.ref f25) = true)
    (a26 : PySem.W.nsIn K mainGlobals "_law_program_rows" = some (some (.ref f26)))
    (l26 : K.lookup f26 = some ⟨oc26, od26, .func (PySem.W.fnOf "_law_program_rows" "_law_program_rows" (defArgs s_law_program_rows) (defBody s_law_program_rows) (defScope s_law_program_rows) .none kV26 dc26 pm26 an26 cd26 ct26), sl26⟩)
    (c26 : PySem.W.codeIn K cd26 "_law_program_rows" = true) (k26 : PySem.W.keepIn K (.ref f26) = true)
    (a27 : PySem.W.nsIn K mainGlobals "_law_is_named" = some (some (.ref f27)))
    (l27 : K.lookup f27 = some ⟨oc27, od27, .func (PySem.W.fnOf "_law_is_named" "_law_is_named" (defArgs s_law_is_named) (defBody s_law_is_named) (defScope s_law_is_named) .none kV27 dc27 pm27 an27 cd27 ct27), sl27⟩)
    (c27 : PySem.W.codeIn K cd27 "_law_is_named" = true) (k27 : PySem.W.keepIn K (.ref f27) = true)
    (a28 : PySem.W.nsIn K mainGlobals "_law_line" = some (some (.ref f28)))
    (l28 : K.lookup f28 = some ⟨oc28, od28, .func (PySem.W.fnOf "_law_line" "_law_line" (defArgs s_law_line) (defBody s_law_line) (defScope s_law_line) .none kV28 dc28 pm28 an28 cd28 ct28), sl28⟩)
    (c28 : PySem.W.codeIn K cd28 "_law_line" = true) (k28 : PySem.W.keepIn K (.ref f28) = true)
    (a29 : PySem.W.nsIn K mainGlobals "_law_text" = some (some (.ref f29)))
    (l29 : K.lookup f29 = some ⟨oc29, od29, .func (PySem.W.fnOf "_law_text" "_law_text" (defArgs s_law_text) (defBody s_law_text) (defScope s_law_text) .none kV29 dc29 pm29 an29 cd29 ct29), sl29⟩)
    (c29 : PySem.W.codeIn K cd29 "_law_text" = true) (k29 : PySem.W.keepIn K (.ref f29) = true)
    (a30 : PySem.W.nsIn K mainGlobals "law" = some (some (.ref f30)))
    (l30 : K.lookup f30 = some ⟨oc30, od30, .func (PySem.W.fnOf "law" "law" (defArgs s_law) (defBody s_law) (defScope s_law) .none kV30 dc30 pm30 an30 cd30 ct30), sl30⟩)
    (c30 : PySem.W.codeIn K cd30 "law" = true) (k30 : PySem.W.keepIn K (.ref f30) = true)
    (b0 : PySem.W.nsIn K mainGlobals "INDENT" = some (some (.str "    " tc0)))
    (z0 : PySem.W.nsIn K mainGlobals "abs" = some none)
    (z1 : PySem.W.nsIn K mainGlobals "int" = some none)
    (z2 : PySem.W.nsIn K mainGlobals "isinstance" = some none)
    (z3 : PySem.W.nsIn K mainGlobals "len" = some none)
    (z4 : PySem.W.nsIn K mainGlobals "min" = some none)
    (z5 : PySem.W.nsIn K mainGlobals "range" = some none)
    (z6 : PySem.W.nsIn K mainGlobals "str" = some none)
    (z7 : PySem.W.nsIn K mainGlobals "tuple" = some none)
    (gx_MODES : PySem.W.nsIn K mainGlobals "MODES" = some (some (.ref x_MODES)))
    (lx_MODES : K.lookup x_MODES = some ⟨.type "dict", none, .dict es_MODES nn_MODES, #[]⟩) (kx_MODES : PySem.W.KeysLit w.params es_MODES.toList) (ox_MODES : (x_MODES == sysModules) = false)
    (v0_MODES : PySem.W.nsIn K x_MODES "shared" = some (some (.str "&" tv0_MODES)))
    (v1_MODES : PySem.W.nsIn K x_MODES "exclusive" = some (some (.str "&mut " tv1_MODES)))
    (v2_MODES : PySem.W.nsIn K x_MODES "int" = some none)
    (v3_MODES : PySem.W.nsIn K x_MODES "bool" = some none)
    (v4_MODES : PySem.W.nsIn K x_MODES "unit" = some none)
    (v5_MODES : PySem.W.nsIn K x_MODES "box" = some none)
    (v6_MODES : PySem.W.nsIn K x_MODES "maybe" = some none)
    (v7_MODES : PySem.W.nsIn K x_MODES "tuple" = some none)
    (v8_MODES : PySem.W.nsIn K x_MODES "record" = some none) :
    ∃ fd : FuncData, (∀ (s : Shared) (v : Value), BindsTo s fd ⟨[v], []⟩ [("script", v)]) ∧ ∀ base : Heap, K.In base → base.Ns mainGlobals mg → FnOk P w K mg base CX0 70 fa fd ["script"] (lSp K sp_law) :=
  law_end (main (FunAt.of X G a0 l0 c0 k0 fun _ _ _ _ _ _ us hl => match us, hl with | [_], _ => rfl)
    (FunAt.of X G a1 l1 c1 k1 fun _ _ _ _ _ _ us hl => match us, hl with | [_], _ => rfl)
    (FunAt.of X G a2 l2 c2 k2 fun _ _ _ _ _ _ us hl => match us, hl with | [_], _ => rfl)
    (FunAt.of X G a3 l3 c3 k3 fun _ _ _ _ _ _ us hl => match us, hl with | [_], _ => rfl)
    (FunAt.of X G a4 l4 c4 k4 fun _ _ _ _ _ _ us hl => match us, hl with | [_], _ => rfl)
    (FunAt.of X G a5 l5 c5 k5 fun _ _ _ _ _ _ us hl => match us, hl with | [_], _ => rfl)
    (FunAt.of X G a6 l6 c6 k6 fun _ _ _ _ _ _ us hl => match us, hl with | [_], _ => rfl)
    (FunAt.of X G a7 l7 c7 k7 fun _ _ _ _ _ _ us hl => match us, hl with | [_], _ => rfl)
    (FunAt.of X G a8 l8 c8 k8 fun _ _ _ _ _ _ us hl => match us, hl with | [_], _ => rfl)
    (FunAt.of X G a9 l9 c9 k9 fun _ _ _ _ _ _ us hl => match us, hl with | [_], _ => rfl)
    (FunAt.of X G a10 l10 c10 k10 fun _ _ _ _ _ _ us hl => match us, hl with | [_], _ => rfl)
    (FunAt.of X G a11 l11 c11 k11 fun _ _ _ _ _ _ us hl => match us, hl with | [_], _ => rfl)
    (FunAt.of X G a12 l12 c12 k12 fun _ _ _ _ _ _ us hl => match us, hl with | [_, _, _], _ => rfl)
    (FunAt.of X G a13 l13 c13 k13 fun _ _ _ _ _ _ us hl => match us, hl with | [], _ => rfl)
    (FunAt.of X G a14 l14 c14 k14 fun _ _ _ _ _ _ us hl => match us, hl with | [_, _], _ => rfl)
    (FunAt.of X G a15 l15 c15 k15 fun _ _ _ _ _ _ us hl => match us, hl with | [_, _], _ => rfl)
    (FunAt.of X G a16 l16 c16 k16 fun _ _ _ _ _ _ us hl => match us, hl with | [_, _, _], _ => rfl)
    (FunAt.of X G a17 l17 c17 k17 fun _ _ _ _ _ _ us hl => match us, hl with | [_, _], _ => rfl)
    (FunAt.of X G a18 l18 c18 k18 fun _ _ _ _ _ _ us hl => match us, hl with | [_, _], _ => rfl)
    (FunAt.of X G a19 l19 c19 k19 fun _ _ _ _ _ _ us hl => match us, hl with | [_, _, _], _ => rfl)
    (FunAt.of X G a20 l20 c20 k20 fun _ _ _ _ _ _ us hl => match us, hl with | [_], _ => rfl)
    (FunAt.of X G a21 l21 c21 k21 fun _ _ _ _ _ _ us hl => match us, hl with | [_], _ => rfl)
    (FunAt.of X G a22 l22 c22 k22 fun _ _ _ _ _ _ us hl => match us, hl with | [_], _ => rfl)
    (FunAt.of X G a23 l23 c23 k23 fun _ _ _ _ _ _ us hl => match us, hl with | [_], _ => rfl)
    (FunAt.of X G a24 l24 c24 k24 fun _ _ _ _ _ _ us hl => match us, hl with | [_, _], _ => rfl)
    (FunAt.of X G a25 l25 c25 k25 fun _ _ _ _ _ _ us hl => match us, hl with | [_], _ => rfl)
    (FunAt.of X G a26 l26 c26 k26 fun _ _ _ _ _ _ us hl => match us, hl with | [_], _ => rfl)
    (FunAt.of X G a27 l27 c27 k27 fun _ _ _ _ _ _ us hl => match us, hl with | [_], _ => rfl)
    (FunAt.of X G a28 l28 c28 k28 fun _ _ _ _ _ _ us hl => match us, hl with | [_], _ => rfl)
    (FunAt.of X G a29 l29 c29 k29 fun _ _ _ _ _ _ us hl => match us, hl with | [_], _ => rfl)
    (FunAt.of X G a30 l30 c30 k30 fun _ _ _ _ _ _ us hl => match us, hl with | [_], _ => rfl)
    ⟨.str "    ", .str "    " tc0, PySem.W.mg_of X G b0, ⟨tc0, rfl⟩, fun _ => .str _⟩
    (PySem.W.mg_none_of X G z0)
    (PySem.W.mg_none_of X G z1)
    (PySem.W.mg_none_of X G z2)
    (PySem.W.mg_none_of X G z3)
    (PySem.W.mg_none_of X G z4)
    (PySem.W.mg_none_of X G z5)
    (PySem.W.mg_none_of X G z6)
    (PySem.W.mg_none_of X G z7)
    (PySem.W.mg_of X G gx_MODES)
    ⟨⟨_, _, lx_MODES, kx_MODES, ox_MODES⟩, by
        intro z o hm
        simp only [List.mem_cons, List.not_mem_nil, or_false] at hm
        rcases hm with hm | hm | hm | hm | hm | hm | hm | hm | hm
        · obtain ⟨rfl, rfl⟩ := Prod.mk.inj hm; exact ⟨_, v0_MODES⟩
        · obtain ⟨rfl, rfl⟩ := Prod.mk.inj hm; exact ⟨_, v1_MODES⟩
        · obtain ⟨rfl, rfl⟩ := Prod.mk.inj hm; exact v2_MODES
        · obtain ⟨rfl, rfl⟩ := Prod.mk.inj hm; exact v3_MODES
        · obtain ⟨rfl, rfl⟩ := Prod.mk.inj hm; exact v4_MODES
        · obtain ⟨rfl, rfl⟩ := Prod.mk.inj hm; exact v5_MODES
        · obtain ⟨rfl, rfl⟩ := Prod.mk.inj hm; exact v6_MODES
        · obtain ⟨rfl, rfl⟩ := Prod.mk.inj hm; exact v7_MODES
        · obtain ⟨rfl, rfl⟩ := Prod.mk.inj hm; exact v8_MODES⟩) hfa
end Q4
open PySem PySem.W PyProof.Rows in
set_option maxRecDepth 100000 in
set_option maxHeartbeats 0 in
theorem PySem.Challenge.cw_lendback_k13_write_expressions_holds : PySem.Challenge.rw_lendback_k13_write_expressions.Holds := by
  w_on; o_law; k_head; (case hw => w_witness2)
  k_fill
  refine L2.walk_ofK (l := PySem.Challenge.rw_lendback_k13_write_expressions) (n := 63) (k := 70) (x := "script") (CX := L2.CX0) (sp := fun K => Q4.lSp K Q4.sp_law) rfl (by decide) rfl ⟨rfl, by decide, by decide⟩ (fun w h Y => PySem.W.kIn_of Y) ?F (fun _ _ _ _ hl ho hS => Q4.law_ask hl ho hS) (fun _ _ _ _ h => h)
  case F =>
    intro w mg fa h KX G hmg
    refine' Q4.all_mk KX G hmg ?a0 ?l0 ?c0 ?k0 ?a1 ?l1 ?c1 ?k1 ?a2 ?l2 ?c2 ?k2 ?a3 ?l3 ?c3 ?k3 ?a4 ?l4 ?c4 ?k4 ?a5 ?l5 ?c5 ?k5 ?a6 ?l6 ?c6 ?k6 ?a7 ?l7 ?c7 ?k7 ?a8 ?l8 ?c8 ?k8 ?a9 ?l9 ?c9 ?k9 ?a10 ?l10 ?c10 ?k10 ?a11 ?l11 ?c11 ?k11 ?a12 ?l12 ?c12 ?k12 ?a13 ?l13 ?c13 ?k13 ?a14 ?l14 ?c14 ?k14 ?a15 ?l15 ?c15 ?k15 ?a16 ?l16 ?c16 ?k16 ?a17 ?l17 ?c17 ?k17 ?a18 ?l18 ?c18 ?k18 ?a19 ?l19 ?c19 ?k19 ?a20 ?l20 ?c20 ?k20 ?a21 ?l21 ?c21 ?k21 ?a22 ?l22 ?c22 ?k22 ?a23 ?l23 ?c23 ?k23 ?a24 ?l24 ?c24 ?k24 ?a25 ?l25 ?c25 ?k25 ?a26 ?l26 ?c26 ?k26 ?a27 ?l27 ?c27 ?k27 ?a28 ?l28 ?c28 ?k28 ?a29 ?l29 ?c29 ?k29 ?a30 ?l30 ?c30 ?k30 ?b0 ?z0 ?z1 ?z2 ?z3 ?z4 ?z5 ?z6 ?z7 ?gx_MODES ?lx_MODES ?kx_MODES ?ox_MODES ?v0_MODES ?v1_MODES ?v2_MODES ?v3_MODES ?v4_MODES ?v5_MODES ?v6_MODES ?v7_MODES ?v8_MODES
    (case gx_MODES => k_is)
    (case a0 => k_is)
    (case l0 => k_is)
    (case c0 => k_is)
    (case k0 => k_is)
    (case a1 => k_is)
    (case l1 => k_is)
    (case c1 => k_is)
    (case k1 => k_is)
    (case a2 => k_is)
    (case l2 => k_is)
    (case c2 => k_is)
    (case k2 => k_is)
    (case a3 => k_is)
    (case l3 => k_is)
    (case c3 => k_is)
    (case k3 => k_is)
    (case a4 => k_is)
    (case l4 => k_is)
    (case c4 => k_is)
    (case k4 => k_is)
    (case a5 => k_is)
    (case l5 => k_is)
    (case c5 => k_is)
    (case k5 => k_is)
    (case a6 => k_is)
    (case l6 => k_is)
    (case c6 => k_is)
    (case k6 => k_is)
    (case a7 => k_is)
    (case l7 => k_is)
    (case c7 => k_is)
    (case k7 => k_is)
    (case a8 => k_is)
    (case l8 => k_is)
    (case c8 => k_is)
    (case k8 => k_is)
    (case a9 => k_is)
    (case l9 => k_is)
    (case c9 => k_is)
    (case k9 => k_is)
    (case a10 => k_is)
    (case l10 => k_is)
    (case c10 => k_is)
    (case k10 => k_is)
    (case a11 => k_is)
    (case l11 => k_is)
    (case c11 => k_is)
    (case k11 => k_is)
    (case a12 => k_is)
    (case l12 => k_is)
    (case c12 => k_is)
    (case k12 => k_is)
    (case a13 => k_is)
    (case l13 => k_is)
    (case c13 => k_is)
    (case k13 => k_is)
    (case a14 => k_is)
    (case l14 => k_is)
    (case c14 => k_is)
    (case k14 => k_is)
    (case a15 => k_is)
    (case l15 => k_is)
    (case c15 => k_is)
    (case k15 => k_is)
    (case a16 => k_is)
    (case l16 => k_is)
    (case c16 => k_is)
    (case k16 => k_is)
    (case a17 => k_is)
    (case l17 => k_is)
    (case c17 => k_is)
    (case k17 => k_is)
    (case a18 => k_is)
    (case l18 => k_is)
    (case c18 => k_is)
    (case k18 => k_is)
    (case a19 => k_is)
    (case l19 => k_is)
    (case c19 => k_is)
    (case k19 => k_is)
    (case a20 => k_is)
    (case l20 => k_is)
    (case c20 => k_is)
    (case k20 => k_is)
    (case a21 => k_is)
    (case l21 => k_is)
    (case c21 => k_is)
    (case k21 => k_is)
    (case a22 => k_is)
    (case l22 => k_is)
    (case c22 => k_is)
    (case k22 => k_is)
    (case a23 => k_is)
    (case l23 => k_is)
    (case c23 => k_is)
    (case k23 => k_is)
    (case a24 => k_is)
    (case l24 => k_is)
    (case c24 => k_is)
    (case k24 => k_is)
    (case a25 => k_is)
    (case l25 => k_is)
    (case c25 => k_is)
    (case k25 => k_is)
    (case a26 => k_is)
    (case l26 => k_is)
    (case c26 => k_is)
    (case k26 => k_is)
    (case a27 => k_is)
    (case l27 => k_is)
    (case c27 => k_is)
    (case k27 => k_is)
    (case a28 => k_is)
    (case l28 => k_is)
    (case c28 => k_is)
    (case k28 => k_is)
    (case a29 => k_is)
    (case l29 => k_is)
    (case c29 => k_is)
    (case k29 => k_is)
    (case a30 => k_is)
    (case l30 => k_is)
    (case c30 => k_is)
    (case k30 => k_is)
    (case b0 => k_is)
    (case z0 => k_is)
    (case z1 => k_is)
    (case z2 => k_is)
    (case z3 => k_is)
    (case z4 => k_is)
    (case z5 => k_is)
    (case z6 => k_is)
    (case z7 => k_is)
    (case lx_MODES => k_is)
    (case kx_MODES => k_keys)
    (case ox_MODES => decide)
    (case v0_MODES => k_is)
    (case v1_MODES => k_is)
    (case v2_MODES => k_is)
    (case v3_MODES => k_is)
    (case v4_MODES => k_is)
    (case v5_MODES => k_is)
    (case v6_MODES => k_is)
    (case v7_MODES => k_is)
    (case v8_MODES => k_is)
