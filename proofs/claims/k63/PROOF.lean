import PyProof.Rows.All
import Wide.All
import OpenK.AllK
import Wide.FinOn
import HandS.Words
import HandS.WordsList
import HandS.List
import HandS.Comp
import HandS.Iter
import HandS.Conv
import HandS.Zip
import HandS.Wide
import HandS.Flow
import HandS.Lambda
import HandS.TupAny
import HandS.TupMul
import HandS.IsInst
import HandS.Style
import PyProof.Rows.RuleB_pow
import HandS.Walk
import HandS.Ends
import HandS.Exc
import HandS.ExcOwn
import HandS.WordsExc
import PyProof.ReprRoads
import PyProof.ReprReads
import PyProof.StrHeap
import HandS.Dict
import KE.GoesEnum
import KE.GoesMore
import KE.KRevSl
import HandS.Deep
import KE.DatumOrd
import HandS.TryOnly
import HandS.Strs
import HandS.TryMany
import HandS.ExcIs
import HandS.EndTab
import HandS.Defaults
import KE.KTupSum
import PySem.Challenge.RW_hindcost_k63_device_systems
import KE.OsRunLaw
set_option Elab.async false
set_option linter.all false
set_option maxRecDepth 100000
set_option autoImplicit false
namespace Mi
open PySem PySem.Spec PyProof.Rows L2

/-! ### data, the store -/
inductive D where
  | non | bl (b : Bool) | int (i : Int) | str (x : Str) | tup (xs : List D) | rol (xs : List D) | ref (n : Nat) | ty (n : String)

/-- a lambda of the program: its words, the names that it captures -/
structure LamI where
  qual : Str
  params : Arguments
  body : Expr
  scope : Scope
  caps : List Str
inductive Cell where
  | lst (xs : List D) | dK (kvs : List (Key × D)) | dT (kvs : List (List Key × D))
  /-- a dict that is walked over: locked -/
  | fK (kvs : List (Key × D))
  /-- where the def x keeps the code objects of its lambdas -/
  | tab (x : Str)
  /-- a function object that a call was handed, with what it captures; one that no call is handed any more -/
  | fn (l : LamI) (caps : List D) | dead
abbrev Store := List Cell
abbrev Vs := List (Option D)
structure Exn where
  cls : Str
  fs : List (Str × D)
inductive R (α : Type) where
  | ok (a : α) (s : Store) | exc (e : Exn) (s : Store) | bad
inductive RS where
  | nx (e : Vs) (s : Store) | rt (d : D) (s : Store) | bk (e : Vs) (s : Store) | ct (e : Vs) (s : Store) | exc (x : Exn) (e : Vs) (s : Store) | bad
def R.bind {α β : Type} (r : R α) (f : α → Store → R β) : R β :=
  match r with
  | .ok a s => f a s
  | .exc e s => .exc e s
  | .bad => .bad
abbrev ME := Vs → Store → R D
abbrev ML := Vs → Store → R (List D)
abbrev MB := Vs → Store → R Bool
abbrev MS := Vs → Store → RS

/-! ### how they lie in the heap -/
/-- a list that is read, never written -/
def SqR (K : PySem.W.Frag) (H : Hp) (a : Addr) (xs : List V) : Prop := SqL K H a xs ∧ ∀ ys, H a ≠ some (.lst ys)
theorem SqR.split {K : PySem.W.Frag} {H : Hp} {a : Addr} {xs : List V} (h : SqR K H a xs) : (∃ o, H a = some (.frz o (.lst xs))) ∨ (SqL K (fun _ => none) a xs) := by
  rcases h with ⟨(h | h) | h, n⟩
  · exact absurd h (n _)
  · exact .inl h
  · exact .inr (.inr h)
mutual
def RepV (K : PySem.W.Frag) (φ : List Addr) (H : Hp) : D → V → Prop
  | .non, v => v = .non
  | .bl b, v => v = .bl b
  | .int i, v => v = .int i
  | .str x, v => v = .str x
  | .ty n, v => v = .ty n
  | .tup ds, v => ∃ a xs, v = .ref a ∧ SqT K H a xs ∧ RepL K φ H ds xs
  | .rol ds, v => ∃ a xs, v = .ref a ∧ ((∃ o, H a = some (.frz o (.lst xs))) ∨ SqL K (fun _ => none) a xs) ∧ RepL K φ H ds xs
  | .ref n, v => ∃ a, φ[n]? = some a ∧ v = .ref a
def RepL (K : PySem.W.Frag) (φ : List Addr) (H : Hp) : List D → List V → Prop
  | [], xs => xs = []
  | d :: ds, xs => ∃ v vs, xs = v :: vs ∧ RepV K φ H d v ∧ RepL K φ H ds vs
end

/-- what never changes is kept -/
structure Keep (H H' : Hp) : Prop where
  t : ∀ a xs, H a = some (.tup xs) → H' a = some (.tup xs)
  f : ∀ a o u, H a = some (.frz o u) → H' a = some (.frz o u)
  x : ∀ a q, H a = some (LamX.CodeO a q) → H' a = some (LamX.CodeO a q)
  d : ∀ a fs, H a = some (.xd fs) → H' a = some (.xd fs)
/-- no object of a kind that stays as it is -/
def Moves (u : HO) : Prop := (∀ o v, u ≠ .frz o v) ∧ (∀ ps, u ≠ .tbl ps) ∧ (∀ a q, u ≠ LamX.CodeO a q) ∧ ∀ fs, u ≠ .xd fs
theorem code_ne {u : HO} {a : Addr} {q : Str} (h : u = LamX.CodeO a q) {p : Prop} (n : ∀ P, u ≠ .ext P := by intro P z; cases z) : p := (n _ h).elim
theorem Keep.refl (H : Hp) : Keep H H := ⟨fun _ _ h => h, fun _ _ _ h => h, fun _ _ h => h, fun _ _ h => h⟩
theorem Keep.trans {H H1 H2 : Hp} (a : Keep H H1) (b : Keep H1 H2) : Keep H H2 := ⟨fun _ _ h => b.1 _ _ (a.1 _ _ h), fun _ _ _ h => b.2 _ _ _ (a.2 _ _ _ h), fun _ _ h => b.3 _ _ (a.3 _ _ h), fun _ _ h => b.4 _ _ (a.4 _ _ h)⟩
theorem Keep.new {H : Hp} {p : Addr} {o : HO} (n : H p = none) : Keep H (upd H p o) :=
  ⟨fun a xs h => by rw [upd_ne (ne_of_none h n)]; exact h, fun a u v h => by rw [upd_ne (ne_of_none h n)]; exact h, fun a q h => by rw [upd_ne (ne_of_none h n)]; exact h, fun a q h => by rw [upd_ne (ne_of_none h n)]; exact h⟩
theorem Keep.put {H : Hp} {p : Addr} {o u : HO} (h0 : H p = some u) (h1 : ∀ xs, u ≠ .tup xs) (h2 : Moves u) : Keep H (upd H p o) :=
  ⟨fun a xs h => by rw [upd_ne (ne_of h h0 (fun z => h1 _ z.symm))]; exact h, fun a x v h => by rw [upd_ne (ne_of h h0 (fun z => h2.1 _ _ z.symm))]; exact h, fun a q h => by rw [upd_ne (ne_of h h0 (fun z => h2.2.2.1 _ _ z.symm))]; exact h, fun a q h => by rw [upd_ne (ne_of h h0 (fun z => h2.2.2.2 _ z.symm))]; exact h⟩
theorem Keep.seqT {K : PySem.W.Frag} {H H' : Hp} (k : Keep H H') {a : Addr} {xs : List V} (h : SqT K H a xs) : SqT K H' a xs := by
  rcases h with (h | ⟨o, h⟩) | h
  · exact .inl (.inl (k.1 _ _ h))
  · exact .inl (.inr ⟨o, k.2 _ _ _ h⟩)
  · exact .inr h

section
variable {K : PySem.W.Frag} {φ φ' : List Addr} {H H' : Hp}
theorem pre_get {n : Nat} {a : Addr} (e : φ <+: φ') (h : φ[n]? = some a) : φ'[n]? = some a := by
  obtain ⟨t, rfl⟩ := e
  rw [List.getElem?_append_left (by
    rcases Nat.lt_or_ge n φ.length with z | z
    · exact z
    · rw [List.getElem?_eq_none z] at h; cases h)]
  exact h
mutual
theorem RepV.mono (e : φ <+: φ') (k : Keep H H') : ∀ (d : D) (v : V), RepV K φ H d v → RepV K φ' H' d v
  | .non, _, h => by unfold RepV at h ⊢; exact h
  | .bl _, _, h => by unfold RepV at h ⊢; exact h
  | .int _, _, h => by unfold RepV at h ⊢; exact h
  | .str _, _, h => by unfold RepV at h ⊢; exact h
  | .ty _, _, h => by unfold RepV at h ⊢; exact h
  | .tup ds, _, h => by
    unfold RepV at h ⊢
    obtain ⟨a, xs, e1, s, r⟩ := h
    exact ⟨a, xs, e1, k.seqT s, RepL.mono e k ds xs r⟩
  | .rol ds, _, h => by
    unfold RepV at h ⊢
    obtain ⟨a, xs, e1, s, r⟩ := h
    refine ⟨a, xs, e1, ?_, RepL.mono e k ds xs r⟩
    rcases s with ⟨o, s⟩ | s
    · exact .inl ⟨o, k.2 _ _ _ s⟩
    · exact .inr s
  | .ref _, _, h => by
    unfold RepV at h ⊢
    obtain ⟨a, e1, e2⟩ := h
    exact ⟨a, pre_get e e1, e2⟩
theorem RepL.mono (e : φ <+: φ') (k : Keep H H') : ∀ (ds : List D) (xs : List V), RepL K φ H ds xs → RepL K φ' H' ds xs
  | [], _, h => by unfold RepL at h ⊢; exact h
  | d :: ds, _, h => by
    unfold RepL at h ⊢
    obtain ⟨v, vs, e1, r, t⟩ := h
    exact ⟨v, vs, e1, RepV.mono e k d v r, RepL.mono e k ds vs t⟩
end
theorem RepV.mkInt {i : Int} : RepV K φ H (.int i) (.int i) := by unfold RepV; rfl
theorem RepV.mkBl {i : Bool} : RepV K φ H (.bl i) (.bl i) := by unfold RepV; rfl
theorem RepV.mkStr {i : Str} : RepV K φ H (.str i) (.str i) := by unfold RepV; rfl
theorem RepV.mkTy {i : String} : RepV K φ H (.ty i) (.ty i) := by unfold RepV; rfl
theorem RepV.mkNon : RepV K φ H .non .non := by unfold RepV; rfl
theorem RepV.mkTup {a : Addr} {ds : List D} {xs : List V} (s : SqT K H a xs) (r : RepL K φ H ds xs) : RepV K φ H (.tup ds) (.ref a) := by unfold RepV; exact ⟨a, xs, rfl, s, r⟩
theorem RepV.mkRef {n : Nat} {a : Addr} (h : φ[n]? = some a) : RepV K φ H (.ref n) (.ref a) := by unfold RepV; exact ⟨a, h, rfl⟩
theorem RepV.int {i : Int} {v : V} (h : RepV K φ H (.int i) v) : v = .int i := by unfold RepV at h; exact h
theorem RepV.bl {i : Bool} {v : V} (h : RepV K φ H (.bl i) v) : v = .bl i := by unfold RepV at h; exact h
theorem RepV.str {i : Str} {v : V} (h : RepV K φ H (.str i) v) : v = .str i := by unfold RepV at h; exact h
theorem RepV.ty {i : String} {v : V} (h : RepV K φ H (.ty i) v) : v = .ty i := by unfold RepV at h; exact h
theorem RepV.non {v : V} (h : RepV K φ H .non v) : v = .non := by unfold RepV at h; exact h
theorem RepV.tup {ds : List D} {v : V} (h : RepV K φ H (.tup ds) v) : ∃ a xs, v = .ref a ∧ SqT K H a xs ∧ RepL K φ H ds xs := by unfold RepV at h; exact h
theorem RepV.rol {ds : List D} {v : V} (h : RepV K φ H (.rol ds) v) : ∃ a xs, v = .ref a ∧ ((∃ o, H a = some (.frz o (.lst xs))) ∨ SqL K (fun _ => none) a xs) ∧ RepL K φ H ds xs := by unfold RepV at h; exact h
theorem RepV.ref {n : Nat} {v : V} (h : RepV K φ H (.ref n) v) : ∃ a, φ[n]? = some a ∧ v = .ref a := by unfold RepV at h; exact h
theorem rolSq {a : Addr} {xs : List V} (h : (∃ o, H a = some (.frz o (.lst xs))) ∨ SqL K (fun _ => none) a xs) : SqL K H a xs := by
  rcases h with ⟨o, h⟩ | h
  · exact .inl (.inr ⟨o, h⟩)
  · rcases h with (h | ⟨o, h⟩) | h
    · cases h
    · cases h
    · exact .inr h
theorem RepL.nil : RepL K φ H [] [] := by unfold RepL; rfl
theorem RepL.cons {d : D} {ds : List D} {v : V} {vs : List V} (r : RepV K φ H d v) (t : RepL K φ H ds vs) : RepL K φ H (d :: ds) (v :: vs) := by
  unfold RepL; exact ⟨v, vs, rfl, r, t⟩
theorem RepL.nil_inv {xs : List V} (h : RepL K φ H [] xs) : xs = [] := by unfold RepL at h; exact h
theorem RepL.cons_inv {d : D} {ds : List D} {xs : List V} (h : RepL K φ H (d :: ds) xs) : ∃ v vs, xs = v :: vs ∧ RepV K φ H d v ∧ RepL K φ H ds vs := by unfold RepL at h; exact h
theorem RepL.len : ∀ {ds : List D} {xs : List V}, RepL K φ H ds xs → xs.length = ds.length
  | [], xs, h => by rw [h.nil_inv]; rfl
  | d :: ds, xs, h => by
    obtain ⟨v, vs, rfl, _, t⟩ := h.cons_inv
    rw [List.length_cons, List.length_cons, RepL.len t]
theorem RepL.get : ∀ {ds : List D} {xs : List V} {i : Nat} {d : D}, RepL K φ H ds xs → ds[i]? = some d → ∃ v, xs[i]? = some v ∧ RepV K φ H d v
  | [], _, _, _, _, e => by cases e
  | d :: ds, xs, 0, d', h, e => by
    obtain ⟨v, vs, rfl, r, t⟩ := h.cons_inv
    cases e
    exact ⟨v, rfl, r⟩
  | d :: ds, xs, i + 1, d', h, e => by
    obtain ⟨v, vs, rfl, r, t⟩ := h.cons_inv
    exact RepL.get (i := i) t e
theorem RepL.append : ∀ {ds es : List D} {xs ys : List V}, RepL K φ H ds xs → RepL K φ H es ys → RepL K φ H (ds ++ es) (xs ++ ys)
  | [], _, _, _, h, g => by rw [h.nil_inv]; exact g
  | d :: ds, es, xs, ys, h, g => by
    obtain ⟨v, vs, rfl, r, t⟩ := h.cons_inv
    exact .cons r (RepL.append t g)
theorem RepL.take : ∀ {ds : List D} {xs : List V} (n : Nat), RepL K φ H ds xs → RepL K φ H (ds.take n) (xs.take n)
  | [], xs, n, h => by rw [h.nil_inv, List.take_nil, List.take_nil]; exact .nil
  | d :: ds, xs, 0, h => .nil
  | d :: ds, xs, n + 1, h => by
    obtain ⟨v, vs, rfl, r, t⟩ := h.cons_inv
    exact .cons r (RepL.take n t)
theorem RepL.drop : ∀ {ds : List D} {xs : List V} (n : Nat), RepL K φ H ds xs → RepL K φ H (ds.drop n) (xs.drop n)
  | [], xs, n, h => by rw [h.nil_inv, List.drop_nil, List.drop_nil]; exact .nil
  | d :: ds, xs, 0, h => h
  | d :: ds, xs, n + 1, h => by
    obtain ⟨v, vs, rfl, r, t⟩ := h.cons_inv
    exact RepL.drop n t
theorem RepL.set {d' : D} {v' : V} (r' : RepV K φ H d' v') : ∀ {ds : List D} {xs : List V} (i : Nat), RepL K φ H ds xs → RepL K φ H (ds.set i d') (xs.set i v')
  | [], xs, i, h => by rw [h.nil_inv]; exact .nil
  | d :: ds, xs, 0, h => by
    obtain ⟨v, vs, rfl, r, t⟩ := h.cons_inv
    exact .cons r' t
  | d :: ds, xs, i + 1, h => by
    obtain ⟨v, vs, rfl, r, t⟩ := h.cons_inv
    exact .cons r (RepL.set r' i t)
theorem RepL.reverse : ∀ {ds : List D} {xs : List V}, RepL K φ H ds xs → RepL K φ H ds.reverse xs.reverse
  | [], xs, h => by rw [h.nil_inv]; exact .nil
  | d :: ds, xs, h => by
    obtain ⟨v, vs, rfl, r, t⟩ := h.cons_inv
    rw [List.reverse_cons, List.reverse_cons]
    exact .append (RepL.reverse t) (.cons r .nil)
theorem RepL.rep {ds : List D} {xs : List V} (h : RepL K φ H ds xs) : ∀ n : Nat, RepL K φ H (List.replicate n ds).flatten (List.replicate n xs).flatten
  | 0 => .nil
  | n + 1 => by
    rw [List.replicate_succ, List.replicate_succ, List.flatten_cons, List.flatten_cons]
    exact .append h (RepL.rep h n)

/-! the store -/
def RepK : List (Key × D) → List (Key × V) → (D → V → Prop) → Prop := fun a b F => Paired (fun (p : Key × D) (q : Key × V) => p.1 = q.1 ∧ F p.2 q.2) a b
def RepT : List (List Key × D) → List (List Key × V) → (D → V → Prop) → Prop := fun a b F => Paired (fun (p : List Key × D) (q : List Key × V) => p.1 = q.1 ∧ F p.2 q.2) a b
/-- what is known of a thing that stays as it is while a call runs -/
abbrev stay (o : Obj) : HO := .frz o (.own 0)
/-- the captured cells -/
structure CapsOk (F : List D → List V → Prop) (H : Hp) (names : List Str) (caps : List D) (cl : List (Str × Addr)) : Prop where
  inj : ∀ x y c, cl.lookup x = some c → cl.lookup y = some c → x = y
  all : ∀ y c, cl.lookup y = some c → ∃ oc v, H c = some (stay oc) ∧ oc.data = .cell v
  val : ∃ ws, F caps ws ∧ names.length = ws.length ∧ ∀ (j : Nat) (y : Str) (w : V), names[j]? = some y → ws[j]? = some w → ∃ c oc u, cl.lookup y = some c ∧ H c = some (stay oc) ∧ oc.data = .cell (some u) ∧ RelV w u
/-- the name of the lambdas of the def x -/
def lamQ (x : Str) : Str := (x ++ (".<locals>." : Str)) ++ ("<lambda>" : Str)
def CellOk (K : PySem.W.Frag) (φ : List Addr) (H : Hp) (a : Addr) : Cell → Prop
  | .lst ds => ∃ xs, H a = some (.lst xs) ∧ RepL K φ H ds xs
  | .dK kvs => ∃ ws, H a = some (.dK ws) ∧ RepK kvs ws (RepV K φ H)
  | .dT kvs => ∃ ws, H a = some (.dT ws) ∧ RepT kvs ws (RepV K φ H)
  | .fK kvs => ∃ ws, (∃ o, H a = some (.frz o (.dK ws))) ∧ RepK kvs ws (RepV K φ H)
  | .tab x => (∃ c, PySem.W.tabIn K x = some (c, a)) ∧ LamX.TabS H a (lamQ x)
  | .fn l caps => ∃ cl pm c' ctv, H a = some (stay (PySem.W.kla_obj "<lambda>" l.qual l.params l.body l.scope cl pm c' ctv)) ∧ H c' = some (LamX.CodeO c' l.qual) ∧ CapsOk (RepL K φ H) H l.caps caps cl
  | .dead => ∃ o, H a = some (stay o) ∧ ∀ v, o.data ≠ .cell v
/-- not locked -/
def Cell.free : Cell → Prop
  | .fK _ => False
  | .tab _ => False
  | .fn _ _ => False
  | .dead => False
  | _ => True
structure StOk (K : PySem.W.Frag) (φ : List Addr) (H : Hp) (S : Store) : Prop where
  len : φ.length = S.length
  nd : φ.Nodup
  at_ : ∀ (n : Nat) (c : Cell), (S[n]? : Option Cell) = some c → ∃ a, φ[n]? = some a ∧ CellOk K φ H a c
theorem CellOk.mono {a : Addr} (e : φ <+: φ') (k : Keep H H') (h : H' a = H a) : ∀ {c : Cell}, CellOk K φ H a c → CellOk K φ' H' a c := by
  intro c x
  cases c with
  | lst ds =>
    obtain ⟨xs, h1, r⟩ := x
    exact ⟨xs, h.trans h1, r.mono e k⟩
  | dK kvs =>
    obtain ⟨ws, h1, r⟩ := x
    exact ⟨ws, h.trans h1, Paired.mapP r fun p q z => ⟨z.1, z.2.mono e k⟩⟩
  | dT kvs =>
    obtain ⟨ws, h1, r⟩ := x
    exact ⟨ws, h.trans h1, Paired.mapP r fun p q z => ⟨z.1, z.2.mono e k⟩⟩
  | fK kvs =>
    obtain ⟨ws, ⟨o, h1⟩, r⟩ := x
    exact ⟨ws, ⟨o, h.trans h1⟩, Paired.mapP r fun p q z => ⟨z.1, z.2.mono e k⟩⟩
  | tab q =>
    obtain ⟨tq, ps, h1, h2, h3⟩ := x
    refine ⟨tq, ps, h.trans h1, h2, fun p cv hc => ?_⟩
    obtain ⟨c, e1, e2⟩ := h3 p cv hc
    exact ⟨c, e1, k.x _ _ e2⟩
  | fn l caps =>
    obtain ⟨cl, pm, c', ctv, h1, h2, h3⟩ := x
    refine ⟨cl, pm, c', ctv, h.trans h1, k.x _ _ h2, h3.inj, fun y c e2 => ?_, ?_⟩
    · obtain ⟨oc, v, a1, a2⟩ := h3.all y c e2
      exact ⟨oc, v, k.f _ _ _ a1, a2⟩
    · obtain ⟨ws, r, hl, hv⟩ := h3.val
      refine ⟨ws, r.mono e k, hl, fun j y w e1 e2 => ?_⟩
      obtain ⟨c, oc, u, a1, a2, a3, a4⟩ := hv j y w e1 e2
      exact ⟨c, oc, u, a1, k.f _ _ _ a2, a3, a4⟩
  | dead =>
    obtain ⟨o, h1, h2⟩ := x
    exact ⟨o, h.trans h1, h2⟩
theorem CellOk.some_ {a : Addr} {c : Cell} (x : CellOk K φ H a c) (f : c.free) : ∃ u, H a = some u ∧ (∀ xs, u ≠ .tup xs) ∧ Moves u := by
  cases c with
  | lst ds => obtain ⟨xs, h1, _⟩ := x; exact ⟨_, h1, fun _ z => (by cases z), fun _ _ z => (by cases z), fun _ z => (by cases z), fun _ _ z => code_ne z, fun _ z => (by cases z)⟩
  | dK kvs => obtain ⟨ws, h1, _⟩ := x; exact ⟨_, h1, fun _ z => (by cases z), fun _ _ z => (by cases z), fun _ z => (by cases z), fun _ _ z => code_ne z, fun _ z => (by cases z)⟩
  | dT kvs => obtain ⟨ws, h1, _⟩ := x; exact ⟨_, h1, fun _ z => (by cases z), fun _ _ z => (by cases z), fun _ z => (by cases z), fun _ _ z => code_ne z, fun _ z => (by cases z)⟩
  | fK kvs => exact f.elim
  | tab q => exact f.elim
  | fn l caps => exact f.elim
  | dead => exact f.elim
theorem CellOk.there {a : Addr} {c : Cell} (x : CellOk K φ H a c) : ∃ u, H a = some u := by
  cases c with
  | lst ds => obtain ⟨xs, h1, _⟩ := x; exact ⟨_, h1⟩
  | dK kvs => obtain ⟨ws, h1, _⟩ := x; exact ⟨_, h1⟩
  | dT kvs => obtain ⟨ws, h1, _⟩ := x; exact ⟨_, h1⟩
  | fK kvs => obtain ⟨ws, ⟨o, h1⟩, _⟩ := x; exact ⟨_, h1⟩
  | tab q => obtain ⟨_, ps, h1, _⟩ := x; exact ⟨_, h1⟩
  | fn l caps => obtain ⟨_, _, _, _, h1, _⟩ := x; exact ⟨_, h1⟩
  | dead => obtain ⟨_, h1, _⟩ := x; exact ⟨_, h1⟩
theorem StOk.some_ {S : Store} (st : StOk K φ H S) {n : Nat} {a : Addr} (h : φ[n]? = some a) {c : Cell} (hc : (S[n]? : Option Cell) = some c) (f : c.free) : ∃ u, H a = some u ∧ (∀ xs, u ≠ .tup xs) ∧ Moves u := by
  obtain ⟨a', h1, x⟩ := st.at_ n c hc
  rw [h] at h1; cases h1
  exact x.some_ f
theorem StOk.there {S : Store} (st : StOk K φ H S) {n : Nat} {a : Addr} (h : φ[n]? = some a) : ∃ u, H a = some u := by
  have hn : n < S.length := by
    rw [← st.len]
    rcases Nat.lt_or_ge n φ.length with z | z
    · exact z
    · rw [List.getElem?_eq_none z] at h; cases h
  obtain ⟨a', h1, x⟩ := st.at_ n S[n] (List.getElem?_eq_getElem hn)
  rw [h] at h1; cases h1
  exact x.there
theorem StOk.ne {S : Store} (st : StOk K φ H S) {n : Nat} {a p : Addr} (h : φ[n]? = some a) (hp : H p = none) : a ≠ p := by
  obtain ⟨u, hu⟩ := st.there h
  exact ne_of_none hu hp
/-- an object that the store does not bear is laid -/
theorem StOk.new {S : Store} (st : StOk K φ H S) {p : Addr} {o : HO} (hp : H p = none) : StOk K φ (upd H p o) S :=
  ⟨st.len, st.nd, fun n c h => by
    obtain ⟨a, h1, x⟩ := st.at_ n c h
    exact ⟨a, h1, x.mono (List.prefix_refl φ) (Keep.new hp) (upd_ne (st.ne h1 hp))⟩⟩
theorem pre_push (p : Addr) : φ <+: φ ++ [p] := ⟨[p], rfl⟩
/-- .. and borne -/
theorem StOk.push {S : Store} (st : StOk K φ H S) {p : Addr} {o : HO} {c : Cell} (hp : H p = none) (hc : CellOk K (φ ++ [p]) (upd H p o) p c) : StOk K (φ ++ [p]) (upd H p o) (S ++ [c]) := by
  refine ⟨by rw [List.length_append, List.length_append, st.len]; rfl, ?_, fun n c' h => ?_⟩
  · rw [List.nodup_append]
    refine ⟨st.nd, by simp, fun a ha b hb => ?_⟩
    rw [List.mem_singleton] at hb
    subst hb
    obtain ⟨n, h⟩ := List.mem_iff_getElem?.mp ha
    exact st.ne h hp
  · rcases Nat.lt_or_ge n S.length with z | z
    · rw [List.getElem?_append_left z] at h
      obtain ⟨a, h1, x⟩ := st.at_ n c' h
      exact ⟨a, pre_get (pre_push p) h1, x.mono (pre_push p) (Keep.new hp) (upd_ne (st.ne h1 hp))⟩
    · rw [List.getElem?_append_right z] at h
      have e : n - S.length = 0 := by
        rcases Nat.lt_or_ge (n - S.length) 1 with q | q
        · omega
        · rw [List.getElem?_eq_none (by simpa using q)] at h; cases h
      rw [e] at h
      cases h
      refine ⟨p, ?_, hc⟩
      rw [List.getElem?_append_right (by rw [st.len]; exact z), st.len, e]
      rfl
theorem StOk.at_new {S : Store} (st : StOk K φ H S) (p : Addr) : (φ ++ [p])[S.length]? = some p := by
  rw [← st.len, List.getElem?_append_right (Nat.le_refl _), Nat.sub_self]
  rfl
/-- a cell is changed -/
theorem StOk.put {S : Store} (st : StOk K φ H S) {n : Nat} {a : Addr} {o : HO} {c : Cell} (h : φ[n]? = some a) {c0 : Cell} (h0 : (S[n]? : Option Cell) = some c0) (f : c0.free) (hc : CellOk K φ (upd H a o) a c) : StOk K φ (upd H a o) (S.set n c) ∧ Keep H (upd H a o) := by
  obtain ⟨u, hu, t1, t2⟩ := st.some_ h h0 f
  have k : Keep H (upd H a o) := Keep.put hu t1 t2
  refine ⟨⟨by rw [List.length_set]; exact st.len, st.nd, fun m c' hm => ?_⟩, k⟩
  by_cases e : m = n
  · subst e
    refine ⟨a, h, ?_⟩
    rw [List.getElem?_set] at hm
    rw [if_pos rfl] at hm
    split at hm
    · cases hm; exact hc
    · cases hm
  · rw [List.getElem?_set, if_neg (fun z => e z.symm)] at hm
    obtain ⟨b, h1, x⟩ := st.at_ m c' hm
    refine ⟨b, h1, x.mono (List.prefix_refl φ) k (upd_ne fun z => e ?_)⟩
    subst z
    have hm' : m < φ.length := by
      rcases Nat.lt_or_ge m φ.length with q | q
      · exact q
      · rw [List.getElem?_eq_none q] at h1; cases h1
    exact (List.getElem?_inj hm' st.nd).mp (h1.trans h.symm)
end
end Mi

namespace Mi
open PySem PySem.Spec L2

structure EnvOk (K : PySem.W.Frag) (φ : List Addr) (H : Hp) (σ : St) (e : Vs) : Prop where
  len : σ.length = e.length
  at_ : ∀ (i : Nat) (d : D), (e[i]? : Option (Option D)) = some (some d) → ∃ v, σ[i]? = some (some v) ∧ RepV K φ H d v
structure Good (K : PySem.W.Frag) (φ : List Addr) (σ : St) (H : Hp) (e : Vs) (S : Store) : Prop where
  env : EnvOk K φ H σ e
  st : StOk K φ H S
theorem EnvOk.mono {K : PySem.W.Frag} {φ φ' : List Addr} {H H' : Hp} {σ : St} {e : Vs} (x : EnvOk K φ H σ e) (p : φ <+: φ') (k : Keep H H') : EnvOk K φ' H' σ e :=
  ⟨x.len, fun i d h => by
    obtain ⟨v, h1, r⟩ := x.at_ i d h
    exact ⟨v, h1, r.mono p k⟩⟩
theorem EnvOk.set {K : PySem.W.Frag} {φ : List Addr} {H : Hp} {σ : St} {e : Vs} (x : EnvOk K φ H σ e) {d : D} {v : V} (r : RepV K φ H d v) (i : Nat) : EnvOk K φ H (σ.set i (some v)) (e.set i (some d)) := by
  refine ⟨by rw [List.length_set, List.length_set]; exact x.len, fun j d' h => ?_⟩
  rw [List.getElem?_set] at h ⊢
  split at h
  · rename_i q
    rw [if_pos q]
    split at h
    · rename_i q2
      cases h
      rw [if_pos (by rw [x.len]; exact q2)]
      exact ⟨v, rfl, r⟩
    · cases h
  · rename_i q
    rw [if_neg q]
    exact x.at_ j d' h
/-- a local name is forgotten -/
theorem EnvOk.wipe {K : PySem.W.Frag} {φ : List Addr} {H : Hp} {σ : St} {e : Vs} (x : EnvOk K φ H σ e) (o : Option V) (i : Nat) : EnvOk K φ H (σ.set i o) (e.set i none) := by
  refine ⟨by rw [List.length_set, List.length_set]; exact x.len, fun j d' h => ?_⟩
  rw [List.getElem?_set] at h ⊢
  split at h
  · split at h <;> cases h
  · rename_i q
    rw [if_neg q]
    exact x.at_ j d' h

abbrev Wish := List Addr → St → Hp → Vs → Store → Exn → Prop
def noExc : Wish := fun _ _ _ _ _ _ => False
def post {α β : Type} (Rel : List Addr → Hp → α → β → Prop) (K : PySem.W.Frag) (W : Wish) (φ : List Addr) (σ : St) (H : Hp) (e : Vs) (Q : β → Hp → Prop) : R α → Prop
  | .ok d S' => ∀ φ' H' v, φ <+: φ' → Keep H H' → StOk K φ' H' S' → Rel φ' H' d v → Q v H'
  | .exc x S' => ∀ φ' H', φ <+: φ' → Keep H H' → Good K φ' σ H' e S' → W φ' σ H' e S' x
  | .bad => False
def rdG {α β : Type} (Rel : List Addr → Hp → α → β → Prop) (K : PySem.W.Frag) (W : Wish) (m : Vs → Store → R α) : St → Hp → (β → Hp → Prop) → Prop :=
  fun σ H Q => ∃ φ e S, Good K φ σ H e S ∧ post Rel K W φ σ H e Q (m e S)
abbrev rd (K : PySem.W.Frag) (W : Wish) (m : ME) : TE := rdG (RepV K) K W m
abbrev rdL (K : PySem.W.Frag) (W : Wish) (m : ML) : TA := rdG (RepL K) K W m
abbrev RelB : List Addr → Hp → Bool → Bool → Prop := fun _ _ a b => b = a
abbrev rdB (K : PySem.W.Frag) (W : Wish) (m : MB) : TT := rdG RelB K W m

section
variable {α β γ δ : Type} {RA : List Addr → Hp → α → β → Prop} {RC : List Addr → Hp → γ → δ → Prop} {K : PySem.W.Frag} {W : Wish} {φ φ1 : List Addr} {σ : St} {H H1 : Hp} {e : Vs} {S : Store}
theorem post.mono {Q : β → Hp → Prop} (p : φ <+: φ1) (k : Keep H H1) : ∀ {r : R α}, post RA K W φ σ H e Q r → post RA K W φ1 σ H1 e Q r
  | .ok d S', h => fun φ' H' v p' k' => h φ' H' v (p.trans p') (k.trans k')
  | .exc x S', h => fun φ' H' p' k' => h φ' H' (p.trans p') (k.trans k')
  | .bad, h => h
theorem Good.mono (g : Good K φ σ H e S) (p : φ <+: φ1) (k : Keep H H1) {S1 : Store} (st : StOk K φ1 H1 S1) : Good K φ1 σ H1 e S1 := ⟨g.env.mono p k, st⟩
theorem bindG {m : Vs → Store → R α} {k : α → Store → R γ} {Q : δ → Hp → Prop} {Q' : β → Hp → Prop} (g : Good K φ σ H e S) (h : post RC K W φ σ H e Q ((m e S).bind k))
    (nx : ∀ d S1 φ1 H1 v, φ <+: φ1 → Keep H H1 → Good K φ1 σ H1 e S1 → RA φ1 H1 d v → post RC K W φ1 σ H1 e Q (k d S1) → Q' v H1) : rdG RA K W m σ H Q' := by
  refine ⟨φ, e, S, g, ?_⟩
  cases hm : m e S with
  | ok d S1 =>
    rw [hm] at h
    exact fun φ' H' v p k' st r => nx d S1 φ' H' v p k' (g.mono p k' st) r (post.mono p k' h)
  | exc x S1 =>
    rw [hm] at h
    exact h
  | bad =>
    rw [hm] at h
    exact h
/-- what is given back at once -/
theorem post.give {Q : β → Hp → Prop} {d : α} {v : β} (h : post RA K W φ σ H e Q (.ok d S)) (st : StOk K φ H S) (r : RA φ H d v) : Q v H := h φ H v (List.prefix_refl φ) (Keep.refl H) st r
theorem post.same {Q : β → Hp → Prop} {r r' : R α} (h : post RA K W φ σ H e Q r) (q : r = r') : post RA K W φ σ H e Q r' := q ▸ h
end

section
variable {X : Cx} {W : Wish}
theorem pe_imp {e : Expr} {t t' : TE} (h : PE X e t) (i : ∀ σ H Q, t' σ H Q → t σ H Q) : PE X e t' := ⟨fun pins s σ H Q I q => h.run pins s σ H Q I (i σ H Q q)⟩
theorem pt_imp {e : Expr} {t t' : TT} (h : PT X e t) (i : ∀ σ H Q, t' σ H Q → t σ H Q) : PT X e t' := ⟨fun pins s σ H Q I q => h.run pins s σ H Q I (i σ H Q q)⟩
theorem pw_imp {e : Expr} {t t' : TT} (h : PW X e t) (i : ∀ σ H Q, t' σ H Q → t σ H Q) : PW X e t' := ⟨fun w pins s σ H Q I q => h.run w pins s σ H Q I (i σ H Q q)⟩
theorem pa_imp {e : List Expr} {t t' : TA} (h : PA X e t) (i : ∀ σ H Q, t' σ H Q → t σ H Q) : PA X e t' := ⟨fun w pins s σ H Q I q => h.run w pins s σ H Q I (i σ H Q q)⟩
theorem ps_imp {e : Stmt} {t t' : TS} (h : PS X e t) (i : ∀ D σ H, t' D σ H → t D σ H) : PS X e t' := ⟨fun pins s σ H D I q => h.run pins s σ H D I (i D σ H q)⟩

/-! ### names, constants -/
def vr (i : Nat) : ME := fun e S => match e[i]? with
  | some (some d) => .ok d S
  | _ => .bad
def cst (d : D) : ME := fun _ S => .ok d S
theorem q_var (i : Nat) {x : Str} {pos : Pos} (hN : X.N[i]? = some x := by rfl) (hv : Vis X.env.scope x := by first | exact Or.inl rfl | exact Or.inr (Or.inl rfl) | exact Or.inr (Or.inr rfl)) (hd : (x == ("__debug__" : Str)) = false := by decide)
    (hcd : (x == ("__classdict__" : Str)) = false := by decide) : PE X (.Name x pos) (rd X.K W (vr i)) := by
  refine pe_imp (pe_var hN hv hd hcd) fun σ H Q h => ?_
  obtain ⟨φ, e, S, g, p⟩ := h
  unfold vr at p
  split at p
  · rename_i d hd
    obtain ⟨v, h1, r⟩ := g.env.at_ i d hd
    exact ⟨v, h1, p.give g.st r⟩
  · exact p.elim
theorem rd_cst {d : D} {v : V} {σ : St} {H : Hp} {Q : VK} (h : rd X.K W (cst d) σ H Q) (r : ∀ φ, RepV X.K φ H d v) : tC v σ H Q := by
  obtain ⟨φ, e, S, g, p⟩ := h
  exact p.give g.st (r φ)
theorem q_int {i j pos} : PE X (.Constant (.int i) j pos) (rd X.K W (cst (.int i))) := pe_imp pe_int fun _ _ _ h => rd_cst h fun _ => RepV.mkInt
theorem q_bool {b j pos} : PE X (.Constant (.bool b) j pos) (rd X.K W (cst (.bl b))) := pe_imp pe_bl fun _ _ _ h => rd_cst h fun _ => RepV.mkBl
theorem q_none {j pos} : PE X (.Constant .none j pos) (rd X.K W (cst .non)) := pe_imp pe_non fun _ _ _ h => rd_cst h fun _ => RepV.mkNon
theorem q_str {x j pos} : PE X (.Constant (.str x) j pos) (rd X.K W (cst (.str x))) := pe_imp pe_str fun _ _ _ h => rd_cst h fun _ => RepV.mkStr
theorem q_gint {x : Str} {i : Int} {t : Tok} {pos : Pos} (hg : Gl X x) (hm : X.mg x = some (.int i t)) (hd : (x == ("__debug__" : Str)) = false := by decide) : PE X (.Name x pos) (rd X.K W (cst (.int i))) :=
  pe_imp (pe_glob hg hm (v := .int i) ⟨t, rfl⟩ hd) fun _ _ _ h => rd_cst h fun _ => RepV.mkInt
theorem q_ty {x : Str} {T : String} {pos : Pos} (hg : Gl X x) (hm : X.mg x = none) (hv : bootBuiltins x = some (.type T)) (hn : x ≠ "__name__" := by decide) (hd : (x == ("__debug__" : Str)) = false := by decide) : PE X (.Name x pos) (rd X.K W (cst (.ty T))) :=
  pe_imp (pe_bltn hg hm hv (v := .ty T) rfl hn hd) fun _ _ _ h => rd_cst h fun _ => RepV.mkTy

/-! ### two values, one operation -/
abbrev F2 := D → D → Store → R D
def Rule2 (K : PySem.W.Frag) (f : F2) (r : V → V → Hp → VK → Prop) : Prop :=
  ∀ {W : Wish} {φ : List Addr} {σ : St} {H : Hp} {e : Vs} {S : Store} {Q : VK} {x y : V} {dx dy : D}, StOk K φ H S → RepV K φ H dx x → RepV K φ H dy y → post (RepV K) K W φ σ H e Q (f dx dy S) → r x y H Q
def bin (f : F2) (a b : ME) : ME := fun e S => (a e S).bind fun x S1 => (b e S1).bind fun y S2 => f x y S2
variable {a b : Expr} {ma mb : ME}
theorem rd_bin {K : PySem.W.Frag} {f : F2} {r : V → V → Hp → VK → Prop} (hr : Rule2 K f r) {σ : St} {H : Hp} {Q : VK} (h : rd K W (bin f ma mb) σ H Q) : tOp r (rd K W ma) (rd K W mb) σ H Q := by
  obtain ⟨φ, e, S, g, p⟩ := h
  exact bindG g p fun dx S1 φ1 H1 x e1 k1 g1 rx p1 => bindG g1 p1 fun dy S2 φ2 H2 y e2 k2 g2 ry p2 => hr g2.st (rx.mono e2 k2) ry p2
theorem q_op {f : F2} {op : Operator} {pos : Pos} {r : V → V → Hp → VK → Prop} (ho : OpR X (binaryOp op) r) (hr : Rule2 X.K f r) (ha : PE X a (rd X.K W ma)) (hb : PE X b (rd X.K W mb)) :
    PE X (.BinOp a op b pos) (rd X.K W (bin f ma mb)) := pe_imp (pe_op ho ha hb) fun _ _ _ h => rd_bin hr h
theorem q_cmp {f : F2} {op : CmpOp} {pos : Pos} {r : V → V → Hp → VK → Prop} (ho : OpR X (compareOp op) r) (hr : Rule2 X.K f r) (ha : PE X a (rd X.K W ma)) (hb : PE X b (rd X.K W mb)) (hm : behindInMarks op b = false) :
    PE X (.Compare a [op] [b] pos) (rd X.K W (bin f ma mb)) := pe_imp (pe_cmpR ho ha hb hm) fun _ _ _ h => rd_bin hr h
end
end Mi

namespace Mi
open PySem PySem.Spec L2

theorem lim_ok {n : Nat} (h : n ≤ 1000000) : n ≤ sizeLine := Nat.le_trans h (by decide)
theorem lim_lt {n : Nat} (h : n ≤ 1000000) : n < sizeLine := Nat.lt_of_le_of_lt h (by decide)
section
variable {K : PySem.W.Frag} {W : Wish} {φ : List Addr} {σ : St} {H : Hp} {e : Vs} {S : Store} {Q : VK}
/-- a new cell -/
theorem post.push {c : Cell} {o : HO} (p : post (RepV K) K W φ σ H e Q (.ok (.ref S.length) (S ++ [c]))) (st : StOk K φ H S) {q : Addr} (hq : H q = none) (hc : CellOk K (φ ++ [q]) (upd H q o) q c) : Q (.ref q) (upd H q o) :=
  p (φ ++ [q]) (upd H q o) (.ref q) (pre_push q) (Keep.new hq) (st.push hq hc) (RepV.mkRef (st.at_new q))
/-- a new tuple -/
theorem post.tup {ds : List D} {xs : List V} (p : post (RepV K) K W φ σ H e Q (.ok (.tup ds) S)) (st : StOk K φ H S) {q : Addr} (hq : H q = none) (r : RepL K φ H ds xs) : Q (.ref q) (upd H q (.tup xs)) :=
  p φ (upd H q (.tup xs)) (.ref q) (List.prefix_refl φ) (Keep.new hq) (st.new hq) (RepV.mkTup (.inl (.inl upd_same)) (r.mono (List.prefix_refl φ) (Keep.new hq)))
theorem cell_lst {ds : List D} {xs : List V} {q : Addr} (hq : H q = none) (r : RepL K φ H ds xs) : CellOk K (φ ++ [q]) (upd H q (.lst xs)) q (.lst ds) := ⟨xs, upd_same, r.mono (pre_push q) (Keep.new hq)⟩
theorem StOk.lst {n : Nat} {ds : List D} (st : StOk K φ H S) {a : Addr} (ha : φ[n]? = some a) (h : (S[n]? : Option Cell) = some (.lst ds)) : ∃ xs, H a = some (.lst xs) ∧ RepL K φ H ds xs := by
  obtain ⟨b, h1, x⟩ := st.at_ n _ h
  rw [ha] at h1; cases h1
  exact x
end

/-! ### + - * // % ** -/
def addD : F2 := fun x y S => match x, y with
  | .int i, .int j => .ok (.int (i + j)) S
  | .str i, .str j => if i.length + j.length ≤ 1000000 then .ok (.str (i ++ j)) S else .bad
  | .tup a, .tup b => if a.length + b.length ≤ 1000000 then .ok (.tup (a ++ b)) S else .bad
  | .ref n, .ref m => match S[n]?, S[m]? with
    | some (.lst a), some (.lst b) => if a.length + b.length ≤ 1000000 then .ok (.ref S.length) (S ++ [.lst (a ++ b)]) else .bad
    | _, _ => .bad
  | _, _ => .bad
def rAddA (K : PySem.W.Frag) : V → V → Hp → VK → Prop := fun x y H Q =>
  (fun x y H Q => rI0 (fun i j => .int (i + j)) x y H Q ∨ (fun x y H Q => rCatA K x y H Q ∨ (fun x y H Q => rCat x y H Q ∨ (fun x y H Q => ∃ i j, x = V.str i ∧ y = V.str j ∧ i.length + j.length ≤ sizeLine ∧ Q (.str (i ++ j)) H) x y H Q) x y H Q) x y H Q) x y H Q
theorem op_addA {X : Cx} : OpR X (binaryOp .Add) (rAddA X.K) := op_add.or (op_catA.or (op_cat.or op_add_str))
theorem add_rule {K : PySem.W.Frag} : Rule2 K addD (rAddA K) := by
  intro W φ σ H e S Q x y dx dy st rx ry p
  unfold addD at p
  split at p
  · exact .inl ⟨_, _, rx.int, ry.int, p.give st .mkInt⟩
  · split at p
    · rename_i i j hl
      exact .inr (.inr (.inr ⟨_, _, rx.str, ry.str, lim_ok hl, p.give st .mkStr⟩))
    · exact p.elim
  · split at p
    · rename_i da db hl
      obtain ⟨a, xs, rfl, s1, r1⟩ := rx.tup
      obtain ⟨b, ys, rfl, s2, r2⟩ := ry.tup
      refine .inr (.inl ⟨a, b, xs, ys, rfl, rfl, s1, s2, by rw [r1.len, r2.len]; exact lim_ok hl, fun z => ?_, fun z1 z => ?_, fun z1 z2 q hq => ?_⟩)
      · refine p.give st ?_
        subst z
        have e0 : da = [] := by cases da with | nil => rfl | cons _ _ => exact absurd r1.len (by simp)
        subst e0
        exact .mkTup s2 r2
      · refine p.give st ?_
        subst z
        have e0 : db = [] := by cases db with | nil => rfl | cons _ _ => exact absurd r2.len (by simp)
        subst e0
        rw [List.append_nil]
        exact .mkTup s1 r1
      · exact p.tup st hq (r1.append r2)
    · exact p.elim
  · rename_i n m
    split at p
    · rename_i da db hn hm
      split at p
      · rename_i hl
        obtain ⟨a, ha, rfl⟩ := rx.ref
        obtain ⟨b, hb, rfl⟩ := ry.ref
        obtain ⟨xs, h1, r1⟩ := st.lst ha hn
        obtain ⟨ys, h2, r2⟩ := st.lst hb hm
        exact .inr (.inr (.inl ⟨a, b, xs, ys, rfl, rfl, h1, h2, by rw [r1.len, r2.len]; exact lim_ok hl, fun q hq => p.push st hq (cell_lst hq (r1.append r2))⟩))
      · exact p.elim
    · exact p.elim
  · exact p.elim
def subD : F2 := fun x y S => match x, y with
  | .int i, .int j => .ok (.int (i - j)) S
  | _, _ => .bad
theorem sub_rule {K : PySem.W.Frag} : Rule2 K subD (rI0 fun i j => .int (i - j)) := by
  intro W φ σ H e S Q x y dx dy st rx ry p
  unfold subD at p
  split at p
  · exact ⟨_, _, rx.int, ry.int, p.give st .mkInt⟩
  · exact p.elim
/-- two ints by their rule -/
def intD (c : Int → Int → Bool) (g : Int → Int → D) : F2 := fun x y S => match x, y with
  | .int i, .int j => if c i j then .ok (g i j) S else .bad
  | _, _ => .bad
theorem int_rule {K : PySem.W.Frag} {C : Int → Int → Prop} {c : Int → Int → Bool} {g : Int → Int → D} {v : Int → Int → V} (hc : ∀ i j, c i j = true → C i j) (hv : ∀ φ H i j, RepV K φ H (g i j) (v i j)) : Rule2 K (intD c g) (rI C v) := by
  intro W φ σ H e S Q x y dx dy st rx ry p
  unfold intD at p
  split at p
  · split at p
    · rename_i i j h
      exact ⟨_, _, rx.int, ry.int, hc _ _ h, p.give st (hv _ _ _ _)⟩
    · exact p.elim
  · exact p.elim
abbrev fdivD : F2 := intD (fun _ j => decide (0 < j) && decide (j.natAbs.log2 < 9000)) fun i j => .int (i / j)
theorem fdiv_rule {K : PySem.W.Frag} : Rule2 K fdivD (rI CDivW fun i j => .int (i / j)) := int_rule (fun i j h => by
  rw [Bool.and_eq_true] at h
  exact ⟨of_decide_eq_true h.1, of_decide_eq_true h.2⟩) fun _ _ _ _ => .mkInt
abbrev modD : F2 := intD (fun _ j => decide (0 < j)) fun i j => .int (i % j)
theorem mod_rule {K : PySem.W.Frag} : Rule2 K modD (rI (fun _ j => 0 < j) fun i j => .int (i % j)) := int_rule (fun i j h => of_decide_eq_true h) fun _ _ _ _ => .mkInt
abbrev ltD : F2 := intD (fun _ _ => true) fun i j => .bl (decide (i < j))
abbrev leD : F2 := intD (fun _ _ => true) fun i j => .bl (decide (i ≤ j))
abbrev gtD : F2 := intD (fun _ _ => true) fun i j => .bl (decide (j < i))
abbrev geD : F2 := intD (fun _ _ => true) fun i j => .bl (decide (j ≤ i))
theorem rI0_rule {K : PySem.W.Frag} {g : Int → Int → D} {v : Int → Int → V} (hv : ∀ φ H i j, RepV K φ H (g i j) (v i j)) : Rule2 K (intD (fun _ _ => true) g) (rI0 v) := by
  intro W φ σ H e S Q x y dx dy st rx ry p
  unfold intD at p
  split at p
  · rw [if_pos rfl] at p
    exact ⟨_, _, rx.int, ry.int, p.give st (hv _ _ _ _)⟩
  · exact p.elim
section
variable {X : Cx} {W : Wish} {a b : Expr} {ma mb : ME} {pos : Pos}
theorem q_add (ha : PE X a (rd X.K W ma)) (hb : PE X b (rd X.K W mb)) : PE X (.BinOp a .Add b pos) (rd X.K W (bin addD ma mb)) := q_op op_addA add_rule ha hb
theorem q_sub (ha : PE X a (rd X.K W ma)) (hb : PE X b (rd X.K W mb)) : PE X (.BinOp a .Sub b pos) (rd X.K W (bin subD ma mb)) := q_op op_sub sub_rule ha hb
theorem q_fdiv (ha : PE X a (rd X.K W ma)) (hb : PE X b (rd X.K W mb)) : PE X (.BinOp a .FloorDiv b pos) (rd X.K W (bin fdivD ma mb)) := q_op op_fdivW fdiv_rule ha hb
theorem q_mod (ha : PE X a (rd X.K W ma)) (hb : PE X b (rd X.K W mb)) : PE X (.BinOp a .Mod b pos) (rd X.K W (bin modD ma mb)) := q_op op_mod mod_rule ha hb
theorem q_lt (ha : PE X a (rd X.K W ma)) (hb : PE X b (rd X.K W mb)) : PE X (.Compare a [.Lt] [b] pos) (rd X.K W (bin ltD ma mb)) := q_cmp op_lt (rI0_rule fun _ _ _ _ => .mkBl) ha hb (nomark _)
end
end Mi

namespace Mi
open PySem PySem.Spec PyProof.Rows L2

/-! ### a tuple once, or not at all -/
theorem tup_once (l : Addr) (items : Array Value) (n : Nat) (dd : Option Addr) (sl : Array (Option Value)) (u : Tok) :
    Meets (Builtin.«tuple.__mul__» ⟨[.ref l, .int 1 u], []⟩) (fun _ R s => s.heap.get? l = some { cls := .type "tuple", dict := dd, data := .seq items n, slots := sl } ∧
      R (.ok (.ret (Value.ref l))) s) :=
  .of_wp fun prog w A R s h => by
    obtain ⟨hp, g, d, tk, os⟩ := s
    obtain ⟨hl, h⟩ := h
    have f1 := AutoSeq1.idx_int
    wp_walk using wpAny_loadPart' hl
    repeat (first
      | (refine wpAny_ite_true (by simp) ?_; wp_walk using wpAny_loadPart' hl)
      | (refine wpAny_ite_false (by simp) ?_; wp_walk using wpAny_loadPart' hl))
    exact ⟨_, rfl, h⟩
theorem tup_never (l : Addr) (items : Array Value) (n : Nat) (dd : Option Addr) (sl : Array (Option Value)) (x : Int) (u : Tok) (c0 : (decide (x < -(2 ^ 63)) || decide (x ≥ 2 ^ 63)) = false) (c1 : (items.isEmpty || x == 1) = false) (c2 : (decide (x ≤ 0) || items.isEmpty) = true) :
    Meets (Builtin.«tuple.__mul__» ⟨[.ref l, .int x u], []⟩) (fun _ R s => s.heap.get? l = some { cls := .type "tuple", dict := dd, data := .seq items n, slots := sl } ∧
      R (.ok (.ret (Value.ref s.heap.objs.size))) { s with heap := s.heap.push { cls := Value.type "tuple", data := Data.seq #[] }, toks := s.toks }) :=
  .of_wp fun prog w A R s h => by
    obtain ⟨hp, g, d, tk, os⟩ := s
    obtain ⟨hl, h⟩ := h
    have f1 := AutoSeq1.idx_int
    wp_walk using wpAny_loadPart' hl
    repeat (first
      | (refine wpAny_ite_false (decide_eq_false (by rw [c0]; exact Bool.false_ne_true)) ?_; wp_walk using wpAny_loadPart' hl)
      | (refine wpAny_ite_false (decide_eq_false (by rw [c1]; exact Bool.false_ne_true)) ?_; wp_walk using wpAny_loadPart' hl)
      | (refine wpAny_ite_true (decide_eq_true (by rw [c2])) ?_; wp_walk using wpAny_loadPart' hl))
    exact ⟨_, rfl, h⟩

def rRepT1 (K : PySem.W.Frag) : V → V → Hp → VK → Prop := fun x y H Q => ∃ l xs, x = .ref l ∧ y = .int 1 ∧ SqT K H l xs ∧ Q (.ref l) H
def rRepT0 (K : PySem.W.Frag) : V → V → Hp → VK → Prop := fun x y H Q => ∃ l k xs, x = .ref l ∧ y = .int k ∧ SqT K H l xs ∧ xs ≠ [] ∧ -(2 ^ 63) ≤ k ∧ k ≤ 0 ∧ ∀ p, H p = none → Q (.ref p) (upd H p (.tup []))
section
variable {X : Cx}
theorem op_repT1 : OpR X (binaryOp .Mult) (rRepT1 X.K) := by
  intro pins s σ H x y v u Q I rx ry h
  obtain ⟨l, xs, rfl, rfl, hT, q⟩ := h
  cases rx
  obtain ⟨t, rfl⟩ := ry
  obtain ⟨its, r, ⟨⟨cls, dd, data, sl⟩, ho, hc, n, hd⟩, hs⟩ := I.tuple hT
  simp only at hc hd
  subst hc hd
  refine wpAny_binaryOp_repeat_ref (T := "tuple") (U := "int") (by decide) ⟨_, ho, rfl⟩ (fun s' => typeIs_int s' 1 t) noFill_tuple_mul F.fills_int_mul F.slot_int_rmul repeat_tuple F.slot_int_index.lookup
    (call_meets F.slot_int_rmul (typeIs_int s 1 t) F.entry_int_rmul (F.args_int_rmul_2 _ _) (int_rmul_tuple 1 t l its.toArray n dd sl)
      ⟨ho, rfl, ⟨_, ho, rfl⟩, call_meets F.slot_tuple_mul ⟨_, ho, rfl⟩ F.entry_tuple_mul (F.args_tuple_mul_2 _ _) (tup_once l its.toArray n dd sl t) ⟨ho, ?_⟩⟩)
  exact ⟨.ref l, H, I, rfl, q⟩
theorem op_repT0 : OpR X (binaryOp .Mult) (rRepT0 X.K) := by
  intro pins s σ H x y v u Q I rx ry h
  obtain ⟨l, k, xs, rfl, rfl, hT, hne, h1, h2, q⟩ := h
  cases rx
  obtain ⟨t, rfl⟩ := ry
  obtain ⟨its, r, ⟨⟨cls, dd, data, sl⟩, ho, hc, n, hd⟩, hs⟩ := I.tuple hT
  simp only at hc hd
  subst hc hd
  have hn : its ≠ [] := fun e => hne (by
    have := r.length
    rw [e] at this
    exact List.eq_nil_of_length_eq_zero this)
  have hi : its.toArray.isEmpty = false := by
    cases its with
    | nil => exact absurd rfl hn
    | cons a b => rfl
  have c0 : (decide (k < -(2 ^ 63)) || decide (k ≥ 2 ^ 63)) = false := by
    rw [decide_eq_false (by omega), decide_eq_false (by omega)] <;> rfl
  have c1 : (its.toArray.isEmpty || k == 1) = false := by
    rw [hi, Bool.false_or]
    exact beq_eq_false_iff_ne.mpr (by omega)
  have c2 : (decide (k ≤ 0) || its.toArray.isEmpty) = true := by
    rw [decide_eq_true h2, Bool.true_or]
  refine wpAny_binaryOp_repeat_ref (T := "tuple") (U := "int") (by decide) ⟨_, ho, rfl⟩ (fun s' => typeIs_int s' k t) noFill_tuple_mul F.fills_int_mul F.slot_int_rmul repeat_tuple F.slot_int_index.lookup
    (call_meets F.slot_int_rmul (typeIs_int s k t) F.entry_int_rmul (F.args_int_rmul_2 _ _) (int_rmul_tuple k t l its.toArray n dd sl)
      ⟨ho, rfl, ⟨_, ho, rfl⟩, call_meets F.slot_tuple_mul ⟨_, ho, rfl⟩ F.entry_tuple_mul (F.args_tuple_mul_2 _ _) (tup_never l its.toArray n dd sl k t c0 c1 c2) ⟨ho, ?_⟩⟩)
  refine ⟨.ref s.heap.objs.size, _, I.laid (t' := s.toks) (o := .tup []) (fun b ob q => Heap.get?_push_of_some _ q) (Nat.le_refl _) ?_, rfl, q _ (I.hok.fresh (Nat.le_refl _))⟩
  exact ⟨Nat.zero_le _, [], .nil, IsTup.new _ _⟩
end

/-! ### * -/
def mulD : F2 := fun x y S => match x, y with
  | .int i, .int j => if i.natAbs.log2 < 63 ∨ j.natAbs.log2 < 63 then .ok (.int (i * j)) S else if i.natAbs.log2 + j.natAbs.log2 < 1000000 then .ok (.int (i * j)) S else .bad
  | .tup a, .int k => if a.length ≤ 1000 ∧ k ≤ 1000 ∧ -(2 ^ 63) ≤ k ∧ a.isEmpty = false then .ok (.tup (List.replicate k.toNat a).flatten) S else .bad
  | .ref n, .int k => match S[n]? with
    | some (.lst a) => if a.length * k.toNat ≤ 1000000 ∧ k ≤ 1000000 ∧ -(2 ^ 63) ≤ k then .ok (.ref S.length) (S ++ [.lst (List.replicate k.toNat a).flatten]) else .bad
    | _ => .bad
  | _, _ => .bad
def rMulA (K : PySem.W.Frag) : V → V → Hp → VK → Prop := fun x y H Q => rI CMul (fun i j => .int (i * j)) x y H Q ∨ (fun x y H Q => rI CMulW (fun i j => .int (i * j)) x y H Q ∨ (fun x y H Q => rRepT K x y H Q ∨ (fun x y H Q => rRepT1 K x y H Q ∨ (fun x y H Q => rRepT0 K x y H Q ∨ rRep x y H Q) x y H Q) x y H Q) x y H Q) x y H Q
theorem op_mulA {X : Cx} : OpR X (binaryOp .Mult) (rMulA X.K) := op_mul.or (op_mulW.or (op_repT.or (op_repT1.or (op_repT0.or op_rep))))
end Mi

namespace Mi
open PySem PySem.Spec PyProof.Rows L2

theorem RepL.empty {K : PySem.W.Frag} {φ : List Addr} {H : Hp} {ds : List D} (h : RepL K φ H ds []) : ds = [] := by
  cases ds with
  | nil => rfl
  | cons _ _ => exact absurd h.len (by simp)
theorem small_one {i : Int} (h : i.natAbs.log2 < 63) : -(2 ^ 64) < i ∧ i < 2 ^ 64 := by
  have h1 : i.natAbs < 2 ^ 63 := by
    by_cases z : i.natAbs = 0
    · rw [z]; decide
    · exact (Nat.log2_lt z).mp h
  have h2 : (2 : Nat) ^ 63 = 9223372036854775808 := rfl
  have h3 : (2 : Int) ^ 64 = 18446744073709551616 := rfl
  rw [h2] at h1
  rw [h3]
  omega
theorem small_mul {i j : Int} (h : i.natAbs.log2 < 63 ∨ j.natAbs.log2 < 63) : CMul i j := h.imp small_one small_one
theorem mul_rule {K : PySem.W.Frag} : Rule2 K mulD (rMulA K) := by
  intro W φ σ H e S Q x y dx dy st rx ry p
  unfold mulD at p
  split at p
  · split at p
    · rename_i i j h
      exact .inl ⟨_, _, rx.int, ry.int, small_mul h, p.give st .mkInt⟩
    · split at p
      · rename_i i j _ h
        exact .inr (.inl ⟨_, _, rx.int, ry.int, h, p.give st .mkInt⟩)
      · exact p.elim
  · split at p
    · rename_i a k h
      obtain ⟨h1, h2, h3, h4⟩ := h
      obtain ⟨l, xs, rfl, s1, r1⟩ := rx.tup
      cases ry.int
      have hne : xs ≠ [] := fun z => by
        subst z
        rw [r1.empty] at h4
        cases h4
      by_cases k1 : k = 1
      · subst k1
        have p2 := post.same p (show _ = R.ok (D.tup a) S by simp)
        exact .inr (.inr (.inr (.inl ⟨l, xs, rfl, rfl, s1, p2.give st (.mkTup s1 r1)⟩)))
      · by_cases k0 : k ≤ 0
        · have e0 : k.toNat = 0 := by omega
          rw [e0] at p
          exact .inr (.inr (.inr (.inr (.inl ⟨l, k, xs, rfl, rfl, s1, hne, h3, k0, fun q hq => p.tup st hq .nil⟩))))
        · exact .inr (.inr (.inl ⟨l, k, xs, rfl, rfl, s1, hne, by omega, h2, by rw [r1.len]; exact h1, fun q hq => p.tup st hq (r1.rep _)⟩))
    · exact p.elim
  · rename_i n k
    split at p
    · rename_i a hn
      split at p
      · rename_i h
        obtain ⟨h1, h2, h3⟩ := h
        obtain ⟨l, hl, rfl⟩ := rx.ref
        cases ry.int
        obtain ⟨xs, e1, r1⟩ := st.lst hl hn
        exact .inr (.inr (.inr (.inr (.inr ⟨l, k, xs, rfl, rfl, e1, h3, by omega, by rw [r1.len]; exact lim_ok h1, fun q hq => p.push st hq (cell_lst hq (r1.rep _))⟩))))
      · exact p.elim
    · exact p.elim
  · exact p.elim
abbrev powD : F2 := intD (fun i j => decide (0 ≤ j) && decide ((Builtin.Int.intBits i : Int) * j ≤ 2 ^ 27)) fun i j => .int (i ^ j.toNat)
def CPowW (i j : Int) : Prop := 0 ≤ j ∧ (Builtin.Int.intBits i : Int) * j ≤ 2 ^ 27
theorem op_powW {X : Cx} : OpR X (binaryOp .Pow) (rI CPowW fun i j => .int (i ^ j.toNat)) := opI fun _ _ _ _ _ _ _ hc q => pow_int hc.1 hc.2 q
theorem pow_rule {K : PySem.W.Frag} : Rule2 K powD (rI CPowW fun i j => .int (i ^ j.toNat)) := int_rule (fun i j h => by
  rw [Bool.and_eq_true] at h
  exact ⟨of_decide_eq_true h.1, of_decide_eq_true h.2⟩) fun _ _ _ _ => .mkInt

/-! ### == and !=: data -/
def optAll {α : Type} : List (Option α) → Option (List α)
  | [] => some []
  | none :: _ => none
  | some a :: r => match optAll r with
    | some as => some (a :: as)
    | none => none
def toP (S : Store) : Nat → D → Option PyData
  | 0, _ => none
  | _ + 1, .non => some .none
  | _ + 1, .bl b => some (.bool b)
  | _ + 1, .int i => some (.int i)
  | _ + 1, .str x => some (.str x)
  | _ + 1, .ty _ => none
  | k + 1, .tup ds => (optAll (ds.map (toP S k))).map .tuple
  | k + 1, .rol ds => (optAll (ds.map (toP S k))).map .list
  | k + 1, .ref n => match S[n]? with
    | some (.lst ds) => (optAll (ds.map (toP S k))).map .list
    | _ => none
theorem toP_ok {K : PySem.W.Frag} {φ : List Addr} {H : Hp} {S : Store} (st : StOk K φ H S) : ∀ (k : Nat) (d : D) (v : V) (p : PyData), RepV K φ H d v → toP S k d = some p → Dp K H v p := by
  intro k
  induction k with
  | zero => intro d v p _ h; cases h
  | succ k ih =>
    have all : ∀ (ds : List D) (xs : List V) (ps : List PyData), RepL K φ H ds xs → optAll (ds.map (toP S k)) = some ps → DpAll K H xs ps := by
      intro ds
      induction ds with
      | nil => intro xs ps r h; cases h; cases r.nil_inv; exact .nil
      | cons d ds ihd =>
        intro xs ps r h
        obtain ⟨v, vs, rfl, r1, t⟩ := r.cons_inv
        rw [List.map_cons] at h
        cases hd : toP S k d with
        | none => rw [hd] at h; cases h
        | some p =>
          rw [hd] at h
          unfold optAll at h
          split at h
          · rename_i as ha
            cases h
            exact .cons (ih d v p r1 hd) (ihd vs as t ha)
          · cases h
    intro d v p r h
    cases d with
    | non => cases h; cases r.non; exact .non
    | bl b => cases h; cases r.bl; exact .bl b
    | int i => cases h; cases r.int; exact .int i
    | str x => cases h; cases r.str; exact .str x
    | ty _ => cases h
    | tup ds =>
      obtain ⟨ps, h1, rfl⟩ := Option.map_eq_some_iff.mp h
      obtain ⟨a, xs, rfl, s, r1⟩ := r.tup
      exact .tup s (all ds xs ps r1 h1)
    | rol ds =>
      obtain ⟨ps, h1, rfl⟩ := Option.map_eq_some_iff.mp h
      obtain ⟨a, xs, rfl, s, r1⟩ := r.rol
      exact .lst (rolSq s) (all ds xs ps r1 h1)
    | ref n =>
      unfold toP at h
      split at h
      · rename_i ds hn
        obtain ⟨ps, h1, rfl⟩ := Option.map_eq_some_iff.mp h
        obtain ⟨a, ha, rfl⟩ := r.ref
        obtain ⟨xs, e1, r1⟩ := st.lst ha hn
        exact .lst (.of e1) (all ds xs ps r1 h1)
      · cases h
def lstOf (S : Store) : D → Option (List D)
  | .rol xs => some xs
  | .ref n => match S[n]? with
    | some (.lst xs) => some xs
    | _ => none
  | _ => none
def lenB (S : Store) (x y : D) : Option Bool := match x, y with
  | .tup xs, .tup [] => some (decide (xs.length = 0))
  | .tup [], .tup ys => some (decide (0 = ys.length))
  | x, y => match lstOf S x, lstOf S y with
    | some xs, some ys => if xs.length = ys.length then none else some false
    | _, _ => none
def eqB (S : Store) (x y : D) : Option Bool := match x, y with
  | .int i, .int j => some (decide (i = j))
  | .bl i, .bl j => some (decide (i = j))
  | .str i, .str j => some (decide (i = j))
  | .non, .non => some true
  | x, y => match lenB S x y with
    | some b => some b
    | none => match toP S 62 x, toP S 62 y with
      | some p, some q => if SeqAt.shaped p && SeqAt.shaped q then some (PyData.eqv p q) else none
      | _, _ => none
def eqD : F2 := fun x y S => match eqB S x y with
  | some b => .ok (.bl b) S
  | none => .bad
def neD : F2 := fun x y S => match eqB S x y with
  | some b => .ok (.bl (!b)) S
  | none => .bad
def LenP (K : PySem.W.Frag) (x y : V) (H : Hp) (b : Bool) : Prop := ∃ a c xs ys, x = .ref a ∧ y = .ref c ∧ ((SqT K H a xs ∧ SqT K H c ys ∧ (xs = [] ∨ ys = [])) ∨ (SqL K H a xs ∧ SqL K H c ys ∧ xs.length ≠ ys.length)) ∧ b = decide (xs.length = ys.length)
theorem lstOf_ok {K : PySem.W.Frag} {φ : List Addr} {H : Hp} {S : Store} {x : V} {dx : D} {xs : List D} (st : StOk K φ H S) (rx : RepV K φ H dx x) (h : lstOf S dx = some xs) : ∃ a vs, x = .ref a ∧ SqL K H a vs ∧ vs.length = xs.length := by
  unfold lstOf at h
  split at h
  · cases h
    obtain ⟨a, vs, rfl, s, r⟩ := rx.rol
    exact ⟨a, vs, rfl, rolSq s, r.len⟩
  · rename_i n
    split at h
    · rename_i ds hn
      cases h
      obtain ⟨a, ha, rfl⟩ := rx.ref
      obtain ⟨vs, e1, r⟩ := st.lst ha hn
      exact ⟨a, vs, rfl, .of e1, r.len⟩
    · cases h
  · cases h
theorem lenB_ok {K : PySem.W.Frag} {φ : List Addr} {H : Hp} {S : Store} {x y : V} {dx dy : D} {b : Bool} (st : StOk K φ H S) (rx : RepV K φ H dx x) (ry : RepV K φ H dy y) (h : lenB S dx dy = some b) : LenP K x y H b := by
  unfold lenB at h
  split at h
  · obtain ⟨a, vs, rfl, s, r⟩ := rx.tup
    obtain ⟨c, ws, rfl, s', r'⟩ := ry.tup
    cases r'.nil_inv
    cases h
    exact ⟨a, c, vs, [], rfl, rfl, .inl ⟨s, s', .inr rfl⟩, by rw [r.len]; rfl⟩
  · obtain ⟨a, vs, rfl, s, r⟩ := rx.tup
    obtain ⟨c, ws, rfl, s', r'⟩ := ry.tup
    cases r.nil_inv
    cases h
    exact ⟨a, c, [], ws, rfl, rfl, .inl ⟨s, s', .inl rfl⟩, by rw [r'.len]; rfl⟩
  · split at h
    · rename_i xs ys hx hy
      split at h
      · cases h
      · rename_i hne
        cases h
        obtain ⟨a, vs, rfl, s, e1⟩ := lstOf_ok st rx hx
        obtain ⟨c, ws, rfl, s', e2⟩ := lstOf_ok st ry hy
        have : ¬ vs.length = ws.length := by rw [e1, e2]; exact hne
        exact ⟨a, c, vs, ws, rfl, rfl, .inr ⟨s, s', this⟩, by simp [this]⟩
    · cases h
theorem eqB_ok {K : PySem.W.Frag} {φ : List Addr} {H : Hp} {S : Store} {x y : V} {dx dy : D} {b : Bool} (st : StOk K φ H S) (rx : RepV K φ H dx x) (ry : RepV K φ H dy y) (h : eqB S dx dy = some b) :
    (scal x y = true ∧ b = decide (x = y)) ∨ (∃ d e, Dp K H x d ∧ Dp K H y e ∧ SeqAt.shaped d = true ∧ SeqAt.shaped e = true ∧ b = PyData.eqv d e) ∨ LenP K x y H b := by
  unfold eqB at h
  split at h
  · cases rx.int; cases ry.int; cases h
    exact .inl ⟨rfl, by simp⟩
  · cases rx.bl; cases ry.bl; cases h
    exact .inl ⟨rfl, by simp⟩
  · cases rx.str; cases ry.str; cases h
    exact .inl ⟨rfl, by simp⟩
  · cases rx.non; cases ry.non; cases h
    exact .inl ⟨rfl, by simp⟩
  · split at h
    · rename_i b' hb
      cases h
      exact .inr (.inr (lenB_ok st rx ry hb))
    · split at h
      · rename_i p q hp hq
        split at h
        · rename_i hs
          rw [Bool.and_eq_true] at hs
          cases h
          exact .inr (.inl ⟨p, q, toP_ok st _ _ _ _ rx hp, toP_ok st _ _ _ _ ry hq, hs.1, hs.2, rfl⟩)
        · cases h
      · cases h
def rEqL (K : PySem.W.Frag) : V → V → Hp → VK → Prop := fun x y H Q => ∃ b, LenP K x y H b ∧ Q (.bl b) H
def rNeL (K : PySem.W.Frag) : V → V → Hp → VK → Prop := fun x y H Q => ∃ b, LenP K x y H b ∧ Q (.bl (!b)) H
theorem eq_rule {K : PySem.W.Frag} : Rule2 K eqD (fun x y H Q => (rEq x y H Q ∨ rEqD K x y H Q) ∨ rEqL K x y H Q) := by
  intro W φ σ H e S Q x y dx dy st rx ry p
  unfold eqD at p
  split at p
  · rename_i b hb
    rcases eqB_ok st rx ry hb with ⟨h1, h2⟩ | ⟨d, e, h1, h2, h3, h4, h5⟩ | hl
    · exact .inl (.inl ⟨h1, by rw [← h2]; exact p.give st .mkBl⟩)
    · exact .inl (.inr ⟨d, e, h1, h2, h3, h4, by rw [← h5]; exact p.give st .mkBl⟩)
    · exact .inr ⟨b, hl, p.give st .mkBl⟩
  · exact p.elim
theorem ne_rule {K : PySem.W.Frag} : Rule2 K neD (fun x y H Q => (rNe x y H Q ∨ rNeD K x y H Q) ∨ rNeL K x y H Q) := by
  intro W φ σ H e S Q x y dx dy st rx ry p
  unfold neD at p
  split at p
  · rename_i b hb
    rcases eqB_ok st rx ry hb with ⟨h1, h2⟩ | ⟨d, e, h1, h2, h3, h4, h5⟩ | hl
    · exact .inl (.inl ⟨h1, by rw [← h2]; exact p.give st .mkBl⟩)
    · exact .inl (.inr ⟨d, e, h1, h2, h3, h4, by rw [← h5]; exact p.give st .mkBl⟩)
    · exact .inr ⟨b, hl, p.give st .mkBl⟩
  · exact p.elim
section
variable {X : Cx}
theorem op_eqL (hu : X.A.units + 64 < cLine) : OpR X (compareOp .Eq) (rEqL X.K) := by
  intro pins s σ H x y v u Q I rx ry h
  obtain ⟨b, ⟨a, c, xs, ys, rfl, rfl, hs, hb⟩, q⟩ := h
  obtain rfl : v = Value.ref a := rx
  obtain rfl : u = Value.ref c := ry
  rcases hs with ⟨h1, h2, h3⟩ | ⟨h1, h2, h3⟩
  · obtain ⟨its, rv, ⟨o, ho, hc, n, hd⟩, _⟩ := I.tuple h1
    obtain ⟨its', rv', ⟨o', ho', hc', n', hd'⟩, _⟩ := I.tuple h2
    have e1 := rv.length
    have e2 := rv'.length
    have hm : min its.toArray.size its'.toArray.size = 0 := by
      simp only [List.size_toArray]
      rcases h3 with rfl | rfl <;> simp at e1 e2 <;> omega
    refine SeqAt.eq_tupleAt (e := fun _ => true) ⟨o, ho, hc, n, hd⟩ ⟨o', ho', hc', n', hd'⟩ (by omega) (fun j z z' => by omega) ?_
    refine ⟨.bl b, H, I, ?_, q⟩
    show Value.bool _ = Value.bool b
    rw [hm, hb]
    simp [← e1, ← e2]
    rfl
  · obtain ⟨its, rv, ⟨o, n, ho, hc, _, hd⟩, _⟩ := I.list h1
    obtain ⟨its', rv', ⟨o', n', ho', hc', _, hd'⟩, _⟩ := I.list h2
    have e1 := rv.length
    have e2 := rv'.length
    refine SeqAt.eq_list_lengthsAt ⟨o, ho, hc, n, hd⟩ ⟨o', ho', hc', n', hd'⟩ (by simp; omega) (by omega) ?_
    refine ⟨.bl b, H, I, ?_, q⟩
    show Value.bool _ = Value.bool b
    rw [hb]
    simp [h3]
theorem op_neL (hu : X.A.units + 64 < cLine) : OpR X (compareOp .NotEq) (rNeL X.K) := by
  intro pins s σ H x y v u Q I rx ry h
  obtain ⟨b, ⟨a, c, xs, ys, rfl, rfl, hs, hb⟩, q⟩ := h
  obtain rfl : v = Value.ref a := rx
  obtain rfl : u = Value.ref c := ry
  rcases hs with ⟨h1, h2, h3⟩ | ⟨h1, h2, h3⟩
  · obtain ⟨its, rv, ⟨o, ho, hc, n, hd⟩, _⟩ := I.tuple h1
    obtain ⟨its', rv', ⟨o', ho', hc', n', hd'⟩, _⟩ := I.tuple h2
    have e1 := rv.length
    have e2 := rv'.length
    have hm : min its.toArray.size its'.toArray.size = 0 := by
      simp only [List.size_toArray]
      rcases h3 with rfl | rfl <;> simp at e1 e2 <;> omega
    refine SeqAt.RcNeAt.tuples (e := fun _ => true) ⟨o, ho, hc, n, hd⟩ ⟨o', ho', hc', n', hd'⟩ (by omega) (fun j z z' => by omega) _ _ _ _ ?_
    refine ⟨.bl (!b), H, I, ?_, q⟩
    show Value.bool _ = Value.bool (!b)
    rw [hm, hb]
    simp [← e1, ← e2]
    rfl
  · obtain ⟨its, rv, ⟨o, n, ho, hc, _, hd⟩, _⟩ := I.list h1
    obtain ⟨its', rv', ⟨o', n', ho', hc', _, hd'⟩, _⟩ := I.list h2
    have e1 := rv.length
    have e2 := rv'.length
    refine SeqAt.RcNeAt.lists_lengths ⟨o, ho, hc, n, hd⟩ ⟨o', ho', hc', n', hd'⟩ (by simp; omega) (by omega) _ _ _ _ ?_
    refine ⟨.bl (!b), H, I, ?_, q⟩
    show Value.bool _ = Value.bool (!b)
    rw [hb]
    simp [h3]
end
/-! is -/
def isB : D → D → Option Bool
  | .non, .non => some true
  | .bl a, .bl b => some (decide (a = b))
  | _, .non => some false
  | _, _ => none
def isD : F2 := fun x y S => match isB x y with
  | some b => .ok (.bl b) S
  | none => .bad
def nisD : F2 := fun x y S => match isB x y with
  | some b => .ok (.bl (!b)) S
  | none => .bad
theorem isB_ok {K : PySem.W.Frag} {φ : List Addr} {H : Hp} {x y : V} {dx dy : D} {b : Bool} (rx : RepV K φ H dx x) (ry : RepV K φ H dy y) (h : isB dx dy = some b) :
    (y = .non ∧ b = decide (x = .non)) ∨ ∃ c d : Bool, x = .bl c ∧ y = .bl d ∧ b = decide (c = d) := by
  unfold isB at h
  split at h
  · cases rx.non; cases ry.non; cases h; exact .inl ⟨rfl, by simp⟩
  · cases rx.bl; cases ry.bl; cases h; exact .inr ⟨_, _, rfl, rfl, rfl⟩
  · rename_i hn
    cases ry.non; cases h
    refine .inl ⟨rfl, ?_⟩
    cases dx with
    | non => exact absurd rfl hn
    | bl b => cases rx.bl; rfl
    | int i => cases rx.int; rfl
    | str x => cases rx.str; rfl
    | ty _ => cases rx.ty; rfl
    | tup ds => obtain ⟨a, xs, rfl, _⟩ := rx.tup; rfl
    | rol ds => obtain ⟨a, xs, rfl, _⟩ := rx.rol; rfl
    | ref n => obtain ⟨a, _, rfl⟩ := rx.ref; rfl
  · cases h
theorem is_rule {K : PySem.W.Frag} : Rule2 K isD (fun x y H Q => (fun x y H Q => y = .non ∧ Q (.bl (decide (x = .non))) H) x y H Q ∨ rIsB x y H Q) := by
  intro W φ σ H e S Q x y dx dy st rx ry p
  unfold isD at p
  split at p
  · rename_i b hb
    rcases isB_ok rx ry hb with ⟨h1, h2⟩ | ⟨c, d, h1, h2, h3⟩
    · exact .inl ⟨h1, by rw [← h2]; exact p.give st .mkBl⟩
    · exact .inr ⟨c, d, h1, h2, by rw [← h3]; exact p.give st .mkBl⟩
  · exact p.elim
theorem nis_rule {K : PySem.W.Frag} : Rule2 K nisD (fun x y H Q => (fun x y H Q => y = .non ∧ Q (.bl (!decide (x = .non))) H) x y H Q ∨ rNotB x y H Q) := by
  intro W φ σ H e S Q x y dx dy st rx ry p
  unfold nisD at p
  split at p
  · rename_i b hb
    rcases isB_ok rx ry hb with ⟨h1, h2⟩ | ⟨c, d, h1, h2, h3⟩
    · exact .inl ⟨h1, by rw [← h2]; exact p.give st .mkBl⟩
    · exact .inr ⟨c, d, h1, h2, by rw [← h3]; exact p.give st .mkBl⟩
  · exact p.elim

section
variable {X : Cx} {W : Wish} {a b c : Expr} {ma mb mc : ME} {pos : Pos}
theorem q_mul (ha : PE X a (rd X.K W ma)) (hb : PE X b (rd X.K W mb)) : PE X (.BinOp a .Mult b pos) (rd X.K W (bin mulD ma mb)) := q_op op_mulA mul_rule ha hb
theorem q_pow (ha : PE X a (rd X.K W ma)) (hb : PE X b (rd X.K W mb)) : PE X (.BinOp a .Pow b pos) (rd X.K W (bin powD ma mb)) := q_op op_powW pow_rule ha hb
/-- what each comparison gives -/
structure CmpRule (X : Cx) (op : CmpOp) (f : F2) (r : V → V → Hp → VK → Prop) : Prop where
  run : OpR X (compareOp op) r
  rule : Rule2 X.K f r
  mark : ∀ b, behindInMarks op b = false
theorem cp_lt : CmpRule X .Lt ltD (rI0 fun i j => .bl (decide (i < j))) := ⟨op_lt, rI0_rule fun _ _ _ _ => .mkBl, fun b => nomark b⟩
theorem cp_le : CmpRule X .LtE leD (rI0 fun i j => .bl (decide (i ≤ j))) := ⟨op_le, rI0_rule fun _ _ _ _ => .mkBl, fun b => nomark b⟩
theorem cp_gt : CmpRule X .Gt gtD (rI0 fun i j => .bl (decide (j < i))) := ⟨op_gt, rI0_rule fun _ _ _ _ => .mkBl, fun b => nomark b⟩
theorem cp_ge : CmpRule X .GtE geD (rI0 fun i j => .bl (decide (j ≤ i))) := ⟨op_ge, rI0_rule fun _ _ _ _ => .mkBl, fun b => nomark b⟩
theorem cp_eq (hu : X.A.units + 64 < cLine) : CmpRule X .Eq eqD (fun x y H Q => (rEq x y H Q ∨ rEqD X.K x y H Q) ∨ rEqL X.K x y H Q) := ⟨(op_eq.or (op_eqD hu)).or (op_eqL hu), eq_rule, fun b => nomark b⟩
theorem cp_ne (hu : X.A.units + 64 < cLine) : CmpRule X .NotEq neD (fun x y H Q => (rNe x y H Q ∨ rNeD X.K x y H Q) ∨ rNeL X.K x y H Q) := ⟨(op_ne.or (op_neD hu)).or (op_neL hu), ne_rule, fun b => nomark b⟩
theorem cp_is : CmpRule X .Is isD (fun x y H Q => (fun x y H Q => y = .non ∧ Q (.bl (decide (x = .non))) H) x y H Q ∨ rIsB x y H Q) := ⟨op_isN.or op_isBl, is_rule, fun b => nomark b⟩
theorem cp_nis : CmpRule X .IsNot nisD (fun x y H Q => (fun x y H Q => y = .non ∧ Q (.bl (!decide (x = .non))) H) x y H Q ∨ rNotB x y H Q) := ⟨op_notN.or op_notBl, nis_rule, fun b => nomark b⟩
theorem q_comp {op : CmpOp} {f : F2} {r : V → V → Hp → VK → Prop} (k : CmpRule X op f r) (ha : PE X a (rd X.K W ma)) (hb : PE X b (rd X.K W mb)) : PE X (.Compare a [op] [b] pos) (rd X.K W (bin f ma mb)) := q_cmp k.run k.rule ha hb (k.mark b)
/-- a test whose value is a bool -/
def tst (m : ME) : MB := fun e S => (m e S).bind fun d S1 => match d with
  | .bl b => .ok b S1
  | _ => .bad
theorem rd_tst {K : PySem.W.Frag} {m : ME} {σ : L2.St} {H : Hp} {Q : Bool → Hp → Prop} (h : rdB K W (tst m) σ H Q) : tTest (rd K W m) σ H Q := by
  obtain ⟨φ, e, S, g, p⟩ := h
  refine bindG g p fun d S1 φ1 H1 x e1 k1 g1 rx p1 => ?_
  split at p1
  · exact ⟨_, rx.bl, p1.give g1.st rfl⟩
  · exact p1.elim
theorem t_comp {op : CmpOp} {f : F2} {r : V → V → Hp → VK → Prop} (k : CmpRule X op f r) (ha : PE X a (rd X.K W ma)) (hb : PE X b (rd X.K W mb)) : PT X (.Compare a [op] [b] pos) (rdB X.K W (tst (bin f ma mb))) :=
  pt_imp (pt_cmpR k.run ha hb (k.mark b)) fun σ H Q h => by
    obtain ⟨φ, e, S, g, p⟩ := rd_tst h
    exact rd_bin k.rule ⟨φ, e, S, g, p⟩
/-- a op b op' c -/
def chn (f f' : F2) (ma mb mc : ME) : ME := fun e S => (ma e S).bind fun x S1 => (mb e S1).bind fun y S2 => (f x y S2).bind fun z S3 => match z with
  | .bl true => (mc e S3).bind fun w S4 => f' y w S4
  | .bl false => .ok (.bl false) S3
  | _ => .bad
theorem rd_chn {op op' : CmpOp} {f f' : F2} {r r' : V → V → Hp → VK → Prop} (k : CmpRule X op f r) (k' : CmpRule X op' f' r') {σ : L2.St} {H : Hp} {Q : VK} (h : rd X.K W (chn f f' ma mb mc) σ H Q) :
    tChain r r' (rd X.K W ma) (rd X.K W mb) (rd X.K W mc) σ H Q := by
  obtain ⟨φ, e, S, g, p⟩ := h
  refine bindG g p fun dx S1 φ1 H1 x e1 k1 g1 rx p1 => bindG g1 p1 fun dy S2 φ2 H2 y e2 k2 g2 ry p2 => ?_
  refine k.rule (W := W) (σ := σ) (e := e) g2.st (rx.mono e2 k2) ry ?_
  cases hz : f dx dy S2 with
  | bad => rw [hz] at p2; exact p2
  | exc x s => rw [hz] at p2; exact p2
  | ok z S3 =>
    rw [hz] at p2
    intro φ3 H3 v e3 k3 st3 rv
    have p3 : post (RepV X.K) X.K W φ3 σ H3 e Q _ := post.mono e3 k3 p2
    cases z with
    | bl b =>
      refine ⟨b, rv.bl, ?_⟩
      cases b with
      | true =>
        rw [if_pos rfl]
        exact bindG (g2.mono e3 k3 st3) p3 fun dw S4 φ4 H4 w e4 k4 g4 rw_ p4 => k'.rule g4.st ((ry.mono e3 k3).mono e4 k4) rw_ p4
      | false =>
        rw [if_neg (by decide)]
        exact p3.give st3 .mkBl
    | _ => exact p3.elim
theorem q_chain {op op' : CmpOp} {f f' : F2} {r r' : V → V → Hp → VK → Prop} (k : CmpRule X op f r) (k' : CmpRule X op' f' r') (ha : PE X a (rd X.K W ma)) (hb : PE X b (rd X.K W mb)) (hc : PE X c (rd X.K W mc))
    (hm : lastMarks [op, op'] [b, c] = false := by with_unfolding_all rfl) : PE X (.Compare a [op, op'] [b, c] pos) (rd X.K W (chn f f' ma mb mc)) := pe_imp (pe_chain k.run k'.run ha hb hc hm) fun _ _ _ h => rd_chn k k' h
theorem t_chain {op op' : CmpOp} {f f' : F2} {r r' : V → V → Hp → VK → Prop} (k : CmpRule X op f r) (k' : CmpRule X op' f' r') (ha : PE X a (rd X.K W ma)) (hb : PE X b (rd X.K W mb)) (hc : PE X c (rd X.K W mc))
    (hm : lastMarks [op, op'] [b, c] = false := by with_unfolding_all rfl) : PT X (.Compare a [op, op'] [b, c] pos) (rdB X.K W (tst (chn f f' ma mb mc))) := pt_imp (pt_chain k.run k'.run ha hb hc hm) fun _ _ _ h => rd_chn k k' (rd_tst h)
end
end Mi

namespace Mi
open PySem PySem.Spec L2

/-! ### truth -/
def truD : D → Store → Option Bool
  | .non, _ => some false
  | .bl b, _ => some b
  | .int i, _ => some (i != 0)
  | .str x, _ => if x.length ≤ 1000000 then some ((x.length : Int) != 0) else none
  | .tup ds, _ => some (!ds.isEmpty)
  | .rol ds, _ => some (!ds.isEmpty)
  | .ref n, S => match S[n]? with
    | some (.lst ds) => some (!ds.isEmpty)
    | some (.dK kvs) => some (!kvs.isEmpty)
    | _ => none
  | .ty _, _ => none
theorem RepL.isEmpty {K : PySem.W.Frag} {φ : List Addr} {H : Hp} {ds : List D} {xs : List V} (r : RepL K φ H ds xs) : xs.isEmpty = ds.isEmpty := by
  cases ds with
  | nil => rw [r.nil_inv]; rfl
  | cons d ds => obtain ⟨v, vs, rfl, _⟩ := r.cons_inv; rfl
theorem StOk.dK {K : PySem.W.Frag} {φ : List Addr} {H : Hp} {S : Store} {n : Nat} {ds : List (Key × D)} (st : StOk K φ H S) {a : Addr} (ha : φ[n]? = some a) (h : (S[n]? : Option Cell) = some (.dK ds)) : ∃ ws, H a = some (.dK ws) ∧ RepK ds ws (RepV K φ H) := by
  obtain ⟨b, h1, x⟩ := st.at_ n _ h
  rw [ha] at h1; cases h1
  exact x
theorem truD_ok {K : PySem.W.Frag} {φ : List Addr} {H : Hp} {S : Store} {d : D} {x : V} {b : Bool} (st : StOk K φ H S) (r : RepV K φ H d x) (h : truD d S = some b) : TruV K x H b := by
  cases d with
  | non => cases r.non; cases h; rfl
  | bl c => cases r.bl; cases h; rfl
  | int i => cases r.int; cases h; rfl
  | str z =>
    cases r.str
    have h : (if z.length ≤ 1000000 then some ((z.length : Int) != 0) else none) = some b := h
    split at h
    · rename_i hl
      cases h
      exact ⟨lim_ok hl, rfl⟩
    · cases h
  | tup ds =>
    obtain ⟨a, xs, rfl, s, r1⟩ := r.tup
    cases h
    exact .inr (.inl ⟨xs, s, by rw [r1.isEmpty]⟩)
  | rol ds =>
    obtain ⟨a, xs, rfl, s, r1⟩ := r.rol
    cases h
    exact .inl ⟨xs, rolSq s, by rw [r1.isEmpty]⟩
  | ref n =>
    obtain ⟨a, ha, rfl⟩ := r.ref
    have h : (match (S[n]? : Option Cell) with
      | some (.lst ds) => some (!ds.isEmpty)
      | some (.dK kvs) => some (!kvs.isEmpty)
      | _ => none) = some b := h
    split at h
    · rename_i ds hn
      cases h
      obtain ⟨xs, e1, r1⟩ := st.lst ha hn
      exact .inl ⟨xs, .of e1, by rw [r1.isEmpty]⟩
    · rename_i ds hn
      cases h
      obtain ⟨xs, e1, r1⟩ := st.dK ha hn
      exact .inr (.inr ⟨xs, e1, by cases r1 <;> rfl⟩)
    · cases h
  | ty _ => cases h
def tru (m : ME) : MB := fun e S => (m e S).bind fun d S1 => match truD d S1 with
  | some b => .ok b S1
  | none => .bad
def andB (a b : MB) : MB := fun e S => (a e S).bind fun c S1 => match c with
  | true => b e S1
  | false => .ok false S1
def orB (a b : MB) : MB := fun e S => (a e S).bind fun c S1 => match c with
  | true => .ok true S1
  | false => b e S1
def notB (a : MB) : MB := fun e S => (a e S).bind fun c S1 => .ok (!c) S1
def andV (a b : ME) : ME := fun e S => (a e S).bind fun d S1 => match truD d S1 with
  | some true => b e S1
  | some false => .ok d S1
  | none => .bad
def orV (a b : ME) : ME := fun e S => (a e S).bind fun d S1 => match truD d S1 with
  | some true => .ok d S1
  | some false => b e S1
  | none => .bad
def notV (a : ME) : ME := fun e S => (a e S).bind fun d S1 => match truD d S1 with
  | some b => .ok (.bl (!b)) S1
  | none => .bad
def iteV (c : MB) (a b : ME) : ME := fun e S => (c e S).bind fun d S1 => match d with
  | true => a e S1
  | false => b e S1
section
variable {X : Cx} {W : Wish} {a b c : Expr} {ma mb mc : ME} {ba bb : MB} {pos : Pos} {rest : List Expr}
theorem t_val (ha : PE X a (rd X.K W ma)) (he : ∀ whole, isTrue a X.env whole = (do let v ← whole; standAt a.pos; holding [v] (truthy v)) := by intro _; rfl) : PT X a (rdB X.K W (tru ma)) :=
  pt_imp (pt_truth ha he) fun σ H Q h => by
    obtain ⟨φ, e, S, g, p⟩ := h
    refine bindG g p fun d S1 φ1 H1 x e1 k1 g1 rx p1 => ?_
    split at p1
    · rename_i b hb
      exact ⟨b, truD_ok g1.st rx hb, p1.give g1.st rfl⟩
    · exact p1.elim
theorem w_and1 (ha : PT X a (rdB X.K W ba)) : PW X (.BoolOp .And [a] pos) (rdB X.K W ba) := pw_and1 ha
theorem w_or1 (ha : PT X a (rdB X.K W ba)) : PW X (.BoolOp .Or [a] pos) (rdB X.K W ba) := pw_or1 ha
theorem w_and (ha : PT X a (rdB X.K W ba)) (hb : PW X (.BoolOp .And (b :: rest) pos) (rdB X.K W bb)) : PW X (.BoolOp .And (a :: b :: rest) pos) (rdB X.K W (andB ba bb)) :=
  pw_imp (pw_and ha hb) fun σ H Q h => by
    obtain ⟨φ, e, S, g, p⟩ := h
    refine bindG g p fun d S1 φ1 H1 x e1 k1 g1 rx p1 => ?_
    subst rx
    cases x with
    | true => exact iteT ⟨φ1, e, S1, g1, p1⟩
    | false => exact iteF (p1.give g1.st rfl)
theorem w_or (ha : PT X a (rdB X.K W ba)) (hb : PW X (.BoolOp .Or (b :: rest) pos) (rdB X.K W bb)) : PW X (.BoolOp .Or (a :: b :: rest) pos) (rdB X.K W (orB ba bb)) :=
  pw_imp (pw_or ha hb) fun σ H Q h => by
    obtain ⟨φ, e, S, g, p⟩ := h
    refine bindG g p fun d S1 φ1 H1 x e1 k1 g1 rx p1 => ?_
    subst rx
    cases x with
    | true => exact iteT (p1.give g1.st rfl)
    | false => exact iteF ⟨φ1, e, S1, g1, p1⟩
theorem t_not (ha : PT X a (rdB X.K W ba)) : PT X (.UnaryOp .Not a pos) (rdB X.K W (notB ba)) :=
  pt_imp (pt_not ha) fun σ H Q h => by
    obtain ⟨φ, e, S, g, p⟩ := h
    refine bindG g p fun d S1 φ1 H1 x e1 k1 g1 rx p1 => ?_
    subst rx
    exact p1.give g1.st rfl
theorem q_one {op} (ha : PE X a (rd X.K W ma)) : PE X (.BoolOp op [a] pos) (rd X.K W ma) := pe_one ha
theorem q_and (ha : PE X a (rd X.K W ma)) (hb : PE X (.BoolOp .And (b :: rest) pos) (rd X.K W mb)) : PE X (.BoolOp .And (a :: b :: rest) pos) (rd X.K W (andV ma mb)) :=
  pe_imp (pe_andT ha hb) fun σ H Q h => by
    obtain ⟨φ, e, S, g, p⟩ := h
    refine bindG g p fun d S1 φ1 H1 x e1 k1 g1 rx p1 => ?_
    split at p1
    · rename_i hb
      exact ⟨true, truD_ok g1.st rx hb, iteT ⟨φ1, e, S1, g1, p1⟩⟩
    · rename_i hb
      exact ⟨false, truD_ok g1.st rx hb, iteF (p1.give g1.st rx)⟩
    · exact p1.elim
theorem q_or (ha : PE X a (rd X.K W ma)) (hb : PE X (.BoolOp .Or (b :: rest) pos) (rd X.K W mb)) : PE X (.BoolOp .Or (a :: b :: rest) pos) (rd X.K W (orV ma mb)) :=
  pe_imp (pe_orT ha hb) fun σ H Q h => by
    obtain ⟨φ, e, S, g, p⟩ := h
    refine bindG g p fun d S1 φ1 H1 x e1 k1 g1 rx p1 => ?_
    split at p1
    · rename_i hb
      exact ⟨true, truD_ok g1.st rx hb, iteT (p1.give g1.st rx)⟩
    · rename_i hb
      exact ⟨false, truD_ok g1.st rx hb, iteF ⟨φ1, e, S1, g1, p1⟩⟩
    · exact p1.elim
theorem q_not (ha : PE X a (rd X.K W ma)) : PE X (.UnaryOp .Not a pos) (rd X.K W (notV ma)) :=
  pe_imp (pe_notT ha) fun σ H Q h => by
    obtain ⟨φ, e, S, g, p⟩ := h
    refine bindG g p fun d S1 φ1 H1 x e1 k1 g1 rx p1 => ?_
    split at p1
    · rename_i b hb
      exact ⟨b, truD_ok g1.st rx hb, p1.give g1.st .mkBl⟩
    · exact p1.elim
theorem q_ite (hc : PT X c (rdB X.K W ba)) (ha : PE X a (rd X.K W ma)) (hb : PE X b (rd X.K W mb)) : PE X (.IfExp c a b pos) (rd X.K W (iteV ba ma mb)) :=
  pe_imp (pe_ifExp hc ha hb) fun σ H Q h => by
    obtain ⟨φ, e, S, g, p⟩ := h
    refine bindG g p fun d S1 φ1 H1 x e1 k1 g1 rx p1 => ?_
    subst rx
    cases x with
    | true => exact iteT ⟨φ1, e, S1, g1, p1⟩
    | false => exact iteF ⟨φ1, e, S1, g1, p1⟩
/-! ### - x, arguments, displays -/
def negV (m : ME) : ME := fun e S => (m e S).bind fun d S1 => match d with
  | .int i => .ok (.int (-i)) S1
  | _ => .bad
theorem q_neg (ha : PE X a (rd X.K W ma)) : PE X (.UnaryOp .USub a pos) (rd X.K W (negV ma)) :=
  pe_imp (pe_un un_neg ha) fun σ H Q h => by
    obtain ⟨φ, e, S, g, p⟩ := h
    refine bindG g p fun d S1 φ1 H1 x e1 k1 g1 rx p1 => ?_
    split at p1
    · exact ⟨_, rx.int, p1.give g1.st .mkInt⟩
    · exact p1.elim
def argN : ML := fun _ S => .ok [] S
def argC (m : ME) (ms : ML) : ML := fun e S => (m e S).bind fun d S1 => (ms e S1).bind fun ds S2 => .ok (d :: ds) S2
theorem a_nil : PA X [] (rdL X.K W argN) := pa_imp pa_nil fun σ H Q h => by
  obtain ⟨φ, e, S, g, p⟩ := h
  exact p.give g.st .nil
theorem a_cons {es : List Expr} {ms : ML} (ha : PE X a (rd X.K W ma)) (hr : PA X es (rdL X.K W ms)) (hs : starEach (a :: es) X.env = (false, eval a X.env) :: starEach es X.env := by rfl) : PA X (a :: es) (rdL X.K W (argC ma ms)) :=
  pa_imp (pa_cons ha hr hs) fun σ H Q h => by
    obtain ⟨φ, e, S, g, p⟩ := h
    refine bindG g p fun d S1 φ1 H1 x e1 k1 g1 rx p1 => bindG g1 p1 fun ds S2 φ2 H2 xs e2 k2 g2 rs p2 => ?_
    exact p2.give g2.st (.cons (rx.mono e2 k2) rs)
def mkT (ms : ML) : ME := fun e S => (ms e S).bind fun ds S1 => if ds.length ≤ 1000000 then .ok (.tup ds) S1 else .bad
def mkL (ms : ML) : ME := fun e S => (ms e S).bind fun ds S1 => if ds.length ≤ 1000000 then .ok (.ref S1.length) (S1 ++ [.lst ds]) else .bad
def mkD : ME := fun _ S => .ok (.ref S.length) (S ++ [.dK []])
theorem q_tup {es : List Expr} {ms : ML} {x1} (h : PA X es (rdL X.K W ms)) : PE X (.Tuple es x1 pos) (rd X.K W (mkT ms)) :=
  pe_imp (pe_tup h) fun σ H Q h => by
    obtain ⟨φ, e, S, g, p⟩ := h
    refine bindG g p fun ds S1 φ1 H1 xs e1 k1 g1 rs p1 => ?_
    split at p1
    · rename_i hl
      exact ⟨by rw [rs.len]; exact lim_ok hl, fun q hq => p1.tup g1.st hq rs⟩
    · exact p1.elim
theorem q_lst {es : List Expr} {ms : ML} (h : PA X es (rdL X.K W ms)) : PE X (.List es pos) (rd X.K W (mkL ms)) :=
  pe_imp (pe_lst h) fun σ H Q h => by
    obtain ⟨φ, e, S, g, p⟩ := h
    refine bindG g p fun ds S1 φ1 H1 xs e1 k1 g1 rs p1 => ?_
    split at p1
    · rename_i hl
      exact ⟨by rw [rs.len]; exact lim_ok hl, fun q hq => p1.push g1.st hq (cell_lst hq rs)⟩
    · exact p1.elim
end
end Mi

namespace Mi
open PySem PySem.Spec L2

/-! ### built-in functions -/
abbrev F1 := List D → Store → R D
def RuleC (K : PySem.W.Frag) (f : F1) (r : List V → Hp → VK → Prop) : Prop :=
  ∀ {W : Wish} {φ : List Addr} {σ : L2.St} {H : Hp} {e : Vs} {S : Store} {Q : VK} {xs : List V} {ds : List D}, StOk K φ H S → RepL K φ H ds xs → post (RepV K) K W φ σ H e Q (f ds S) → r xs H Q
def app (f : F1) (ms : ML) : ME := fun e S => (ms e S).bind f
section
variable {X : Cx} {W : Wish} {a : Expr} {es : List Expr} {ms : ML} {ma : ME} {x : Str} {p pos : Pos} {id T : String} {f : F1} {r : List V → Hp → VK → Prop}
theorem rd_app {K : PySem.W.Frag} (hr : RuleC K f r) {σ : L2.St} {H : Hp} {Q : VK} (h : rd K W (app f ms) σ H Q) : tCB r (rdL K W ms) σ H Q := by
  obtain ⟨φ, e, S, g, p⟩ := h
  exact bindG g p fun ds S1 φ1 H1 xs e1 k1 g1 rs p1 => hr g1.st rs p1
theorem q_callB (hc : CallR X (.builtin id) r) (hr : RuleC X.K f r) (hg : Gl X x) (hm : X.mg x = none) (hv : bootBuiltins x = some (.builtin id)) (ha : PA X (a :: es) (rdL X.K W ms)) (hn : x ≠ "__name__" := by decide) (hdb : (x == ("__debug__" : Str)) = false := by decide)
    (he : starEach (a :: es) X.env = (false, eval a X.env) :: starEach es X.env := by rfl) (hpl : (backTo pos (starEach es X.env)).any (·.1) = false := by rfl) : PE X (.Call (.Name x p) (a :: es) [] pos) (rd X.K W (app f ms)) :=
  pe_imp (pe_callB hc hg hm hv ha hn hdb he hpl) fun _ _ _ h => rd_app hr h
theorem q_callT (hc : CallR X (.type T) r) (hr : RuleC X.K f r) (hg : Gl X x) (hm : X.mg x = none) (hv : bootBuiltins x = some (.type T)) (ha : PA X (a :: es) (rdL X.K W ms)) (hn : x ≠ "__name__" := by decide) (hdb : (x == ("__debug__" : Str)) = false := by decide)
    (he : starEach (a :: es) X.env = (false, eval a X.env) :: starEach es X.env := by rfl) (hpl : (backTo pos (starEach es X.env)).any (·.1) = false := by rfl) : PE X (.Call (.Name x p) (a :: es) [] pos) (rd X.K W (app f ms)) :=
  pe_imp (pe_callTy hc hg hm hv ha hn hdb he hpl) fun _ _ _ h => rd_app hr h
end
theorem RepL.one {K : PySem.W.Frag} {φ : List Addr} {H : Hp} {d : D} {xs : List V} (h : RepL K φ H [d] xs) : ∃ v, xs = [v] ∧ RepV K φ H d v := by
  obtain ⟨v, vs, rfl, r, t⟩ := h.cons_inv
  rw [t.nil_inv]
  exact ⟨v, rfl, r⟩
theorem RepL.two {K : PySem.W.Frag} {φ : List Addr} {H : Hp} {d d' : D} {xs : List V} (h : RepL K φ H [d, d'] xs) : ∃ v v', xs = [v, v'] ∧ RepV K φ H d v ∧ RepV K φ H d' v' := by
  obtain ⟨v, vs, rfl, r, t⟩ := h.cons_inv
  obtain ⟨v', rfl, r'⟩ := t.one
  exact ⟨v, v', rfl, r, r'⟩
def lenD : F1 := fun ds S => match ds with
  | [.str x] => if x.length ≤ 1000000 then .ok (.int x.length) S else .bad
  | [.tup xs] => .ok (.int xs.length) S
  | [.rol xs] => .ok (.int xs.length) S
  | [.ref n] => match S[n]? with
    | some (.lst xs) => .ok (.int xs.length) S
    | _ => .bad
  | _ => .bad
theorem len_rule {K : PySem.W.Frag} : RuleC K lenD (fun xs H Q => ∃ x n, xs = [x] ∧ LenV K x H n ∧ Q (.int n) H) := by
  intro W φ σ H e S Q xs ds st r p
  unfold lenD at p
  split at p
  · obtain ⟨v, rfl, rv⟩ := r.one
    split at p
    · rename_i hl
      cases rv.str
      exact ⟨_, _, rfl, ⟨lim_ok hl, rfl⟩, p.give st .mkInt⟩
    · exact p.elim
  · obtain ⟨v, rfl, rv⟩ := r.one
    obtain ⟨a, ys, rfl, s, r1⟩ := rv.tup
    exact ⟨_, _, rfl, .inr ⟨ys, s, r1.len.symm⟩, p.give st .mkInt⟩
  · obtain ⟨v, rfl, rv⟩ := r.one
    obtain ⟨a, ys, rfl, s, r1⟩ := rv.rol
    exact ⟨_, _, rfl, .inl ⟨ys, rolSq s, r1.len.symm⟩, p.give st .mkInt⟩
  · obtain ⟨v, rfl, rv⟩ := r.one
    obtain ⟨a, ha, rfl⟩ := rv.ref
    split at p
    · rename_i n _ xs hn
      obtain ⟨ys, h1, r1⟩ := st.lst ha hn
      exact ⟨_, _, rfl, .inl ⟨ys, .of h1, r1.len.symm⟩, p.give st .mkInt⟩
    · exact p.elim
  · exact p.elim
def absD : F1 := fun ds S => match ds with
  | [.int i] => .ok (.int (if i < 0 then -i else i)) S
  | _ => .bad
theorem abs_rule {K : PySem.W.Frag} : RuleC K absD (fun xs H Q => ∃ i, xs = [.int i] ∧ Q (.int (if i < 0 then -i else i)) H) := by
  intro W φ σ H e S Q xs ds st r p
  unfold absD at p
  split at p
  · obtain ⟨v, rfl, rv⟩ := r.one
    cases rv.int
    exact ⟨_, rfl, p.give st .mkInt⟩
  · exact p.elim
def intOfD : F1 := fun ds S => match ds with
  | [.int i] => .ok (.int i) S
  | [.bl b] => .ok (.int (if b then 1 else 0)) S
  | _ => .bad
theorem intOf_rule {K : PySem.W.Frag} : RuleC K intOfD (fun xs H Q => (∃ i, xs = [.int i] ∧ Q (.int i) H) ∨ ∃ k, xs = [.bl k] ∧ Q (.int (if k then 1 else 0)) H) := by
  intro W φ σ H e S Q xs ds st r p
  unfold intOfD at p
  split at p
  · obtain ⟨v, rfl, rv⟩ := r.one
    cases rv.int
    exact .inl ⟨_, rfl, p.give st .mkInt⟩
  · obtain ⟨v, rfl, rv⟩ := r.one
    cases rv.bl
    exact .inr ⟨_, rfl, p.give st .mkInt⟩
  · exact p.elim
def max2D : F1 := fun ds S => match ds with
  | [.int i, .int j] => .ok (.int (if j > i then j else i)) S
  | _ => .bad
def min2D : F1 := fun ds S => match ds with
  | [.int i, .int j] => .ok (.int (if j < i then j else i)) S
  | _ => .bad
theorem max2_rule {K : PySem.W.Frag} : RuleC K max2D (fun xs H Q => ∃ i j, xs = [.int i, .int j] ∧ Q (.int (if j > i then j else i)) H) := by
  intro W φ σ H e S Q xs ds st r p
  unfold max2D at p
  split at p
  · obtain ⟨v, v', rfl, r1, r2⟩ := r.two
    cases r1.int; cases r2.int
    exact ⟨_, _, rfl, p.give st .mkInt⟩
  · exact p.elim
theorem min2_rule {K : PySem.W.Frag} : RuleC K min2D (fun xs H Q => ∃ i j, xs = [.int i, .int j] ∧ Q (.int (if j < i then j else i)) H) := by
  intro W φ σ H e S Q xs ds st r p
  unfold min2D at p
  split at p
  · obtain ⟨v, v', rfl, r1, r2⟩ := r.two
    cases r1.int; cases r2.int
    exact ⟨_, _, rfl, p.give st .mkInt⟩
  · exact p.elim
def tupOfD : F1 := fun ds S => match ds with
  | [.tup xs] => .ok (.tup xs) S
  | [.rol xs] => .ok (.tup xs) S
  | [.ref n] => match S[n]? with
    | some (.lst xs) => .ok (.tup xs) S
    | _ => .bad
  | _ => .bad
theorem tupOf_rule {K : PySem.W.Frag} : RuleC K tupOfD (fun xs H Q => ∃ p ys, xs = [.ref p] ∧ ((SqL K H p ys ∧ ∀ l, H l = none → Q (.ref l) (upd H l (.tup ys))) ∨ (SqT K H p ys ∧ Q (.ref p) H))) := by
  intro W φ σ H e S Q xs ds st r p
  unfold tupOfD at p
  split at p
  · obtain ⟨v, rfl, rv⟩ := r.one
    obtain ⟨a, ys, rfl, s, r1⟩ := rv.tup
    exact ⟨a, ys, rfl, .inr ⟨s, p.give st (.mkTup s r1)⟩⟩
  · obtain ⟨v, rfl, rv⟩ := r.one
    obtain ⟨a, ys, rfl, s, r1⟩ := rv.rol
    exact ⟨a, ys, rfl, .inl ⟨rolSq s, fun q hq => p.tup st hq r1⟩⟩
  · obtain ⟨v, rfl, rv⟩ := r.one
    obtain ⟨a, ha, rfl⟩ := rv.ref
    split at p
    · rename_i n _ xs hn
      obtain ⟨ys, h1, r1⟩ := st.lst ha hn
      exact ⟨a, ys, rfl, .inl ⟨.of h1, fun q hq => p.tup st hq r1⟩⟩
    · exact p.elim
  · exact p.elim
def lstOfD : F1 := fun ds S => match ds with
  | [.tup xs] => .ok (.ref S.length) (S ++ [.lst xs])
  | [.rol xs] => .ok (.ref S.length) (S ++ [.lst xs])
  | [.ref n] => match S[n]? with
    | some (.lst xs) => .ok (.ref S.length) (S ++ [.lst xs])
    | _ => .bad
  | _ => .bad
theorem lstOf_rule {K : PySem.W.Frag} : RuleC K lstOfD (fun xs H Q => ∃ p ys, xs = [.ref p] ∧ (SqL K H p ys ∨ SqT K H p ys) ∧ ∀ l, H l = none → Q (.ref l) (upd H l (.lst ys))) := by
  intro W φ σ H e S Q xs ds st r p
  unfold lstOfD at p
  split at p
  · obtain ⟨v, rfl, rv⟩ := r.one
    obtain ⟨a, ys, rfl, s, r1⟩ := rv.tup
    exact ⟨a, ys, rfl, .inr s, fun q hq => p.push st hq (cell_lst hq r1)⟩
  · obtain ⟨v, rfl, rv⟩ := r.one
    obtain ⟨a, ys, rfl, s, r1⟩ := rv.rol
    exact ⟨a, ys, rfl, .inl (rolSq s), fun q hq => p.push st hq (cell_lst hq r1)⟩
  · obtain ⟨v, rfl, rv⟩ := r.one
    obtain ⟨a, ha, rfl⟩ := rv.ref
    split at p
    · rename_i n _ xs hn
      obtain ⟨ys, h1, r1⟩ := st.lst ha hn
      exact ⟨a, ys, rfl, .inl (.of h1), fun q hq => p.push st hq (cell_lst hq r1)⟩
    · exact p.elim
  · exact p.elim
/-! isinstance -/
inductive Tn where
  | non | bl | int | str | tup | lst | dct
  deriving DecidableEq
def Tn.nm : Tn → String
  | .non => "NoneType" | .bl => "bool" | .int => "int" | .str => "str" | .tup => "tuple" | .lst => "list" | .dct => "dict"
def tnOf : D → Store → Option Tn
  | .non, _ => some .non
  | .bl _, _ => some .bl
  | .int _, _ => some .int
  | .str _, _ => some .str
  | .tup _, _ => some .tup
  | .rol _, _ => some .lst
  | .ref n, S => match S[n]? with
    | some (.lst _) => some .lst
    | some (.dK _) => some .dct
    | some (.dT _) => some .dct
    | _ => none
  | .ty _, _ => none
def clsN (x : String) : Option Tn := if x = "int" then some .int else if x = "bool" then some .bl else if x = "tuple" then some .tup else if x = "list" then some .lst else if x = "str" then some .str else if x = "dict" then some .dct else none
def isiT (t c : Tn) : Bool := decide (t = c) || (decide (t = .bl) && decide (c = .int))
theorem clsN_nm {x : String} {c : Tn} (h : clsN x = some c) : x = c.nm ∧ c ≠ .non := by
  unfold clsN at h
  repeat (first
    | (split at h; · rename_i e; cases h; exact ⟨e, by decide⟩)
    | cases h)
theorem kitT : ∀ (t c : Tn), c ≠ .non → kitB t.nm c.nm = some (isiT t c) := by
  intro t c
  cases t <;> cases c <;> first | (intro h; exact absurd rfl h) | (intro _; decide +kernel)
theorem StOk.dT {K : PySem.W.Frag} {φ : List Addr} {H : Hp} {S : Store} {n : Nat} {ds : List (List Key × D)} (st : StOk K φ H S) {a : Addr} (ha : φ[n]? = some a) (h : (S[n]? : Option Cell) = some (.dT ds)) : ∃ ws, H a = some (.dT ws) ∧ RepT ds ws (RepV K φ H) := by
  obtain ⟨b, h1, x⟩ := st.at_ n _ h
  rw [ha] at h1; cases h1
  exact x
theorem tnOf_ok {K : PySem.W.Frag} {φ : List Addr} {H : Hp} {S : Store} {d : D} {x : V} {t : Tn} (st : StOk K φ H S) (r : RepV K φ H d x) (h : tnOf d S = some t) : TyX K H x (.type t.nm) := by
  cases d with
  | non => cases r.non; cases h; exact .base .non
  | bl c => cases r.bl; cases h; exact .base (.bl c)
  | int i => cases r.int; cases h; exact .base (.int i)
  | str z => cases r.str; cases h; exact .base (.str z)
  | tup ds =>
    obtain ⟨a, xs, rfl, s, r1⟩ := r.tup
    cases h
    rcases s with (s | ⟨o, s⟩) | ⟨o, its, n, h1, h2, _⟩
    · exact .base (.tup s)
    · exact .fTuple s
    · exact .kTuple h1 h2
  | rol ds =>
    obtain ⟨a, xs, rfl, s, r1⟩ := r.rol
    cases h
    rcases s with ⟨o, s⟩ | ((s | ⟨o, s⟩) | ⟨o, its, n, h1, h2, _⟩)
    · exact .base (.frz s)
    · cases s
    · cases s
    · exact .kList h1 h2
  | ref n =>
    obtain ⟨a, ha, rfl⟩ := r.ref
    have h : (match (S[n]? : Option Cell) with
      | some (.lst _) => some Tn.lst
      | some (.dK _) => some .dct
      | some (.dT _) => some .dct
      | _ => none) = some t := h
    split at h
    · rename_i ds hn
      cases h
      obtain ⟨xs, e1, r1⟩ := st.lst ha hn
      exact .base (.lst e1)
    · rename_i ds hn
      cases h
      obtain ⟨xs, e1, r1⟩ := st.dK ha hn
      exact .base (.dK e1)
    · rename_i ds hn
      cases h
      obtain ⟨xs, e1, r1⟩ := st.dT ha hn
      exact .base (.dT e1)
    · cases h
  | ty _ => cases h
def isiD : F1 := fun ds S => match ds with
  | [d, .ty x] => match tnOf d S, clsN x with
    | some t, some c => .ok (.bl (isiT t c)) S
    | _, _ => .bad
  | _ => .bad
theorem isi_rule {K : PySem.W.Frag} : RuleC K isiD (rIsi K) := by
  intro W φ σ H e S Q xs ds st r p
  unfold isiD at p
  split at p
  · rename_i d x
    obtain ⟨v, v', rfl, r1, r2⟩ := r.two
    split at p
    · rename_i t c ht hc
      cases r2.ty
      obtain ⟨e1, e2⟩ := clsN_nm hc
      subst e1
      exact ⟨v, _, _, _, _, rfl, .ty _, tnOf_ok st r1 ht, kit_ty (kitT t c e2), p.give st .mkBl⟩
    · exact p.elim
  · exact p.elim

/-! ### subscripts -/
theorem atI_rep {K : PySem.W.Frag} {φ : List Addr} {H : Hp} {ds : List D} {xs : List V} {i : Int} {d : D} (r : RepL K φ H ds xs) (h : atI ds i = some d) : ∃ v, atI xs i = some v ∧ RepV K φ H d v := by
  unfold atI at h ⊢
  rw [r.len]
  cases e : ixN ds.length i with
  | none => rw [e] at h; cases h
  | some j =>
    rw [e] at h
    obtain ⟨v, h1, rv⟩ := r.get h
    exact ⟨v, h1, rv⟩
def ixD : F2 := fun x y S => match x, y with
  | .tup ds, .int i => match atI ds i with
    | some d => .ok d S
    | none => .bad
  | .rol ds, .int i => match atI ds i with
    | some d => .ok d S
    | none => .bad
  | .ref n, .int i => match S[n]? with
    | some (.lst ds) => match atI ds i with
      | some d => .ok d S
      | none => .bad
    | _ => .bad
  | .str z, .int i => match atI z.cps.toList i with
    | some c => if z.length ≤ 1000000 then .ok (.str ⟨#[c]⟩) S else .bad
    | none => .bad
  | _, _ => .bad
theorem ix_rule {K : PySem.W.Frag} : Rule2 K ixD (rIx K) := by
  intro W φ σ H e S Q x y dx dy st rx ry p
  unfold ixD at p
  split at p
  · split at p
    · rename_i d hd
      obtain ⟨a, xs, rfl, s, r⟩ := rx.tup
      obtain ⟨v, h1, rv⟩ := atI_rep r hd
      exact .inr (.inl ⟨a, xs, _, v, rfl, ry.int, s, h1, p.give st rv⟩)
    · exact p.elim
  · split at p
    · rename_i d hd
      obtain ⟨a, xs, rfl, s, r⟩ := rx.rol
      obtain ⟨v, h1, rv⟩ := atI_rep r hd
      exact .inl ⟨a, xs, _, v, rfl, ry.int, rolSq s, h1, p.give st rv⟩
    · exact p.elim
  · split at p
    · rename_i ds hn
      split at p
      · rename_i d hd
        obtain ⟨a, ha, rfl⟩ := rx.ref
        obtain ⟨xs, h0, r⟩ := st.lst ha hn
        obtain ⟨v, h1, rv⟩ := atI_rep r hd
        exact .inl ⟨a, xs, _, v, rfl, ry.int, .of h0, h1, p.give st rv⟩
      · exact p.elim
    · exact p.elim
  · split at p
    · rename_i c hc
      split at p
      · rename_i hl
        exact .inr (.inr ⟨_, _, c, rx.str, ry.int, lim_ok hl, hc, p.give st .mkStr⟩)
      · exact p.elim
    · exact p.elim
  · exact p.elim
/-! slices -/
abbrev MO := Vs → Store → R (Option Int)
abbrev rdO (K : PySem.W.Frag) (W : Wish) (m : MO) : TO := rdG (fun _ _ (a b : Option Int) => b = a) K W m
def oN : MO := fun _ S => .ok none S
def oS (m : ME) : MO := fun e S => (m e S).bind fun d S1 => match d with
  | .int i => .ok (some i) S1
  | _ => .bad
def cutD (xs : List D) (lo hi : Option Int) : List D := (xs.drop (HT.sIx xs.length 0 lo)).take (HT.sIx xs.length xs.length hi - HT.sIx xs.length 0 lo)
theorem cut_rep {K : PySem.W.Frag} {φ : List Addr} {H : Hp} {ds : List D} {xs : List V} {lo hi : Option Int} (r : RepL K φ H ds xs) : RepL K φ H (cutD ds lo hi) (cutV xs lo hi) := by
  unfold cutD cutV
  rw [r.len]
  exact (r.drop _).take _
def slD (x : D) (lo hi : Option Int) (S : Store) : R D := match x with
  | .tup ds => .ok (.tup (cutD ds lo hi)) S
  | .rol ds => .ok (.ref S.length) (S ++ [.lst (cutD ds lo hi)])
  | .ref n => match S[n]? with
    | some (.lst ds) => .ok (.ref S.length) (S ++ [.lst (cutD ds lo hi)])
    | _ => .bad
  | _ => .bad
def slV (a : ME) (lo hi : MO) : ME := fun e S => (a e S).bind fun x S1 => (lo e S1).bind fun l S2 => (hi e S2).bind fun u S3 => slD x l u S3
section
variable {X : Cx} {W : Wish} {a b : Expr} {ma mb : ME} {lo hi : Option Expr} {ml mh : MO} {pos p2 : Pos}
theorem q_ix (ha : PE X a (rd X.K W ma)) (hb : PE X b (rd X.K W mb)) (hs : PlainIx b := by exact fun _ _ => rfl) : PE X (.Subscript a b pos) (rd X.K W (bin ixD ma mb)) := pe_imp (pe_ix ix_seq ha hb hs) fun _ _ _ h => rd_bin ix_rule h
theorem po_imp {e : Option Expr} {t t' : TO} (h : PO X e t) (i : ∀ σ H Q, t' σ H Q → t σ H Q) : PO X e t' := ⟨fun pins s σ H Q I q => h.run pins s σ H Q I (i σ H Q q)⟩
theorem o_none : PO X none (rdO X.K W oN) := po_imp po_none fun σ H Q h => by
  obtain ⟨φ, e, S, g, p⟩ := h
  exact p.give g.st rfl
theorem o_some (ha : PE X a (rd X.K W ma)) : PO X (some a) (rdO X.K W (oS ma)) := po_imp (po_some ha) fun σ H Q h => by
  obtain ⟨φ, e, S, g, p⟩ := h
  refine bindG g p fun d S1 φ1 H1 x e1 k1 g1 rx p1 => ?_
  split at p1
  · exact ⟨_, rx.int, p1.give g1.st rfl⟩
  · exact p1.elim
theorem q_slice (ha : PE X a (rd X.K W ma)) (hl : PO X lo (rdO X.K W ml)) (hh : PO X hi (rdO X.K W mh)) : PE X (.Subscript a (.Slice lo hi none p2) pos) (rd X.K W (slV ma ml mh)) :=
  pe_imp (pe_slice (sl_tupA.or sl_list) ha hl hh) fun σ H Q h => by
    obtain ⟨φ, e, S, g, p⟩ := h
    refine bindG g p fun dx S1 φ1 H1 x e1 k1 g1 rx p1 => bindG g1 p1 fun l S2 φ2 H2 l' e2 k2 g2 rl p2 => bindG g2 p2 fun u S3 φ3 H3 u' e3 k3 g3 ru p3 => ?_
    subst rl ru
    have rx3 := (rx.mono e2 k2).mono e3 k3
    have st := g3.st
    unfold slD at p3
    split at p3
    · obtain ⟨a, xs, rfl, s, r⟩ := rx3.tup
      refine .inl ⟨a, xs, rfl, s, fun hw => p3.give st ?_, fun hw q hq => p3.tup st hq (cut_rep r)⟩
      refine .mkTup s ?_
      have q := cut_rep (lo := l') (hi := u') r
      have e0 : cutV xs l' u' = xs := by
        unfold cutV
        rw [hw.1, hw.2, List.drop_zero, Nat.sub_zero, List.take_length]
      rw [e0] at q
      exact q
    · obtain ⟨a, xs, rfl, s, r⟩ := rx3.rol
      exact .inr ⟨a, xs, rfl, rolSq s, fun q hq => p3.push st hq (cell_lst hq (cut_rep r))⟩
    · split at p3
      · rename_i ds hn
        obtain ⟨a, ha, rfl⟩ := rx3.ref
        obtain ⟨xs, h0, r⟩ := st.lst ha hn
        exact .inr ⟨a, xs, rfl, .of h0, fun q hq => p3.push st hq (cell_lst hq (cut_rep r))⟩
      · exact p3.elim
    · exact p3.elim
end
/-! ### xs.append(e), xs.extend(ys) -/
def appV (o a : ME) : ME := fun e S => (o e S).bind fun x S1 => match x with
  | .ref n => match S1[n]? with
    | some (.lst _) => (a e S1).bind fun y S2 => match S2[n]? with
      | some (.lst ds) => if ds.length < 1000000 then .ok .non (S2.set n (.lst (ds ++ [y]))) else .bad
      | _ => .bad
    | _ => .bad
  | _ => .bad
section
variable {X : Cx} {W : Wish} {o a : Expr} {mo ma : ME} {pos apos : Pos}
theorem RepL.snoc {K : PySem.W.Frag} {φ : List Addr} {H : Hp} {ds : List D} {xs : List V} {d : D} {v : V} (r : RepL K φ H ds xs) (rv : RepV K φ H d v) : RepL K φ H (ds ++ [d]) (xs ++ [v]) := r.append (.cons rv .nil)
/-- a list's cell is changed -/
theorem post.put {K : PySem.W.Frag} {φ : List Addr} {σ : L2.St} {H : Hp} {e : Vs} {S : Store} {Q : VK} {n : Nat} {a : Addr} {ds : List D} {xs : List V} {d : D} {v : V} (p : post (RepV K) K W φ σ H e Q (.ok d (S.set n (.lst ds)))) (st : StOk K φ H S) (ha : φ[n]? = some a) {ds0 : List D} (hn : (S[n]? : Option Cell) = some (.lst ds0)) (r : RepL K φ H ds xs) (rv : RepV K φ H d v) : Q v (upd H a (.lst xs)) := by
  obtain ⟨u, hu, t1, t2⟩ := st.some_ ha hn trivial
  have k : Keep H (upd H a (.lst xs)) := Keep.put hu t1 t2
  exact p φ _ v (List.prefix_refl φ) k (st.put (c := .lst ds) ha hn trivial (⟨xs, upd_same, r.mono (List.prefix_refl φ) k⟩ : CellOk K φ (upd H a (.lst xs)) a (.lst ds))).1 (rv.mono (List.prefix_refl φ) k)
theorem q_append {e : Expr} (h : PE X e (tBM X.K "list" rAppend (rd X.K W mo) (tCons (rd X.K W ma) tNil))) : PE X e (rd X.K W (appV mo ma)) :=
  pe_imp h fun σ H Q h => by
    obtain ⟨φ, e, S, g, p⟩ := h
    refine bindG g p fun dx S1 φ1 H1 x e1 k1 g1 rx p1 => ?_
    split at p1
    · rename_i n
      split at p1
      · rename_i ds0 hn
        obtain ⟨l, hl, rfl⟩ := rx.ref
        obtain ⟨xs0, h0, _⟩ := g1.st.lst hl hn
        refine ⟨.inl ⟨rfl, xs0, .of h0⟩, ?_⟩
        refine bindG g1 p1 fun dy S2 φ2 H2 y e2 k2 g2 ry p2 => ?_
        split at p2
        · rename_i ds hn2
          split at p2
          · rename_i hlt
            have hl2 := pre_get e2 hl
            obtain ⟨xs, h2, r2⟩ := g2.st.lst hl2 hn2
            exact ⟨l, xs, y, rfl, rfl, h2, lim_lt (by rw [r2.len]; omega), p2.put g2.st hl2 hn2 (r2.snoc ry) .mkNon⟩
          · exact p2.elim
        · exact p2.elim
      · exact p1.elim
    · exact p1.elim
end
end Mi

namespace Mi
open PySem PySem.Spec L2

/-! ### data are compared by a program -/
mutual
def D.beq : D → D → Bool
  | .non, .non => true
  | .bl a, .bl b => a == b
  | .int a, .int b => a == b
  | .str a, .str b => decide (a = b)
  | .tup a, .tup b => D.beqL a b
  | .rol a, .rol b => D.beqL a b
  | .ref a, .ref b => a == b
  | .ty a, .ty b => a == b
  | _, _ => false
def D.beqL : List D → List D → Bool
  | [], [] => true
  | a :: as, b :: bs => D.beq a b && D.beqL as bs
  | _, _ => false
end
mutual
theorem D.beq_eq : ∀ (a b : D), D.beq a b = true → a = b
  | .non, b, h => by cases b <;> first | rfl | (simp [D.beq] at h)
  | .bl a, b, h => by cases b <;> simp [D.beq] at h; rw [h]
  | .int a, b, h => by cases b <;> simp [D.beq] at h; rw [h]
  | .str a, b, h => by cases b <;> simp [D.beq] at h; rw [h]
  | .tup a, b, h => by cases b <;> simp [D.beq] at h; rw [D.beqL_eq _ _ h]
  | .rol a, b, h => by cases b <;> simp [D.beq] at h; rw [D.beqL_eq _ _ h]
  | .ref a, b, h => by cases b <;> simp [D.beq] at h; rw [h]
  | .ty a, b, h => by cases b <;> simp [D.beq] at h; rw [h]
theorem D.beqL_eq : ∀ (a b : List D), D.beqL a b = true → a = b
  | [], b, h => by cases b <;> first | rfl | (simp [D.beqL] at h)
  | a :: as, b, h => by
    cases b with
    | nil => simp [D.beqL] at h
    | cons b bs =>
      simp [D.beqL] at h
      rw [D.beq_eq _ _ h.1, D.beqL_eq _ _ h.2]
end
mutual
theorem D.beq_self : ∀ a : D, D.beq a a = true
  | .non => rfl
  | .bl a => by simp [D.beq]
  | .int a => by simp [D.beq]
  | .str a => by simp [D.beq]
  | .tup a => by simp [D.beq]; exact D.beqL_self a
  | .rol a => by simp [D.beq]; exact D.beqL_self a
  | .ref a => by simp [D.beq]
  | .ty a => by simp [D.beq]
theorem D.beqL_self : ∀ a : List D, D.beqL a a = true
  | [] => rfl
  | a :: as => by simp [D.beqL]; exact ⟨D.beq_self a, D.beqL_self as⟩
end

/-! ### statements -/
def postS (K : PySem.W.Frag) (W : Wish) (φ : List Addr) (H : Hp) (E : Ends) : RS → Prop
  | .nx e S => ∀ φ' σ' H', φ <+: φ' → Keep H H' → Good K φ' σ' H' e S → E.nx σ' H'
  | .bk e S => ∀ φ' σ' H', φ <+: φ' → Keep H H' → Good K φ' σ' H' e S → E.bk σ' H'
  | .ct e S => ∀ φ' σ' H', φ <+: φ' → Keep H H' → Good K φ' σ' H' e S → E.ct σ' H'
  | .rt d S => ∀ φ' H' v, φ <+: φ' → Keep H H' → StOk K φ' H' S → RepV K φ' H' d v → E.rt v H'
  | .exc x e S => ∀ φ' σ' H', φ <+: φ' → Keep H H' → Good K φ' σ' H' e S → W φ' σ' H' e S x
  | .bad => False
def rdS (K : PySem.W.Frag) (W : Wish) (m : MS) : TS := fun E σ H => ∃ φ e S, Good K φ σ H e S ∧ postS K W φ H E (m e S)
def noX {α : Type} : R α → R α
  | .exc _ _ => .bad
  | r => r
def exS {α : Type} (r : R α) (e : Vs) (k : α → Store → RS) : RS := match r with
  | .ok a s => k a s
  | .exc x s => .exc x e s
  | .bad => .bad
section
variable {α β : Type} {RA : List Addr → Hp → α → β → Prop} {K : PySem.W.Frag} {W : Wish} {φ φ1 : List Addr} {σ : L2.St} {H H1 : Hp} {e : Vs} {S : Store} {E E' : Ends}
theorem postS.mono (p : φ <+: φ1) (k : Keep H H1) : ∀ {r : RS}, postS K W φ H E r → postS K W φ1 H1 E r
  | .nx _ _, h => fun φ' σ' H' p' k' => h φ' σ' H' (p.trans p') (k.trans k')
  | .bk _ _, h => fun φ' σ' H' p' k' => h φ' σ' H' (p.trans p') (k.trans k')
  | .ct _ _, h => fun φ' σ' H' p' k' => h φ' σ' H' (p.trans p') (k.trans k')
  | .rt _ _, h => fun φ' H' v p' k' => h φ' H' v (p.trans p') (k.trans k')
  | .exc _ _ _, h => fun φ' σ' H' p' k' => h φ' σ' H' (p.trans p') (k.trans k')
  | .bad, h => h
theorem bindS {m : Vs → Store → R α} {k : α → Store → RS} {Q' : β → Hp → Prop} (g : Good K φ σ H e S) (h : postS K W φ H E (exS (m e S) e k))
    (nx : ∀ d S1 φ1 H1 v, φ <+: φ1 → Keep H H1 → Good K φ1 σ H1 e S1 → RA φ1 H1 d v → postS K W φ1 H1 E (k d S1) → Q' v H1) : rdG RA K W m σ H Q' := by
  refine ⟨φ, e, S, g, ?_⟩
  cases hm : m e S with
  | ok d S1 =>
    rw [hm] at h
    exact fun φ' H' v p k' st r => nx d S1 φ' H' v p k' (g.mono p k' st) r (postS.mono p k' h)
  | exc x S1 =>
    rw [hm] at h
    exact fun φ' H' p k' g' => h φ' σ H' p k' g'
  | bad =>
    rw [hm] at h
    exact h
theorem postS.next (h : postS K W φ H E (.nx e S)) (g : Good K φ σ H e S) : E.nx σ H := h φ σ H (List.prefix_refl φ) (Keep.refl H) g
end
def seqS (a b : MS) : MS := fun e S => match a e S with
  | .nx e1 S1 => b e1 S1
  | r => r
def nxS : MS := fun e S => .nx e S
def exprS (m : ME) : MS := fun e S => exS (m e S) e fun _ S1 => .nx e S1
def retS (m : ME) : MS := fun e S => exS (m e S) e fun d S1 => .rt d S1
def setS (i : Nat) (m : ME) : MS := fun e S => exS (m e S) e fun d S1 => .nx (e.set i (some d)) S1
def ifS (c : MB) (a b : MS) : MS := fun e S => exS (c e S) e fun k S1 => match k with
  | true => a e S1
  | false => b e S1
abbrev MT := D → Vs → Store → R Vs
abbrev MTs := List D → Vs → Store → R Vs
def asgS (m : ME) (t : MT) : MS := fun e S => exS (m e S) e fun d S1 => exS (noX (t d e S1)) e fun e' S2 => .nx e' S2
def parS (i j : Nat) (ms : ML) : MS := fun e S => exS (ms e S) e fun ds S1 => match ds with
  | [d1, d2] => .nx ((e.set i (some d1)).set j (some d2)) S1
  | _ => .bad
def par3S (i j l : Nat) (ms : ML) : MS := fun e S => exS (ms e S) e fun ds S1 => match ds with
  | [d1, d2, d3] => .nx (((e.set i (some d1)).set j (some d2)).set l (some d3)) S1
  | _ => .bad
def augS (i : Nat) (f : F2) (m : ME) : MS := fun e S => match e[i]? with
  | some (some x) => exS (m e S) e fun y S1 => exS (f x y S1) e fun z S2 => .nx (e.set i (some z)) S2
  | _ => .bad
/-! targets -/
def Off (ts : List Nat) (σ σ' : L2.St) : Prop := σ'.length = σ.length ∧ ∀ j, j ∉ ts → σ'[j]? = σ[j]?
def postT (K : PySem.W.Frag) (ts : List Nat) (φ : List Addr) (σ : L2.St) (H : Hp) (Q : L2.St → Hp → Prop) : R Vs → Prop
  | .ok e' S' => ∀ φ' σ' H', φ <+: φ' → Keep H H' → Off ts σ σ' → Good K φ' σ' H' e' S' → Q σ' H'
  | _ => False
def rdT (K : PySem.W.Frag) (ts : List Nat) (t : MT) : TG := fun v σ H Q => ∃ φ e S d, Good K φ σ H e S ∧ RepV K φ H d v ∧ postT K ts φ σ H Q (t d e S)
def rdTs (K : PySem.W.Frag) (ts : List Nat) (t : MTs) : TGs := fun vs σ H Q => ∃ φ e S ds, Good K φ σ H e S ∧ RepL K φ H ds vs ∧ postT K ts φ σ H Q (t ds e S)
theorem Off.refl (ts : List Nat) (σ : L2.St) : Off ts σ σ := ⟨rfl, fun _ _ => rfl⟩
theorem Off.trans {ts : List Nat} {σ σ1 σ2 : L2.St} (a : Off ts σ σ1) (b : Off ts σ1 σ2) : Off ts σ σ2 := ⟨b.1.trans a.1, fun j h => (b.2 j h).trans (a.2 j h)⟩
theorem Off.mono {ts us : List Nat} {σ σ1 : L2.St} (a : Off ts σ σ1) (h : ∀ j ∈ ts, j ∈ us) : Off us σ σ1 := ⟨a.1, fun j q => a.2 j fun z => q (h j z)⟩
theorem Off.set (σ : L2.St) (i : Nat) (v : Option V) : Off [i] σ (σ.set i v) := ⟨List.length_set, fun j h => by
  rw [List.getElem?_set, if_neg fun z => h (by rw [z]; exact List.mem_singleton.mpr rfl)]⟩
section
variable {X : Cx} {W : Wish} {st : Stmt} {rest : List Stmt} {ma mb : MS} {m : ME} {a : Expr} {pos : Pos}
theorem pss_imp {e : List Stmt} {t t' : TS} (h : PSs X e t) (i : ∀ D σ H, t' D σ H → t D σ H) : PSs X e t' := ⟨fun pins s σ H D I q => h.run pins s σ H D I (i D σ H q)⟩
theorem pg_imp {e : Expr} {t t' : TG} (h : PG X e t) (i : ∀ v σ H Q, t' v σ H Q → t v σ H Q) : PG X e t' := ⟨fun pins s σ H v u Q I r q => h.run pins s σ H v u Q I r (i v σ H Q q)⟩
theorem s_nil : PSs X [] (rdS X.K W nxS) := pss_imp pss_nil fun E σ H h => by
  obtain ⟨φ, e, S, g, p⟩ := h
  exact p.next g
theorem s_cons (h1 : PS X st (rdS X.K W ma)) (h2 : PSs X rest (rdS X.K W mb)) : PSs X (st :: rest) (rdS X.K W (seqS ma mb)) := pss_imp (pss_cons h1 h2) fun E σ H h => by
  obtain ⟨φ, e, S, g, p⟩ := h
  refine ⟨φ, e, S, g, ?_⟩
  unfold seqS at p
  cases hm : ma e S with
  | nx e1 S1 =>
    rw [hm] at p
    exact fun φ' σ' H' q k g' => ⟨φ', e1, S1, g', postS.mono q k p⟩
  | bk _ _ => rw [hm] at p; exact p
  | ct _ _ => rw [hm] at p; exact p
  | rt _ _ => rw [hm] at p; exact p
  | exc _ _ _ => rw [hm] at p; exact p
  | bad => rw [hm] at p; exact p
theorem s_one (h1 : PS X st (rdS X.K W ma)) : PSs X [st] (rdS X.K W ma) := pss_one h1
theorem s_pass : PS X (.Pass pos) (rdS X.K W nxS) := ps_imp ps_pass fun E σ H h => by
  obtain ⟨φ, e, S, g, p⟩ := h
  exact p.next g
theorem s_break : PS X (.Break pos) (rdS X.K W fun e S => .bk e S) := ps_imp ps_break fun E σ H h => by
  obtain ⟨φ, e, S, g, p⟩ := h
  exact p φ σ H (List.prefix_refl φ) (Keep.refl H) g
theorem s_continue : PS X (.Continue pos) (rdS X.K W fun e S => .ct e S) := ps_imp ps_continue fun E σ H h => by
  obtain ⟨φ, e, S, g, p⟩ := h
  exact p φ σ H (List.prefix_refl φ) (Keep.refl H) g
theorem s_expr (ha : PE X a (rd X.K W m)) (hs : swapsWith a none pos.line X.env = pure false := by rfl) : PS X (.Expr a pos) (rdS X.K W (exprS m)) := ps_imp (ps_expr ha hs) fun E σ H h => by
  obtain ⟨φ, e, S, g, p⟩ := h
  exact bindS g p fun d S1 φ1 H1 v e1 k1 g1 r p1 => p1.next g1
theorem s_ret (ha : PE X a (rd X.K W m)) : PS X (.Return (some a) pos) (rdS X.K W (retS m)) := ps_imp (ps_ret ha) fun E σ H h => by
  obtain ⟨φ, e, S, g, p⟩ := h
  exact bindS g p fun d S1 φ1 H1 v e1 k1 g1 r p1 => p1 φ1 H1 v (List.prefix_refl φ1) (Keep.refl H1) g1.st r
theorem s_retN : PS X (.Return none pos) (rdS X.K W fun _ S => .rt .non S) := ps_imp ps_retN fun E σ H h => by
  obtain ⟨φ, e, S, g, p⟩ := h
  exact p φ H _ (List.prefix_refl φ) (Keep.refl H) g.st .mkNon
theorem s_if {c : Expr} {x y : List Stmt} {mc : MB} (hc : PT X c (rdB X.K W mc)) (ha : PSs X x (rdS X.K W ma)) (hb : PSs X y (rdS X.K W mb)) : PS X (.If c x y pos) (rdS X.K W (ifS mc ma mb)) := ps_imp (ps_if hc ha hb) fun E σ H h => by
  obtain ⟨φ, e, S, g, p⟩ := h
  refine bindS g p fun d S1 φ1 H1 v e1 k1 g1 r p1 => ?_
  subst r
  cases v with
  | true => exact iteT ⟨φ1, e, S1, g1, p1⟩
  | false => exact iteF ⟨φ1, e, S1, g1, p1⟩
theorem s_set {i : Nat} {x : Str} {pos' : Pos} (hN : X.N.Nodup) (hi : X.N[i]? = some x) (hx : Loc X.env.scope x) (ha : PE X a (rd X.K W m)) (hs : swapsWith a (some (.Name x pos')) pos.line X.env = pure false := by rfl) (hf : X.fn x = true ∨ X.env.scope.names.lookup x = some .local := by first | exact .inl rfl | exact .inr rfl | assumption) :
    PS X (.Assign [.Name x pos'] a pos) (rdS X.K W (setS i m)) := ps_imp (ps_set hN hi hx ha hs hf) fun E σ H h => by
  obtain ⟨φ, e, S, g, p⟩ := h
  exact bindS g p fun d S1 φ1 H1 v e1 k1 g1 r p1 => p1.next ⟨g1.env.set r i, g1.st⟩
theorem s_asg {t : MT} {ts : List Nat} (h : PS X st (tAsg (rd X.K W m) (rdT X.K ts t))) : PS X st (rdS X.K W (asgS m t)) := ps_imp h fun E σ H h => by
  obtain ⟨φ, e, S, g, p⟩ := h
  refine bindS g p fun d S1 φ1 H1 v e1 k1 g1 r p1 => ⟨φ1, e, S1, d, g1, r, ?_⟩
  cases hm : t d e S1 with
  | ok e' S2 =>
    rw [hm] at p1
    exact fun φ' σ' H' q k _ g' => (postS.mono q k p1).next g'
  | exc x S2 =>
    rw [hm] at p1
    exact p1.elim
  | bad =>
    rw [hm] at p1
    exact p1
theorem s_par {i j : Nat} {ms : ML} (h : PS X st (tPar i j (rdL X.K W ms))) : PS X st (rdS X.K W (parS i j ms)) := ps_imp h fun E σ H h => by
  obtain ⟨φ, e, S, g, p⟩ := h
  refine bindS g p fun ds S1 φ1 H1 vs e1 k1 g1 r p1 => ?_
  split at p1
  · obtain ⟨v, w, rfl, r1, r2⟩ := r.two
    exact ⟨v, w, rfl, p1.next ⟨(g1.env.set r1 i).set r2 j, g1.st⟩⟩
  · exact p1.elim
theorem s_aug {i : Nat} {f : F2} {ti : TIp} (hr : Rule2 X.K f ti) (h : PS X st (tAug i (rd X.K W m) ti)) : PS X st (rdS X.K W (augS i f m)) := ps_imp h fun E σ H h => by
  obtain ⟨φ, e, S, g, p⟩ := h
  unfold augS at p
  split at p
  · rename_i d hd
    obtain ⟨v, h1, rx⟩ := g.env.at_ i d hd
    refine ⟨v, h1, bindS g p fun d' S1 φ1 H1 y e1 k1 g1 ry p1 => ?_⟩
    refine hr (W := W) (σ := σ) (e := e) g1.st (rx.mono e1 k1) ry ?_
    cases hm : f d d' S1 with
    | ok z S2 =>
      rw [hm] at p1
      exact fun φ2 H2 w e2 k2 st2 rz => (postS.mono e2 k2 p1).next ⟨(g1.env.mono e2 k2).set rz i, st2⟩
    | exc x S2 =>
      rw [hm] at p1
      exact fun φ' H' q k g' => p1 φ' σ H' q k g'
    | bad =>
      rw [hm] at p1
      exact p1
  · exact p.elim
/-! targets -/
def tgN (i : Nat) : MT := fun d e S => .ok (e.set i (some d)) S
theorem g_name {i : Nat} {x : Str} (hN : X.N.Nodup) (hi : X.N[i]? = some x) (hx : Loc X.env.scope x) (hf : X.fn x = true ∨ X.env.scope.names.lookup x = some .local := by first | exact .inl rfl | exact .inr rfl | assumption) : PG X (.Name x pos) (rdT X.K [i] (tgN i)) :=
  pg_imp (pg_name hN hi hx hf) fun v σ H Q h => by
    obtain ⟨φ, e, S, d, g, r, p⟩ := h
    exact p φ _ H (List.prefix_refl φ) (Keep.refl H) (Off.set σ i _) ⟨g.env.set r i, g.st⟩
def tsN : MTs := fun ds e S => match ds with
  | [] => .ok e S
  | _ => .bad
def tsC (t : MT) (u : MTs) : MTs := fun ds e S => match ds with
  | d :: r => (noX (t d e S)).bind fun e1 S1 => u r e1 S1
  | [] => .bad
theorem pgs_imp {e : List Expr} {t t' : TGs} (h : PGs X e t) (i : ∀ v σ H Q, t' v σ H Q → t v σ H Q) : PGs X e t' := ⟨fun pins s σ H v u Q I r q => h.run pins s σ H v u Q I r (i v σ H Q q)⟩
theorem gs_nil : PGs X [] (rdTs X.K [] tsN) := pgs_imp pgs_nil fun vs σ H Q h => by
  obtain ⟨φ, e, S, ds, g, r, p⟩ := h
  unfold tsN at p
  split at p
  · exact ⟨r.nil_inv, p φ σ H (List.prefix_refl φ) (Keep.refl H) (Off.refl _ _) g⟩
  · exact p.elim
theorem gs_cons {es : List Expr} {t : MT} {u : MTs} {ts us : List Nat} (h : PGs X es (gCons (rdT X.K ts t) (rdTs X.K us u))) : PGs X es (rdTs X.K (ts ++ us) (tsC t u)) := pgs_imp h fun vs σ H Q h => by
  obtain ⟨φ, e, S, ds, g, r, p⟩ := h
  unfold tsC at p
  split at p
  · rename_i d dr
    obtain ⟨v, w, rfl, r1, r2⟩ := r.cons_inv
    refine ⟨v, w, rfl, φ, e, S, d, g, r1, ?_⟩
    cases hm : t d e S with
    | ok e' S2 =>
      rw [hm] at p
      intro φ' σ' H' q k off g'
      refine ⟨φ', e', S2, dr, g', r2.mono q k, ?_⟩
      have p' : postT X.K (ts ++ us) φ σ H Q (u dr e' S2) := p
      cases hu : u dr e' S2 with
      | ok e2 S3 =>
        rw [hu] at p'
        exact fun φ2 σ2 H2 q2 k2 off2 g2 => p' φ2 σ2 H2 (q.trans q2) (k.trans k2) ((off.mono fun j hj => List.mem_append_left _ hj).trans (off2.mono fun j hj => List.mem_append_right _ hj)) g2
      | exc x S3 => rw [hu] at p'; exact p'
      | bad => rw [hu] at p'; exact p'
    | exc x S2 => rw [hm] at p; exact p
    | bad => rw [hm] at p; exact p
  · exact p.elim
def tgT (n : Nat) (u : MTs) : MT := fun d e S => match d with
  | .tup ds => if ds.length = n then u ds e S else .bad
  | _ => .bad
theorem g_tup {e : Expr} {u : MTs} {ts : List Nat} {n : Nat} (h : PG X e (gTup X.K n (rdTs X.K ts u))) : PG X e (rdT X.K ts (tgT n u)) := pg_imp h fun v σ H Q h => by
  obtain ⟨φ, e, S, d, g, r, p⟩ := h
  unfold tgT at p
  split at p
  · rename_i ds
    split at p
    · rename_i hl
      obtain ⟨a, xs, rfl, s, r1⟩ := r.tup
      exact ⟨a, xs, rfl, s, r1.len.trans hl, φ, e, S, ds, g, r1, p⟩
    · exact p.elim
  · exact p.elim
/-- o[i] = .. -/
def tgI (o i : ME) : MT := fun d e S => (noX (o e S)).bind fun x S1 => (noX (i e S1)).bind fun y S2 => match x, y with
  | .ref n, .int k => match S2[n]? with
    | some (.lst ds) => match ixN ds.length k with
      | some j => .ok e (S2.set n (.lst (ds.set j d)))
      | none => .bad
    | _ => .bad
  | _, _ => .bad
theorem noXW {α β : Type} {RA : List Addr → Hp → α → β → Prop} {K : PySem.W.Frag} {W : Wish} {m : Vs → Store → R α} {σ : L2.St} {H : Hp} {Q : β → Hp → Prop} (h : rdG RA K W (fun e S => noX (m e S)) σ H Q) : rdG RA K W m σ H Q := by
  obtain ⟨φ, e, S, g, p⟩ := h
  refine ⟨φ, e, S, g, ?_⟩
  cases hm : m e S with
  | ok d s => simp only [hm, noX] at p; exact p
  | exc x s => simp only [hm, noX] at p; exact p.elim
  | bad => simp only [hm, noX] at p; exact p.elim
theorem g_sub {mo mi : ME} {e : Expr} (h : PG X e (gSub (rd X.K noExc mo) (rd X.K noExc mi) rSetL)) : PG X e (rdT X.K [] (tgI mo mi)) := pg_imp h fun v σ H Q h => by
  obtain ⟨φ, e, S, d, g, r, p⟩ := h
  unfold tgI at p
  cases ho : mo e S with
  | bad => rw [ho] at p; exact p.elim
  | exc x s => rw [ho] at p; exact p.elim
  | ok x S1 =>
    rw [ho] at p
    refine ⟨φ, e, S, g, ?_⟩
    rw [ho]
    intro φ1 H1 vx q1 k1 st1 rx
    cases hi : mi e S1 with
    | bad => simp only [noX, R.bind, hi] at p; exact p.elim
    | exc x s => simp only [noX, R.bind, hi] at p; exact p.elim
    | ok y S2 =>
      simp only [noX, R.bind, hi] at p
      refine ⟨φ1, e, S1, g.mono q1 k1 st1, ?_⟩
      rw [hi]
      intro φ2 H2 vy q2 k2 st2 ry
      split at p
      · rename_i n k
        split at p
        · rename_i ds hn
          split at p
          · rename_i j hj
            obtain ⟨a, ha, rfl⟩ := rx.ref
            have ha2 := pre_get q2 ha
            obtain ⟨xs, h0, r0⟩ := st2.lst ha2 hn
            have rv := (r.mono q1 k1).mono q2 k2
            refine ⟨a, xs, k, j, rfl, ry.int, h0, by rw [r0.len]; exact hj, ?_⟩
            obtain ⟨u, hu, t1, t2⟩ := st2.some_ ha2 hn trivial
            have k3 : Keep H2 (upd H2 a (.lst (xs.set j v))) := Keep.put hu t1 t2
            have st3 := (st2.put (c := .lst (ds.set j d)) ha2 hn trivial (⟨xs.set j v, upd_same, (RepL.set rv j r0).mono (List.prefix_refl φ2) k3⟩ : CellOk X.K φ2 (upd H2 a (.lst (xs.set j v))) a (.lst (ds.set j d)))).1
            exact p φ2 σ _ (q1.trans q2) ((k1.trans k2).trans k3) (Off.refl _ _) ⟨g.env.mono (q1.trans q2) ((k1.trans k2).trans k3), st3⟩
          · exact p.elim
        · exact p.elim
      · exact p.elim
end
end Mi

namespace Mi
open PySem PySem.Spec L2

/-! ### while -/
def whileS (c : MB) (body : MS) : Nat → Vs → Store → RS
  | 0, _, _ => .bad
  | f + 1, e, S => exS (c e S) e fun b S1 => match b with
    | false => .nx e S1
    | true => match body e S1 with
      | .nx e2 S2 => whileS c body f e2 S2
      | .ct e2 S2 => whileS c body f e2 S2
      | .bk e2 S2 => .nx e2 S2
      | .rt d S2 => .rt d S2
      | .exc x e2 S2 => .exc x e2 S2
      | .bad => .bad
section
variable {X : Cx} {W : Wish} {body : List Stmt} {mb : MS} {mc : MB} {c : Expr} {pos : Pos}
theorem s_while (f : Nat) (hp : PassesOwn (model X.prog X.w) X.A X.env X.xe) (hc : PT X c (rdB X.K W mc)) (hb : PSs X body (rdS X.K W mb)) : PS X (.While c body [] pos) (rdS X.K W (whileS mc mb f)) := ps_imp (ps_while hp hc hb) fun E σ H h => by
  refine ⟨fun m σ H => ∃ φ e S, Good X.K φ σ H e S ∧ postS X.K W φ H E (whileS mc mb m e S), ⟨f, h⟩, fun m σ H h => ?_⟩
  obtain ⟨φ, e, S, g, p⟩ := h
  cases m with
  | zero => exact p.elim
  | succ m =>
    refine bindS g p fun b S1 φ1 H1 v e1 k1 g1 r p1 => ?_
    subst r
    cases v with
    | false => exact iteF (p1.next g1)
    | true =>
      refine iteT ⟨fun σ' H' => ∃ φ e S, Good X.K φ σ' H' e S ∧ postS X.K W φ H' E (whileS mc mb m e S), fun σ' H' q => ⟨m, Nat.lt_succ_self m, q⟩, φ1, e, S1, g1, ?_⟩
      have p2 : postS X.K W φ1 H1 E (match mb e S1 with
        | .nx e2 S2 => whileS mc mb m e2 S2
        | .ct e2 S2 => whileS mc mb m e2 S2
        | .bk e2 S2 => .nx e2 S2
        | .rt d S2 => .rt d S2
        | .exc x e2 S2 => .exc x e2 S2
        | .bad => .bad) := p1
      cases hm : mb e S1 with
      | nx e2 S2 => rw [hm] at p2; exact fun φ' σ' H' q k g' => ⟨φ', e2, S2, g', postS.mono q k p2⟩
      | ct e2 S2 => rw [hm] at p2; exact fun φ' σ' H' q k g' => ⟨φ', e2, S2, g', postS.mono q k p2⟩
      | bk e2 S2 => rw [hm] at p2; exact p2
      | rt d S2 => rw [hm] at p2; exact p2
      | exc x e2 S2 => rw [hm] at p2; exact p2
      | bad => rw [hm] at p2; exact p2
end

/-! ### what is walked -/
abbrev Gs := List (Nat × List D)
def chk (gs : Gs) (S : Store) : Bool := gs.all fun g => match (S[g.1]? : Option Cell) with
  | some (.lst ds) => D.beqL ds g.2
  | _ => false
abbrev MI := Vs → Store → R (List D × Gs)
def IsSrc (K : PySem.W.Frag) (φ : List Addr) (H : Hp) (a : List D × Gs) (J : It) : Prop :=
  ∃ (G : List Addr → Hp → Prop) (Y : Nat → Hp → V → Hp → Prop), Walk J a.1.length (fun H => ∃ φ', G φ' H) Y ∧ (∀ φ' H' S', φ <+: φ' → Keep H H' → StOk K φ' H' S' → chk a.2 S' = true → G φ' H') ∧
    ∀ φ' H' i x H2, φ <+: φ' → Keep H H' → i < a.1.length → G φ' H' → Y i H' x H2 → ∃ d, a.1[i]? = some d ∧ RepV K φ' H2 d x ∧ (H2 = H' ∨ ∃ T xs, H' T = none ∧ H2 = upd H' T (.tup xs))
abbrev rdI (K : PySem.W.Frag) (W : Wish) (m : MI) : TI := rdG (IsSrc K) K W m
def srcV (m : ME) : MI := fun e S => (m e S).bind fun d S1 => match d with
  | .tup ds => .ok (ds, []) S1
  | .rol ds => .ok (ds, []) S1
  | .ref n => match S1[n]? with
    | some (.lst ds) => .ok (ds, [(n, ds)]) S1
    | _ => .bad
  | _ => .bad
section
variable {K : PySem.W.Frag} {φ : List Addr} {H : Hp} {ds : List D} {xs : List V} {a : Addr}
theorem walk_un {J : It} {n : Nat} {G : Hp → Prop} {Y : Nat → Hp → V → Hp → Prop} (w : Walk J n G Y) : Walk J n (fun H => ∃ _ : List Addr, G H) Y := w.mono (fun _ ⟨_, h⟩ => h) fun _ _ _ _ _ _ y => y
theorem src_of_list {gs : Gs} (hG : ∀ φ' H' S', φ <+: φ' → Keep H H' → StOk K φ' H' S' → chk gs S' = true → ∃ xs, SqL K H' a xs ∧ RepL K φ' H' ds xs) : IsSrc K φ H (ds, gs) (Itl K a) := by
  refine ⟨fun φ' H' => ∃ xs, SqL K H' a xs ∧ RepL K φ' H' ds xs, fun i H' x H2 => H2 = H' ∧ ∀ xs, SqL K H' a xs → xs[i]? = some x, ⟨fun i H' hi ⟨φ', xs, h, r⟩ => ⟨xs, xs[i]'(by rw [r.len]; exact hi), h, List.getElem?_eq_getElem _⟩, fun H' ⟨φ', xs, h, r⟩ => ⟨xs, h, Nat.le_of_eq r.len⟩, fun i H' x H2 _ _ y => y⟩, hG, fun φ' H' i x H2 q k hi hg y => ?_⟩
  obtain ⟨rfl, hx⟩ := y
  obtain ⟨xs, h, r⟩ := hg
  obtain ⟨v, h1, rv⟩ := r.get (List.getElem?_eq_getElem hi)
  rw [hx xs h] at h1; cases h1
  exact ⟨_, List.getElem?_eq_getElem hi, rv, .inl rfl⟩
theorem src_of_tup (r : RepL K φ H ds xs) (s : SqT K H a xs) : IsSrc K φ H (ds, []) (Itt K a) := by
  refine ⟨fun _ H' => SqT K H' a xs, YAt xs, by rw [← show xs.length = ds.length from r.len]; exact walk_un walk_tup, fun φ' H' S' q k st c => k.seqT s, fun φ' H' i x H2 q k hi hg y => ?_⟩
  obtain ⟨rfl, hx⟩ := y
  obtain ⟨v, h1, rv⟩ := (r.mono q k).get (List.getElem?_eq_getElem hi)
  rw [hx] at h1; cases h1
  exact ⟨_, List.getElem?_eq_getElem hi, rv, .inl rfl⟩
theorem chk_one {n : Nat} {S : Store} (h : chk [(n, ds)] S = true) : (S[n]? : Option Cell) = some (.lst ds) := by
  unfold chk at h
  rw [List.all_cons, List.all_nil, Bool.and_true] at h
  split at h
  · rename_i ds' hn
    rw [hn, D.beqL_eq _ _ h]
  · cases h
def rangeD (lo : Int) (n : Nat) : List D := (List.range n).map fun (i : Nat) => D.int (lo + (i : Int))
theorem rangeD_len (lo : Int) (n : Nat) : (rangeD lo n).length = n := by unfold rangeD; rw [List.length_map, List.length_range]
theorem rangeD_get {lo : Int} {n i : Nat} (h : i < n) : (rangeD lo n)[i]? = some (.int (lo + i)) := by
  unfold rangeD
  rw [List.getElem?_map, List.getElem?_range h]
  rfl
theorem src_of_range (lo : Int) (n : Nat) : IsSrc K φ H (rangeD lo n, []) (Itr lo n) := by
  refine ⟨fun _ _ => True, YFn fun i => .int (lo + i), by rw [show (rangeD lo n, ([] : Gs)).1.length = n from rangeD_len lo n]; exact walk_un walk_range, fun _ _ _ _ _ _ _ => trivial, fun φ' H' i x H2 q k hi hg y => ?_⟩
  obtain ⟨rfl, rfl⟩ := y
  rw [show (rangeD lo n, ([] : Gs)).1.length = n from rangeD_len lo n] at hi
  exact ⟨_, rangeD_get hi, .mkInt, .inl rfl⟩
end
section
variable {X : Cx} {W : Wish} {a b : Expr} {ma mb : ME} {ms : ML} {tg : Expr} {pos p : Pos}
theorem pi_imp {it : Expr} {t t' : TI} (h : PI X tg it t) (i : ∀ σ H Q, t' σ H Q → t σ H Q) : PI X tg it t' := ⟨fun pins s σ H R I q => h.run pins s σ H R I (i σ H R q)⟩
theorem pi_or {it : Expr} {t t' : TI} (h : PI X tg it t) (h' : PI X tg it t') : PI X tg it (fun σ H R => t σ H R ∨ t' σ H R) := ⟨fun pins s σ H R I q => by
  rcases q with q | q
  · exact h.run pins s σ H R I q
  · exact h'.run pins s σ H R I q⟩
theorem post.src {K : PySem.W.Frag} {φ : List Addr} {σ : L2.St} {H : Hp} {e : Vs} {S : Store} {R' : It → Hp → Prop} {ds : List D} {gs : Gs} {J : It} (p : post (IsSrc K) K W φ σ H e R' (.ok (ds, gs) S)) (st : StOk K φ H S) (s : IsSrc K φ H (ds, gs) J) : R' J H := p.give st s
theorem i_val (ha : PE X a (rd X.K W ma)) : PI X tg a (rdI X.K W (srcV ma)) := pi_imp (pi_or (pi_tup ha) (pi_list ha)) fun σ H R' h => by
  obtain ⟨φ, e, S, g, p⟩ := h
  unfold srcV at p
  cases hm : ma e S with
  | bad => rw [hm] at p; exact p.elim
  | exc x s => rw [hm] at p; exact .inl ⟨φ, e, S, g, by rw [hm]; exact p⟩
  | ok d S1 =>
    simp only [hm, R.bind] at p
    split at p
    · rename_i ds
      refine .inl ⟨φ, e, S, g, ?_⟩
      rw [hm]
      intro φ1 H1 v q k st r
      obtain ⟨a, xs, rfl, s, r1⟩ := r.tup
      exact ⟨a, rfl, ⟨xs, s⟩, (post.mono q k p).src st (src_of_tup r1 s)⟩
    · rename_i ds
      refine .inr ⟨φ, e, S, g, ?_⟩
      rw [hm]
      intro φ1 H1 v q k st r
      obtain ⟨a, xs, rfl, s, r1⟩ := r.rol
      refine ⟨a, rfl, ⟨xs, rolSq s⟩, (post.mono q k p).src st (src_of_list fun φ' H' S' q' k' st' _ => ?_)⟩
      rcases s with ⟨o, s⟩ | s
      · exact ⟨xs, rolSq (.inl ⟨o, k'.2 _ _ _ s⟩), r1.mono q' k'⟩
      · exact ⟨xs, rolSq (.inr s), r1.mono q' k'⟩
    · rename_i n
      split at p
      · rename_i ds hn
        refine .inr ⟨φ, e, S, g, ?_⟩
        rw [hm]
        intro φ1 H1 v q k st r
        obtain ⟨a, ha, rfl⟩ := r.ref
        obtain ⟨xs, h0, r1⟩ := st.lst ha hn
        refine ⟨a, rfl, ⟨xs, .of h0⟩, (post.mono q k p).src st (src_of_list fun φ' H' S' q' k' st' c => ?_)⟩
        obtain ⟨ys, h2, r2⟩ := st'.lst (pre_get q' ha) (chk_one c)
        exact ⟨ys, .of h2, r2⟩
      · exact p.elim
    · exact p.elim
/-- range(n), range(a, b) -/
def src1 (ms : ML) : MI := fun e S => (ms e S).bind fun ds S1 => match ds with
  | [.int j] => if j < 1000000000 ∧ -1000000000 < j then .ok (rangeD 0 j.toNat, []) S1 else .bad
  | _ => .bad
def src2 (ms : ML) : MI := fun e S => (ms e S).bind fun ds S1 => match ds with
  | [.int i, .int j] => if j < 1000000000 ∧ -1000000000 < j ∧ i < 1000000000 ∧ -1000000000 < i then .ok (rangeD i (j - i).toNat, []) S1 else .bad
  | _ => .bad
theorem i_rng1 {p pos : Pos} (hg : Gl X "range") (hm : X.mg "range" = none) (ha : PA X [a] (rdL X.K W ms)) (hs : starEach [a] X.env = [(false, eval a X.env)] := by rfl) : PI X tg (.Call (.Name "range" p) [a] [] pos) (rdI X.K W (src1 ms)) :=
  pi_imp (pi_range1 hg hm ha hs) fun σ H R' h => by
    obtain ⟨φ, e, S, g, p⟩ := h
    refine bindG g p fun ds S1 φ1 H1 xs e1 k1 g1 r p1 => ?_
    split at p1
    · split at p1
      · rename_i j hj
        obtain ⟨v, rfl, rv⟩ := r.one
        cases rv.int
        exact ⟨j, rfl, by omega, by omega, p1.src g1.st (src_of_range 0 j.toNat)⟩
      · exact p1.elim
    · exact p1.elim
theorem i_rng2 {p pos : Pos} (hg : Gl X "range") (hm : X.mg "range" = none) (ha : PA X [a, b] (rdL X.K W ms)) (h : PI X tg (.Call (.Name "range" p) [a, b] [] pos) (iRng2 (rdL X.K W ms))) : PI X tg (.Call (.Name "range" p) [a, b] [] pos) (rdI X.K W (src2 ms)) :=
  pi_imp h fun σ H R' h => by
    obtain ⟨φ, e, S, g, p⟩ := h
    refine bindG g p fun ds S1 φ1 H1 xs e1 k1 g1 r p1 => ?_
    split at p1
    · split at p1
      · rename_i i j hj
        obtain ⟨v, v', rfl, rv, rv'⟩ := r.two
        cases rv.int; cases rv'.int
        exact ⟨i, j, rfl, ⟨by omega, by omega, by omega, by omega⟩, p1.src g1.st (src_of_range i (j - i).toNat)⟩
      · exact p1.elim
    · exact p1.elim
end

/-! ### for -/
def forS (t : MT) (body : MS) (gs : Gs) : List D → Vs → Store → RS
  | [], e, S => if chk gs S = true then .nx e S else .bad
  | d :: ds, e, S => if chk gs S = true then exS (noX (t d e S)) e fun e1 S1 => match body e1 S1 with
      | .nx e2 S2 => forS t body gs ds e2 S2
      | .ct e2 S2 => forS t body gs ds e2 S2
      | .bk e2 S2 => .nx e2 S2
      | .rt d S2 => .rt d S2
      | .exc x e2 S2 => .exc x e2 S2
      | .bad => .bad
    else .bad
def forV (src : MI) (t : MT) (body : MS) : MS := fun e S => exS (src e S) e fun a S1 => forS t body a.2 a.1 e S1
theorem forS_chk {K : PySem.W.Frag} {W : Wish} {φ : List Addr} {H : Hp} {E : Ends} {t : MT} {body : MS} {gs : Gs} {ds : List D} {e : Vs} {S : Store} (p : postS K W φ H E (forS t body gs ds e S)) : chk gs S = true := by
  cases ds <;> (unfold forS at p; split at p <;> first | assumption | exact p.elim)
section
variable {X : Cx} {W : Wish} {body : List Stmt} {mb : MS} {iter tg : Expr} {src : MI} {t : MT} {ts : List Nat} {pos : Pos} {st : Stmt}
theorem s_for (h : PS X st (tFor (rdI X.K W src) (rdT X.K ts t) (rdS X.K W mb))) : PS X st (rdS X.K W (forV src t mb)) := ps_imp h fun E σ0 H0 h => by
  obtain ⟨φ0, e0, S0, g0, p0⟩ := h
  refine bindS g0 p0 fun a S1 φ1 H1 J e1 k1 g1 r p1 => ?_
  obtain ⟨ds, gs⟩ := a
  obtain ⟨G, Y, w, hG, hY⟩ := r
  refine for_it w (fun i σ H => ∃ φ e S, φ1 <+: φ ∧ Keep H1 H ∧ Good X.K φ σ H e S ∧ postS X.K W φ H E (forS t mb gs (ds.drop i) e S)) ⟨φ1, e0, S1, List.prefix_refl φ1, Keep.refl H1, g1, p1⟩ (fun i σ H hi h => ?_) (fun i x σ H H' hi h y => ?_) fun σ H h => ?_
  · obtain ⟨φ, e, S, q, k, g, p⟩ := h
    exact ⟨φ, hG φ H S q k g.st (forS_chk p)⟩
  · obtain ⟨φ, e, S, q, k, g, p⟩ := h
    have hc := forS_chk p
    obtain ⟨d, hd, rv, hH⟩ := hY φ H i x H' q k hi (hG φ H S q k g.st hc) y
    have kk : Keep H H' ∧ StOk X.K φ H' S := by
      rcases hH with rfl | ⟨T, xs, hT, rfl⟩
      · exact ⟨Keep.refl _, g.st⟩
      · exact ⟨Keep.new hT, g.st.new hT⟩
    have ed : ds.drop i = d :: ds.drop (i + 1) := by
      have hi' : i < ds.length := hi
      rw [List.drop_eq_getElem_cons hi']
      have : ds[i]? = some d := hd
      rw [List.getElem?_eq_getElem hi'] at this
      rw [Option.some.inj this]
    rw [ed] at p
    unfold forS at p
    rw [if_pos hc] at p
    refine ⟨φ, e, S, d, g.mono (List.prefix_refl φ) kk.1 kk.2, rv, ?_⟩
    cases hm : t d e S with
    | exc x s => rw [hm] at p; exact p.elim
    | bad => rw [hm] at p; exact p.elim
    | ok e' S' =>
      rw [hm] at p
      intro φ2 σ2 H2 q2 k2 _ g2
      refine ⟨φ2, e', S', g2, ?_⟩
      have p2 : postS X.K W φ2 H2 E (match mb e' S' with
        | .nx e2 S2 => forS t mb gs (ds.drop (i + 1)) e2 S2
        | .ct e2 S2 => forS t mb gs (ds.drop (i + 1)) e2 S2
        | .bk e2 S2 => .nx e2 S2
        | .rt d S2 => .rt d S2
        | .exc x e2 S2 => .exc x e2 S2
        | .bad => .bad) := postS.mono q2 (kk.1.trans k2) p
      have kA : Keep H1 H2 := k.trans (kk.1.trans k2)
      cases hb : mb e' S' with
      | nx e2 S2 => rw [hb] at p2; exact fun φ' σ' H' q' k' g' => ⟨φ', e2, S2, (q.trans q2).trans q', kA.trans k', g', postS.mono q' k' p2⟩
      | ct e2 S2 => rw [hb] at p2; exact fun φ' σ' H' q' k' g' => ⟨φ', e2, S2, (q.trans q2).trans q', kA.trans k', g', postS.mono q' k' p2⟩
      | bk e2 S2 => rw [hb] at p2; exact p2
      | rt d S2 => rw [hb] at p2; exact p2
      | exc x e2 S2 => rw [hb] at p2; exact p2
      | bad => rw [hb] at p2; exact p2
  · obtain ⟨φ, e, S, q, k, g, p⟩ := h
    have hc := forS_chk p
    rw [show ds.drop (ds, gs).1.length = [] from List.drop_length] at p
    unfold forS at p
    rw [if_pos hc] at p
    exact p.next g
end

/-! ### comprehensions -/
def wipeE (e : Vs) : List Nat → Vs
  | [] => e
  | v :: vs => (wipeE e vs).set v none
def lcS (t : MT) (tt : MB) (el : ME) (vs : List Nat) (gs : Gs) (n0 : Nat) (e : Vs) : List D → Store → R D
  | [], S => if chk gs S = true then .ok (.ref n0) S else .bad
  | d :: ds, S => if chk gs S = true then (noX (t d (wipeE e vs) S)).bind fun e1 S1 => (noX (tt e1 S1)).bind fun b S2 => match b with
      | true => (noX (el e1 S2)).bind fun y S3 => match S3[n0]? with
        | some (.lst acc) => if acc.length < 1000000 then lcS t tt el vs gs n0 e ds (S3.set n0 (.lst (acc ++ [y]))) else .bad
        | _ => .bad
      | false => lcS t tt el vs gs n0 e ds S2
    else .bad
def lcV (src : MI) (t : MT) (tt : MB) (el : ME) (vs : List Nat) : ME := fun e S => (src e S).bind fun a S1 => lcS t tt el vs a.2 S1.length e a.1 (S1 ++ [.lst []])
theorem lcS_chk {K : PySem.W.Frag} {W : Wish} {φ : List Addr} {σ : L2.St} {H : Hp} {e0 : Vs} {Q : VK} {t : MT} {tt : MB} {el : ME} {vs : List Nat} {gs : Gs} {n0 : Nat} {e : Vs} {ds : List D} {S : Store} (p : post (RepV K) K W φ σ H e0 Q (lcS t tt el vs gs n0 e ds S)) : chk gs S = true := by
  cases ds <;> (unfold lcS at p; split at p <;> first | assumption | exact p.elim)
theorem EnvOk.wipes {K : PySem.W.Frag} {φ : List Addr} {H : Hp} {σ : L2.St} {e : Vs} (x : EnvOk K φ H σ e) : ∀ vs : List Nat, EnvOk K φ H (L2.wipe σ vs) (wipeE e vs)
  | [] => x
  | v :: vs => (EnvOk.wipes x vs).wipe none v
theorem wipe_get {σ : L2.St} : ∀ {vs : List Nat} {j : Nat}, (wipe σ vs)[j]? = if j ∈ vs ∧ j < σ.length then some none else σ[j]?
  | [], j => by simp [wipe]
  | v :: vs, j => by
    unfold wipe
    rw [List.getElem?_set, wipe_length, wipe_get]
    by_cases h : v = j
    · subst h
      simp only [if_true, List.mem_cons, true_or, true_and]
      by_cases hj : v < σ.length
      · rw [if_pos hj, if_pos hj]
      · rw [if_neg hj, if_neg hj, List.getElem?_eq_none (by omega)]
    · have : (j = v) = False := by simp [Ne.symm h]
      simp only [if_neg h, List.mem_cons, this, false_or]
theorem wipe_off {σ σ2 : L2.St} {ts vs : List Nat} (h : Off ts (wipe σ vs) σ2) (hs : ∀ j ∈ ts, j ∈ vs) : wipe σ2 vs = wipe σ vs := by
  have hl : σ2.length = σ.length := h.1.trans (wipe_length σ vs)
  apply List.ext_getElem?
  intro j
  rw [wipe_get, wipe_get, hl]
  by_cases hj : j ∈ vs ∧ j < σ.length
  · rw [if_pos hj, if_pos hj]
  · rw [if_neg hj, if_neg hj]
    by_cases hv : j ∈ vs
    · have : ¬ j < σ.length := fun z => hj ⟨hv, z⟩
      rw [List.getElem?_eq_none (by omega), List.getElem?_eq_none (by omega)]
    · rw [h.2 j fun z => hv (hs j z), wipe_get, if_neg hj]
section
variable {X : Cx} {W : Wish} {e : Expr} {src : MI} {t : MT} {tt : MB} {el : ME} {ts vs : List Nat}
theorem rd_lc {K : PySem.W.Frag} (hs : ∀ j ∈ ts, j ∈ vs) {σ : L2.St} {H : Hp} {Q : VK} (h : rd K W (lcV src t tt el vs) σ H Q) : tLc (rdI K W src) (rdT K ts t) (rdB K noExc tt) (rd K noExc el) vs σ H Q := by
  obtain ⟨φ0, e0, S0, g0, p0⟩ := h
  refine bindG g0 p0 fun a S1 φ1 H1 J e1 k1 g1 r p1 => fun D hD => ?_
  obtain ⟨ds, gs⟩ := a
  obtain ⟨G, Y, w, hG, hY⟩ := r
  have hn0 : (φ1 ++ [D])[S1.length]? = some D := g1.st.at_new D
  refine lc_it w (fun i H' => ∃ φ S, φ1 ++ [D] <+: φ ∧ Keep H1 H' ∧ Good K φ σ H' e0 S ∧ post (RepV K) K W φ σ H' e0 Q (lcS t tt el vs gs S1.length e0 (ds.drop i) S)) ?_ (fun i H' hi h => ?_) (fun i x H' H2 hi h y => ?_) fun H' h => ?_
  · have st : StOk K (φ1 ++ [D]) (upd H1 D (.lst [])) (S1 ++ [.lst []]) := g1.st.push hD (cell_lst hD .nil)
    exact ⟨φ1 ++ [D], S1 ++ [Cell.lst []], List.prefix_refl _, Keep.new hD, g1.mono (pre_push D) (Keep.new hD) st, post.mono (pre_push D) (Keep.new hD) p1⟩
  · obtain ⟨φ, S, q, k, g, p⟩ := h
    exact ⟨φ, hG φ H' S ((pre_push D).trans q) k g.st (lcS_chk p)⟩
  · obtain ⟨φ, S, q, k, g, p⟩ := h
    have hc := lcS_chk p
    obtain ⟨d, hd, rv, hH⟩ := hY φ H' i x H2 ((pre_push D).trans q) k hi (hG φ H' S ((pre_push D).trans q) k g.st hc) y
    have kk : Keep H' H2 ∧ StOk K φ H2 S := by
      rcases hH with rfl | ⟨T, xs, hT, rfl⟩
      · exact ⟨Keep.refl _, g.st⟩
      · exact ⟨Keep.new hT, g.st.new hT⟩
    have ed : ds.drop i = d :: ds.drop (i + 1) := by
      have hi' : i < ds.length := hi
      rw [List.drop_eq_getElem_cons hi']
      have : ds[i]? = some d := hd
      rw [List.getElem?_eq_getElem hi'] at this
      rw [Option.some.inj this]
    rw [ed] at p
    unfold lcS at p
    rw [if_pos hc] at p
    have gw : Good K φ (wipe σ vs) H2 (wipeE e0 vs) S := ⟨(g.env.mono (List.prefix_refl φ) kk.1).wipes vs, kk.2⟩
    refine ⟨φ, wipeE e0 vs, S, d, gw, rv, ?_⟩
    cases hm : t d (wipeE e0 vs) S with
    | exc x s => rw [hm] at p; exact p.elim
    | bad => rw [hm] at p; exact p.elim
    | ok e' S' =>
      rw [hm] at p
      intro φ2 σ2 H3 q2 k2 off g2
      refine ⟨wipe_off off hs, φ2, e', S', g2, ?_⟩
      have pA : post (RepV K) K W φ2 σ H3 e0 Q ((noX (tt e' S')).bind fun b S2 => match b with
        | true => (noX (el e' S2)).bind fun y S3 => match S3[S1.length]? with
          | some (.lst acc) => if acc.length < 1000000 then lcS t tt el vs gs S1.length e0 (ds.drop (i + 1)) (S3.set S1.length (.lst (acc ++ [y]))) else .bad
          | _ => .bad
        | false => lcS t tt el vs gs S1.length e0 (ds.drop (i + 1)) S2) := post.mono q2 (kk.1.trans k2) p
      have kA : Keep H1 H3 := k.trans (kk.1.trans k2)
      have qA : φ1 ++ [D] <+: φ2 := q.trans q2
      cases hb : tt e' S' with
      | exc x s => rw [hb] at pA; exact pA.elim
      | bad => rw [hb] at pA; exact pA.elim
      | ok b S2 =>
        rw [hb] at pA
        intro φ3 H4 v q3 k3 st3 rb
        subst rb
        have pB := post.mono q3 k3 pA
        have env0 : EnvOk K φ3 H4 σ e0 := (g.env.mono q2 (kk.1.trans k2)).mono q3 k3
        cases v with
        | false => exact iteF ⟨φ3, S2, qA.trans q3, kA.trans k3, ⟨env0, st3⟩, pB⟩
        | true =>
          refine iteT ⟨φ3, e', S2, ⟨g2.env.mono q3 k3, st3⟩, ?_⟩
          have pC : post (RepV K) K W φ3 σ H4 e0 Q ((noX (el e' S2)).bind fun y S3 => match S3[S1.length]? with
            | some (.lst acc) => if acc.length < 1000000 then lcS t tt el vs gs S1.length e0 (ds.drop (i + 1)) (S3.set S1.length (.lst (acc ++ [y]))) else .bad
            | _ => .bad) := pB
          cases he : el e' S2 with
          | exc x s => rw [he] at pC; exact pC.elim
          | bad => rw [he] at pC; exact pC.elim
          | ok y S3 =>
            rw [he] at pC
            intro φ4 H5 vy q4 k4 st4 ry
            have pD : post (RepV K) K W φ4 σ H5 e0 Q (match S3[S1.length]? with
              | some (.lst acc) => if acc.length < 1000000 then lcS t tt el vs gs S1.length e0 (ds.drop (i + 1)) (S3.set S1.length (.lst (acc ++ [y]))) else .bad
              | _ => .bad) := post.mono q4 k4 pC
            split at pD
            · rename_i acc hacc
              split at pD
              · rename_i hl
                have hD4 := pre_get ((qA.trans q3).trans q4) hn0
                obtain ⟨xs, h0, r0⟩ := st4.lst hD4 hacc
                obtain ⟨u, hu, t1, t2⟩ := st4.some_ hD4 hacc trivial
                have k5 : Keep H5 (upd H5 D (.lst (xs ++ [vy]))) := Keep.put hu t1 t2
                have st5 := (st4.put (c := .lst (acc ++ [y])) hD4 hacc trivial (⟨xs ++ [vy], upd_same, (r0.snoc ry).mono (List.prefix_refl φ4) k5⟩ : CellOk K φ4 (upd H5 D (.lst (xs ++ [vy]))) D (.lst (acc ++ [y])))).1
                exact ⟨xs, h0, lim_lt (by rw [r0.len]; omega), φ4, _, (qA.trans q3).trans q4, ((kA.trans k3).trans k4).trans k5, ⟨(env0.mono q4 k4).mono (List.prefix_refl φ4) k5, st5⟩, post.mono (List.prefix_refl φ4) k5 pD⟩
              · exact pD.elim
            · exact pD.elim
  · obtain ⟨φ, S, q, k, g, p⟩ := h
    have hc := lcS_chk p
    rw [show ds.drop (ds, gs).1.length = [] from List.drop_length] at p
    unfold lcS at p
    rw [if_pos hc] at p
    exact p.give g.st (.mkRef (pre_get q hn0))
theorem q_lc (hs : ∀ j ∈ ts, j ∈ vs) (h : PE X e (tLc (rdI X.K W src) (rdT X.K ts t) (rdB X.K noExc tt) (rd X.K noExc el) vs)) : PE X e (rd X.K W (lcV src t tt el vs)) := pe_imp h fun _ _ _ h => rd_lc hs h
def yesB : MB := fun _ S => .ok true S
theorem ts_nil {X : Cx} : PTs X [] (rdB X.K noExc yesB) := ⟨fun pins s σ H Q I h => pts_nil.run pins s σ H Q I (by
  obtain ⟨φ, e, S, g, p⟩ := h
  exact p.give g.st rfl)⟩
theorem ts_one {X : Cx} {c : Expr} {m : MB} (h : PT X c (rdB X.K noExc m)) : PTs X [c] (rdB X.K noExc m) := pts_one h
end
end Mi

namespace Mi
open PySem PySem.Spec L2

/-! ### defs: what they promise, how they are called -/
abbrev XA := List Addr → Hp → Exn → Value → Option Addr → Prop
def postC (XT : XA) (K : PySem.W.Frag) (φ : List Addr) (H : Hp) (Q : VK) (E : XK) : R D → Prop
  | .ok d S' => ∀ φ' H' v, φ <+: φ' → Keep H H' → StOk K φ' H' S' → RepV K φ' H' d v → Q v H'
  | .exc x S' => ∀ φ' H' c od, φ <+: φ' → Keep H H' → StOk K φ' H' S' → XT φ' H' x c od → E c od H'
  | .bad => False
abbrev MF := List D → Store → R D
def spM (XT : XA) (K : PySem.W.Frag) (n : Nat) (f : MF) : Sp := fun vs H Q E => ∃ φ ds S, StOk K φ H S ∧ RepL K φ H ds vs ∧ ds.length = n ∧ postC XT K φ H Q E (f ds S)
/-- a def by its function: within a run where nothing is being shown -/
structure FnM (P : Program) (w : World) (K : PySem.W.Frag) (mg : Str → Option Value) (base : Heap) (k : Nat) (f : Addr) (fd : FuncData) (ps : List Str) (sp : Sp) : Prop where
  len : ∀ vs H Q E, sp vs H Q E → vs.length = ps.length
  go : ∀ (A : Around) (outer : List Env) (s : Shared) (H : Hp) (args : Args) (us : List Value) (vs : List V) (Q : VK) (E : XK), Room k A → A.guards = some [] →
    Env0 P w K mg base A outer s H → BindsTo s fd args (ps.zip us) → Vals vs us → sp vs H Q E → codeAny (model P w) A (.call (.ref f) args) (CR (L2.CX P w) outer P w H s Q E) s
theorem FnM.up {P : Program} {w : World} {K : PySem.W.Frag} {mg : Str → Option Value} {base : Heap} {j k : Nat} {f : Addr} {fd : FuncData} {ps : List Str} {sp : Sp} (F : FnM P w K mg base j f fd ps sp) (h : j ≤ k) : FnM P w K mg base k f fd ps sp :=
  ⟨F.len, fun A outer s H args us vs Q E hr => F.go A outer s H args us vs Q E (hr.mono h)⟩
section
variable {P : Program} {w : World} {K : PySem.W.Frag} {mg : Str → Option Value} {base : Heap}
theorem m_def {x qual : Str} {st : Stmt} {f : Addr} {fd : FuncData} {N ps : List Str} {k : Nat} {sp : Sp} (F : Fun K x qual st f fd) (S : FnScope N ps (defScope st)) (len : ∀ vs H Q E, sp vs H Q E → vs.length = ps.length)
    (body : ∀ (cdv : Value) (A : Around) (outer : List Env) (s : Shared) (H : Hp) (vs : List V) (Q : VK) (E : XK), Room k (A.deeper (PyProof.Rows.envOfC qual (defScope st) s.heap.objs.size f cdv)) → A.guards = some [] → sp vs H Q E →
      ∃ t, PSs (cxOf (L2.CX P w) P w K mg base N qual (defScope st) f cdv A outer s H E) (defBody st) t ∧ t { nx := fun _ H' => Q .non H', rt := Q } (L2.start N vs) H) :
    FnM P w K mg base (k + 1) f fd ps sp := by
  obtain ⟨oc, od, kV, doc, pm, an, cdv, ct, osl, rfl, lk, hcd⟩ := F.ex
  refine ⟨len, fun A outer s H args us vs Q E hr gu e0 hb r hsp => ?_⟩
  have el := len _ _ _ _ hsp
  have kin : K.In s.heap := e0.mod.kin.keeps fun b o q => (e0.bs b o q).1
  have nol : s.heap.NoLimit := e0.mod.nolimit.keeps fun b o q => (e0.bs b o q).1
  refine codeAny_call_function hr.depth (kin _ _ lk) rfl S.co S.gen rfl (PySem.W.codeRec_of kin hcd) (hb _ _ _ _ ?_)
  refine wpAny_newFunctionEnv_cells S.kind (fun ⟨n, v⟩ hy => ?_) fun env he s1 z => ?_
  · rcases S.par n (List.of_mem_zip hy).1 with q | q
    · exact .inl q
    · exact .inr ⟨q, PySem.W.cellsFrom_some _ _ _ (.inl q)⟩
  subst he
  refine ⟨nol.keeps z.toInCall.keep, codeAny_func ?_⟩
  obtain ⟨t, ht, hq⟩ := body cdv A outer s H vs Q E (hr.deeper _) gu hsp
  refine wpAny_mono (ht.run [] s1 (L2.start N vs) H _ (inv_start S hr.hd e0 el r z) hq) (fun fl s' hs => ?_) fun e s' hs => hs
  cases fl with
  | ret u =>
    obtain ⟨v, σ', H', J, rv, q⟩ := hs
    exact ⟨v, H', J.os, J.bare, J.base, J.hok, rv, q⟩
  | next =>
    obtain ⟨σ', H', J, q⟩ := hs
    exact ⟨V.non, H', J.os, J.bare, J.base, J.hok, rfl, q⟩
  | brk => exact hs.elim fun _ h => h.elim fun _ h => h.2.elim
  | cont => exact hs.elim fun _ h => h.elim fun _ h => h.2.elim
end
def callV (f : MF) (ms : ML) : ME := fun e S => (ms e S).bind f
def Link (XT : XA) (W : Wish) (Wx : WX) : Prop := ∀ φ σ H e S x c od, W φ σ H e S x → XT φ H x c od → Wx c od σ H
theorem link0 {XT : XA} {Wx : WX} : Link XT noExc Wx := fun _ _ _ _ _ _ _ _ h => False.elim h
section
variable {X : Cx} {W : Wish} {Wx : WX} {XT : XA} {k n : Nat} {f : Addr} {fd : FuncData} {ps : List Str} {sp : Sp} {x : Str} {p pos : Pos} {a : Expr} {es : List Expr} {ms : ML} {mf : MF}
theorem run_m {pins : List (Addr × Obj)} {σ : L2.St} {H : Hp} {s : Shared} {Q : VK} {us : List Value} {vs : List V} (F : FnM X.prog X.w X.K X.mg X.base k f fd ps sp) (hr : Room k X.A) (gu : X.A.guards = some []) (hb : Binds X.K fd ps []) (tk : Takes X Wx) (I : Inv X pins σ H s) (r : Vals vs us)
    (h : sp vs H Q (WE Wx σ)) : wpAny (model X.prog X.w) X.A (call (.ref f) us) (EP X pins σ Q) X.xe s := by
  have el : (us ++ ([] : List Value)).length = ps.length := by
    rw [List.append_nil, ← r.length]
    exact F.len _ _ _ _ h
  have bt := hb s us I.kIn el
  rw [List.append_nil] at bt
  refine wpAny_call (codeAny_mono (F.go X.A X.stack s H ⟨us, []⟩ us vs Q (WE Wx σ) hr gu I.env0 bt r h) fun res s' hq => ?_)
  cases res with
  | error e => exact passAt tk σ pins H s e s' I hq
  | ok fl =>
    cases fl with
    | ret u => exact I.after hq
    | next => exact hq.elim
    | brk => exact hq.elim
    | cont => exact hq.elim
/-- what a call needs of the caller's place -/
structure At (X : Cx) (k : Nat) (W : Wish) (Wx : WX) (XT : XA) : Prop where
  room : Room k X.A
  gu : X.A.guards = some []
  tk : Takes X Wx
  lk : Link XT W Wx
theorem rd_call (lk : Link XT W Wx) {σ : L2.St} {H : Hp} {Q : VK} (h : rd X.K W (callV mf ms) σ H Q) (hl : ∀ e S ds S1, ms e S = .ok ds S1 → ds.length = n) : (rdL X.K W ms) σ H fun vs H1 => spM XT X.K n mf vs H1 Q (WE Wx σ) := by
  obtain ⟨φ, e, S, g, p⟩ := h
  refine ⟨φ, e, S, g, ?_⟩
  unfold callV at p
  cases hm : ms e S with
  | bad => rw [hm] at p; exact p
  | exc x s => rw [hm] at p; exact p
  | ok ds S1 =>
    rw [hm] at p
    intro φ1 H1 vs q k st r
    refine ⟨φ1, ds, S1, st, r, hl e S ds S1 hm, ?_⟩
    have p1 : post (RepV X.K) X.K W φ1 σ H1 e Q (mf ds S1) := post.mono q k p
    have g1 := g.mono q k st
    cases hf : mf ds S1 with
    | bad => rw [hf] at p1; exact p1
    | ok d S2 => rw [hf] at p1; exact p1
    | exc x S2 =>
      rw [hf] at p1
      exact fun φ2 H2 c od q2 k2 st2 xt => lk _ _ _ _ _ _ _ _ (p1 φ2 H2 q2 k2 (g1.mono q2 k2 st2)) xt
theorem q_call (at_ : At X k W Wx XT) (F : FnM X.prog X.w X.K X.mg X.base k f fd ps (spM XT X.K n mf)) (hg : Gl X x) (hm : X.mg x = some (.ref f)) (hk : PySem.W.keepIn X.K (.ref f) = true) (hb : Binds X.K fd ps []) (ha : PA X (a :: es) (rdL X.K W ms))
    (hl : ∀ e S ds S1, ms e S = .ok ds S1 → ds.length = n) (hdb : (x == ("__debug__" : Str)) = false := by decide) (he : starEach (a :: es) X.env = (false, eval a X.env) :: starEach es X.env := by rfl) (hpl : (backTo pos (starEach es X.env)).any (·.1) = false := by rfl) :
    PE X (.Call (.Name x p) (a :: es) [] pos) (rd X.K W (callV mf ms)) := by
  refine ⟨fun pins s σ H Q I h => ?_⟩
  refine wpAny_Call_Name_kw (ld_glob I hg hm ?_ hdb)
  have h1 := ha.run pos pins s σ H _ I (rd_call at_.lk h hl)
  exact PySem.W.callWith_K (h₀ := X.base) I.ok.mod.kin hk (thn h1 fun us s1 ⟨vs, H1, I1, r, q⟩ => ⟨I1.kIn, run_m F at_.room at_.gu hb at_.tk I1 r q⟩) he hpl
theorem q_call0 (at_ : At X k W Wx XT) (F : FnM X.prog X.w X.K X.mg X.base k f fd ps (spM XT X.K 0 mf)) (hg : Gl X x) (hm : X.mg x = some (.ref f)) (hk : PySem.W.keepIn X.K (.ref f) = true) (hb : Binds X.K fd ps [])
    (hdb : (x == ("__debug__" : Str)) = false := by decide) : PE X (.Call (.Name x p) [] [] pos) (rd X.K W (callV mf argN)) := by
  refine ⟨fun pins s σ H Q I h => ?_⟩
  refine wpAny_Call_Name_kw (ld_glob I hg hm ?_ hdb)
  have h1 := rd_call (n := 0) at_.lk h fun e S ds S1 q => by
    cases q
    rfl
  obtain ⟨φ, e, S, g, p⟩ := h1
  exact PySem.W.callWith_K0 I.kIn hk (run_m (us := []) F at_.room at_.gu hb at_.tk I .nil (p φ H [] (List.prefix_refl φ) (Keep.refl H) g.st .nil))
theorem argN_len : ∀ e S ds S1, argN e S = .ok ds S1 → ds.length = 0 := fun e S ds S1 q => by cases q; rfl
theorem argC_len {m : ME} {ms : ML} {n : Nat} (h : ∀ e S ds S1, ms e S = .ok ds S1 → ds.length = n) : ∀ e S ds S1, argC m ms e S = .ok ds S1 → ds.length = n + 1 := fun e S ds S1 q => by
  unfold argC at q
  cases h1 : m e S with
  | bad => rw [h1] at q; cases q
  | exc _ _ => rw [h1] at q; cases q
  | ok d S2 =>
    simp only [h1, R.bind] at q
    cases h2 : ms e S2 with
    | bad => rw [h2] at q; cases q
    | exc _ _ => rw [h2] at q; cases q
    | ok ds2 S3 =>
      simp only [h2] at q
      cases q
      rw [List.length_cons, h _ _ _ _ h2]
end
/-! a def's function from its body -/
def runB (n : Nat) (m : MS) : MF := fun ds S => match m (ds.map some ++ List.replicate n none) S with
  | .rt d S' => .ok d S'
  | .nx _ S' => .ok .non S'
  | .exc x _ S' => .exc x S'
  | _ => .bad
def wishE (XT : XA) (E : XK) : Wish := fun φ _ H _ _ x => ∀ c od, XT φ H x c od → E c od H
theorem link_E {XT : XA} {E : XK} : Link XT (wishE XT E) (fun c od _ H => E c od H) := fun _ _ _ _ _ _ _ _ h x => h _ _ x
theorem env_start {K : PySem.W.Frag} {φ : List Addr} {H : Hp} {ds : List D} {vs : List V} (r : RepL K φ H ds vs) {N : List Str} {n : Nat} (hN : N.length = ds.length + n) : EnvOk K φ H (L2.start N vs) (ds.map some ++ List.replicate n none) := by
  have hl := r.len
  refine ⟨?_, fun i d h => ?_⟩
  · unfold L2.start
    rw [List.length_append, List.length_append, List.length_map, List.length_map, List.length_replicate, List.length_replicate]
    omega
  · rcases Nat.lt_or_ge i ds.length with z | z
    · rw [List.getElem?_append_left (by rw [List.length_map]; exact z), List.getElem?_map] at h
      cases e : ds[i]? with
      | none => rw [e] at h; cases h
      | some d' =>
        rw [e] at h
        cases h
        obtain ⟨v, h1, rv⟩ := r.get e
        refine ⟨v, ?_, rv⟩
        unfold L2.start
        rw [List.getElem?_append_left (by rw [List.length_map, hl]; exact z), List.getElem?_map, h1]
        rfl
    · rw [List.getElem?_append_right (by rw [List.length_map]; exact z), List.getElem?_replicate] at h
      split at h <;> cases h
theorem sp_len {XT : XA} {K : PySem.W.Frag} {n : Nat} {f : MF} : ∀ vs H Q E, spM XT K n f vs H Q E → vs.length = n := fun vs H Q E h => by
  obtain ⟨φ, ds, S, _, r, hl, _⟩ := h
  rw [r.len, hl]
/-- from the reading of the body to the def's end -/
theorem body_end {XT : XA} {K : PySem.W.Frag} {n m : Nat} {N : List Str} {mb : MS} {vs : List V} {H : Hp} {Q : VK} {E : XK} (hN : N.length = n + m) (h : spM XT K n (runB m mb) vs H Q E) :
    rdS K (wishE XT E) mb { nx := fun _ H' => Q .non H', rt := Q } (L2.start N vs) H := by
  obtain ⟨φ, ds, S, st, r, hl, p⟩ := h
  refine ⟨φ, ds.map some ++ List.replicate m none, S, ⟨env_start r (by rw [hl]; exact hN), st⟩, ?_⟩
  unfold runB at p
  cases hm : mb (ds.map some ++ List.replicate m none) S with
  | rt d S' => rw [hm] at p; exact p
  | nx e S' => rw [hm] at p; exact fun φ' σ' H' q k g => p φ' H' .non q k g.st .mkNon
  | exc x e S' => rw [hm] at p; exact fun φ' σ' H' q k g c od xt => p φ' H' c od q k g.st xt
  | bk _ _ => rw [hm] at p; exact p.elim
  | ct _ _ => rw [hm] at p; exact p.elim
  | bad => rw [hm] at p; exact p.elim
end Mi

namespace Mi
open PySem PySem.Spec L2

/-! ### repr of data -/
def toR (S : Store) : Nat → D → Option PyData
  | 0, _ => none
  | _ + 1, .non => some .none
  | _ + 1, .bl b => some (.bool b)
  | _ + 1, .int i => some (.int i)
  | _ + 1, .str x => some (.str x)
  | _ + 1, .ty _ => none
  | k + 1, .tup ds => (optAll (ds.map (toR S k))).map .tuple
  | k + 1, .rol ds => (optAll (ds.map (toR S k))).map .list
  | k + 1, .ref n => match S[n]? with
    | some (.lst ds) => (optAll (ds.map (toR S k))).map .list
    | some (.dK []) => some (.dict [])
    | _ => none
theorem dict_empty {P : Program} {w : World} {H : Hp} {h : Heap} {a : Addr} (x : ObjOk P w H h a (.dK [])) : (a == sysModules) = false ∧ ∃ o n, h.get? a = some o ∧ o.cls = .type "dict" ∧ o.data = .dict #[] n := by
  obtain ⟨_, hs, vs, kv, o, es, ep, h1, h2, h3, h4, h5, h6⟩ := x
  cases kv
  refine ⟨hs, o, ep, h1, h2.1, ?_⟩
  have : es.toList = [] := by
    cases e : es.toList with
    | nil => rfl
    | cons y ys => rw [e] at h5; cases h5
  rw [h3, show es = #[] by simpa using this]
section
variable {X : Cx} {pins : List (Addr × Obj)} {σ : L2.St} {H : Hp} {s : Shared} {φ : List Addr} {S : Store}
def Calls1 (X : Cx) (h : Heap) (u : Value) (p : PyData) : Prop := ∀ (A : Around) (E : Value → Shared → Prop) (s' : Shared) (Q : Value → Shared → Prop), A.guards = some [] → A.units + (p.depth + 1) < cLine → (∀ b o, h.get? b = some o → s'.heap.get? b = some o) →
  (∀ h' t k, (∀ b o, s'.heap.get? b = some o → h'.get? b = some o) → Q (.str p.shown t) { s' with heap := h', toks := k }) → wpAny (model X.prog X.w) A (call (.builtin "repr") [u]) Q E s'
def Shows (X : Cx) (h : Heap) (u : Value) (p : PyData) : Prop := (∃ as bs, Reads h u p as ∧ ReadAtMost h p.depth bs ∧ ReprK X.prog X.w bs h p.depth u p.shown) ∧ Calls1 X h u p
theorem rep_ok (I : Inv X pins σ H s) (st : StOk X.K φ H S) : ∀ (k : Nat) (d : D) (v : V) (u : Value) (p : PyData), RepV X.K φ H d v → RelV v u → toR S k d = some p → p.showable = true → p.shown.length ≤ sizeLine → Shows X s.heap u p := by
  intro k
  induction k with
  | zero => intro d v u p _ _ h; cases h
  | succ k ih =>
    have all : ∀ (ds : List D) (vs : List V) (us : List Value) (ps : List PyData), RepL X.K φ H ds vs → Vals vs us → optAll (ds.map (toR S k)) = some ps → PyData.showableAll ps = true → (∀ t ∈ PyData.shownAll ps, t.length ≤ sizeLine) →
        ∃ as bs, ReadsAll s.heap us ps as ∧ ReadAtMost s.heap (PyData.depthAll ps) bs ∧ ReprAllK X.prog X.w bs s.heap (PyData.depthAll ps) us (PyData.shownAll ps) := by
      intro ds
      induction ds with
      | nil =>
        intro vs us ps r rv h _ _
        cases h
        cases r.nil_inv
        cases rv
        exact ⟨[], [], .nil, (fun _ h => nomatch h), by simp only [PyData.shownAll]; exact .nil⟩
      | cons d ds ihd =>
        intro vs us ps r rv h hs hz
        obtain ⟨v, vs, rfl, r1, t⟩ := r.cons_inv
        cases rv with
        | cons q qs =>
          rw [List.map_cons] at h
          cases hd : toR S k d with
          | none => rw [hd] at h; cases h
          | some p =>
            rw [hd] at h
            unfold optAll at h
            split at h
            · rename_i as ha
              cases h
              have hs' : p.showable = true ∧ PyData.showableAll as = true := by simpa [PyData.showableAll] using hs
              obtain ⟨⟨a1, b1, x1, y1, z1⟩, _⟩ := ih d v _ p r1 q hd hs'.1 (hz _ (by simp only [PyData.shownAll]; exact List.mem_cons_self ..))
              obtain ⟨a2, b2, x2, y2, z2⟩ := ihd vs _ as t qs ha hs'.2 fun t ht => hz t (by simp only [PyData.shownAll]; exact List.mem_cons_of_mem _ ht)
              refine ⟨a1 ++ a2, b1 ++ b2, .cons x1 x2, fun b hm => ?_, ?_⟩
              · simp only [PyData.depthAll]
                rcases List.mem_append.mp hm with hm | hm
                · obtain ⟨d', c, r', l⟩ := y1 b hm
                  exact ⟨d', c, r', Nat.le_trans l (Nat.le_max_left _ _)⟩
                · obtain ⟨d', c, r', l⟩ := y2 b hm
                  exact ⟨d', c, r', Nat.le_trans l (Nat.le_max_right _ _)⟩
              · simp only [PyData.depthAll, PyData.shownAll]
                exact .cons ((z1.more fun b hb => List.mem_append_left _ hb).level_le (Nat.le_max_left _ _)) (z2.more_le (fun b hb => List.mem_append_right _ hb) (Nat.le_max_right _ _))
            · cases h
    have lst : ∀ (a : Addr) (ds : List D) (xs : List V) (p : PyData), SqL X.K H a xs → RepL X.K φ H ds xs → (optAll (ds.map (toR S k))).map PyData.list = some p → p.showable = true → p.shown.length ≤ sizeLine → Shows X s.heap (.ref a) p := by
      intro a ds xs p hq r h hs hz
      obtain ⟨ps, h1, rfl⟩ := Option.map_eq_some_iff.mp h
      obtain ⟨its, rv, ⟨o, n, ho, hc, _, hd⟩, _⟩ := I.list hq
      have hz' : (listText (PyData.shownAll ps)).length ≤ sizeLine := by simpa only [PyData.shown] using hz
      obtain ⟨as, bs, x1, y1, z1⟩ := all ds xs its ps r rv h1 (by simpa [PyData.showable] using hs) fun t ht => Nat.le_trans (listText_mem_le ht) hz'
      have rr : Reads s.heap (.ref a) (.list ps) (a :: as) := .list ho hc hd x1
      have hna : a ∉ bs := not_mem_of_deeper rr (by simp only [PyData.depth]; omega) y1
      refine ⟨⟨_, a :: bs, rr, ReadAtMost.cons rr (by simp only [PyData.depth]; omega) y1, ?_⟩, fun A E s' Q hg hu hk hQ => ?_⟩
      rotate_left
      · simp only [PyData.depth] at hu
        simp only [PyData.shown] at hQ
        refine call_repr_slot (by omega) ⟨o, hk _ _ ho, hc⟩ F.slot_list_repr.toG ?_
        cases its with
        | nil =>
          cases x1
          simp only [PyData.shownAll, listText_nil] at hQ
          exact call_list_repr_empty ⟨o, hk _ _ ho, hc⟩ (hk _ _ ho) hd ⟨_, _, rfl, hQ s'.heap _ _ fun _ _ e => e⟩
        | cons y l => exact call_list_reprK ho hc hd hna (by simpa using z1.length_eq) (fun i y' e' => z1.item i y' (by simpa using e')) hg (fun b _ => Clear.nil b) (by show A.units + 1 + _ < cLine; omega) hk (fun h' u tk q => ⟨_, _, rfl, hQ h' u tk q⟩) hz'
      simp only [PyData.depth, PyData.shown]
      cases its with
      | nil =>
        cases x1
        simp only [PyData.shownAll, listText_nil]
        exact ReprK.listEmpty ho hc hd
      | cons y l => exact ReprK.list ho hc hd hna (by simpa using z1.length_eq) fun i y' e' => z1.item i y' (by simpa using e')
    intro d v u p r rv h hs hz
    cases d with
    | non => cases h; cases r.non; cases rv; exact ⟨⟨_, [], Reads.none, (fun _ h => nomatch h), by simp only [PyData.shown]; exact .of_is ReprIs.none _ _ _⟩, fun A E s' Q hg hu hk hQ => by simp only [PyData.shown] at hQ; exact P.repr_of_none (hQ s'.heap _ _ fun _ _ e => e)⟩
    | bl b => cases h; cases r.bl; cases rv; exact ⟨⟨_, [], Reads.bool b, (fun _ h => nomatch h), by simp only [PyData.shown]; exact .of_is (ReprIs.bool b) _ _ _⟩, fun A E s' Q hg hu hk hQ => by simp only [PyData.shown] at hQ; exact P.repr_of_bool (hQ s'.heap _ _ fun _ _ e => e)⟩
    | int i =>
      cases h; cases r.int
      obtain ⟨t, rfl⟩ := rv
      exact ⟨⟨_, [], Reads.int i t, (fun _ h => nomatch h), by simp only [PyData.shown]; exact .of_is (ReprIs.int t (by simpa [PyData.showable] using hs)) _ _ _⟩, fun A E s' Q hg hu hk hQ => by simp only [PyData.shown] at hQ; exact P.repr_of_int (by simpa [PyData.showable] using hs) (hQ s'.heap _ _ fun _ _ e => e)⟩
    | str x =>
      cases h; cases r.str
      obtain ⟨t, rfl⟩ := rv
      exact ⟨⟨_, [], Reads.str x t, (fun _ h => nomatch h), by simp only [PyData.shown]; exact .of_is (ReprIs.str x t (by simpa only [PyData.shown] using hz)) _ _ _⟩, fun A E s' Q hg hu hk hQ => by simp only [PyData.shown] at hQ hz; exact P.repr_of_str (hQ s'.heap _ _ fun _ _ e => e) hz⟩
    | ty _ => cases h
    | tup ds =>
      obtain ⟨ps, h1, rfl⟩ := Option.map_eq_some_iff.mp h
      obtain ⟨a, xs, rfl, hq, r1⟩ := r.tup
      cases rv
      obtain ⟨its, rv, ⟨o, ho, hc, n, hd⟩, _⟩ := I.tuple hq
      have hz' : (tupleText (PyData.shownAll ps)).length ≤ sizeLine := by simpa only [PyData.shown] using hz
      obtain ⟨as, bs, x1, y1, z1⟩ := all ds xs its ps r1 rv h1 (by simpa [PyData.showable] using hs) fun t ht => Nat.le_trans (tupleText_mem_le ht) hz'
      have rr : Reads s.heap (.ref a) (.tuple ps) as := .tuple ho hc hd x1
      have hna : a ∉ bs := not_mem_of_deeper rr (by simp only [PyData.depth]; omega) y1
      refine ⟨⟨_, a :: bs, rr, ReadAtMost.cons rr (by simp only [PyData.depth]; omega) y1, ?_⟩, fun A E s' Q hg hu hk hQ => ?_⟩
      · simp only [PyData.depth, PyData.shown]
        exact ReprK.tuple ho hc hd hna z1
      · simp only [PyData.depth] at hu
        simp only [PyData.shown] at hQ
        refine call_repr_slot (by omega) ⟨o, hk _ _ ho, hc⟩ F.slot_tuple_repr ?_
        exact call_tuple_reprK ho hc hd hna z1 hg (fun b _ => Clear.nil b) (by show A.units + 1 + _ < cLine; omega) hk (fun h' u tk q => ⟨_, _, rfl, hQ h' u tk q⟩) hz'
    | rol ds =>
      obtain ⟨a, xs, rfl, hq, r1⟩ := r.rol
      cases rv
      exact lst a ds xs p (rolSq hq) r1 h hs hz
    | ref n =>
      obtain ⟨a, ha, rfl⟩ := r.ref
      cases rv
      unfold toR at h
      split at h
      · rename_i ds hn
        obtain ⟨xs, e1, r1⟩ := st.lst ha hn
        exact lst a ds xs p (.of e1) r1 h hs hz
      · rename_i hn
        cases h
        obtain ⟨ws, e1, r1⟩ := st.dK ha hn
        cases r1
        obtain ⟨hsys, o, n', ho, hc, hd⟩ := dict_empty (I.hok a _ e1)
        have rr : Reads s.heap (.ref a) (.dict []) (a :: [] ++ []) := .dict ho hc hd .nil .nil
        have hE : ReprEntriesK X.prog X.w [] s.heap (PyData.depthKv []) (#[] : Array DictEntry).toList [] := .nil
        have hb : ReadAtMost s.heap (PyData.depthKv []) [] := fun _ h => nomatch h
        refine ⟨⟨_, [a], rr, ReadAtMost.cons rr (by simp only [PyData.depth]; omega) hb, ?_⟩, fun A E s' Q hg hu hk hQ => ?_⟩
        · simp only [PyData.depth, PyData.shown, PyData.shownKv]
          exact ReprK.dict ho hc hd hsys (by simp) hE
        · simp only [PyData.depth] at hu
          simp only [PyData.shown, PyData.shownKv] at hQ
          refine call_repr_slot (by omega) ⟨o, hk _ _ ho, hc⟩ F.slot_dict_repr ?_
          exact call_dict_reprK ho hc hd hsys (by simp) hE hg (fun b _ => Clear.nil b) (by show A.units + 1 + _ < cLine; omega) hk (fun h' u tk q => ⟨_, _, rfl, hQ h' u tk q⟩) (by simpa only [PyData.shown, PyData.shownKv] using hz)
      · cases h
def reprD : F1 := fun ds S => match ds with
  | [d] => match toR S 60 d with
    | some p => if (p.showable && decide (p.depth ≤ 60) && decide (p.shown.length ≤ 1000000)) = true then .ok (.str p.shown) S else .bad
    | none => .bad
  | _ => .bad
def rRepr (X : Cx) : List V → Hp → VK → Prop := fun xs H Q => ∃ (x : V) (φ : List Addr) (S : Store) (d : D) (p : PyData), xs = [x] ∧ StOk X.K φ H S ∧ RepV X.K φ H d x ∧ toR S 60 d = some p ∧ p.showable = true ∧ p.depth ≤ 60 ∧ p.shown.length ≤ sizeLine ∧ Q (.str p.shown) H
theorem cr_repr (gu : X.A.guards = some []) (hu : X.A.units + 64 < cLine) : CallR X (.builtin "repr") (rRepr X) := by
  intro pins s σ H xs us Q I r h
  obtain ⟨x, φ, S, d, p, rfl, st, rx, hp, hs, hd, hz, q⟩ := h
  obtain ⟨u, rfl, ru⟩ := vals1 r
  refine (rep_ok I st 60 d x u p rx ru hp hs hz).2 X.A X.xe s _ gu (by omega) (fun _ _ e => e) fun h' t k hk => ?_
  exact ⟨.str p.shown, H, I.kept (t' := k) hk, ⟨t, rfl⟩, q⟩
theorem repr_rule : RuleC X.K reprD (rRepr X) := by
  intro W φ σ H e S Q xs ds st r p
  unfold reprD at p
  split at p
  · rename_i d
    obtain ⟨v, rfl, rv⟩ := r.one
    split at p
    · rename_i q hq
      split at p
      · rename_i hc
        rw [Bool.and_eq_true, Bool.and_eq_true] at hc
        exact ⟨v, φ, S, d, q, rfl, st, rv, hq, hc.1.1, of_decide_eq_true hc.1.2, lim_ok (of_decide_eq_true hc.2), p.give st .mkStr⟩
      · exact p.elim
    · exact p.elim
  · exact p.elim
end
end Mi

namespace Mi
open PySem PySem.Spec PyProof.Rows L2
open AutoSeq1 (wpAny_loadPart')

/-! ### enumerate(v) of a tuple -/
theorem tup_is {h : Heap} {t : Addr} {items : Array Value} (x : IsTup h t items) : h.IsTuple t items := x
set_option maxHeartbeats 1000000 in
theorem meets_enum1 {v : Value} {o : Obj} {H : Heap → Prop} (B : Begins v o H) :
    Meets (Builtin.«enumerate.__new__» ⟨[.type "enumerate", v], []⟩) (fun _ R s => H s.heap ∧
      R (.ok (.ret (.ref (s.heap.push o).objs.size)))
        { s with heap := (s.heap.push o).push { cls := .type "enumerate", data := .fields #[.none, .bool false, .ref s.heap.objs.size, rawInt 0, .none, .none] } }) :=
  .of_wp fun prog w A R s h => by
    obtain ⟨hp, g, d, tk, os⟩ := s; obtain ⟨h1, h⟩ := h
    have sb := sub_enumerate
    have walk1 : ∀ {A' : Around} {E : Value → Shared → Prop} {Q : Value → Shared → Prop}, Q (.ref hp.objs.size) ⟨hp.push o, g, d, tk, os⟩ → wpAny (model prog w) A' (pyIter v) Q E ⟨hp, g, d, tk, os⟩ := fun q =>
      B.iter prog w _ _ ⟨hp, g, d, tk, os⟩ _ h1 q
    wp_walk using walk1
    refine wpAny_stack_any fun st => wpAny_pure ?_
    split
    · rename_i c _ _ _ _ _
      cases (c == Value.type "enumerate") <;> (wp_walk using walk1; exact ⟨_, rfl, h⟩)
    · wp_walk using walk1
      exact ⟨_, rfl, h⟩
theorem enum_of {prog : Program} {w : World} {A : Around} {E : Value → Shared → Prop} {s : Shared} {v : Value} {o : Obj} {H : Heap → Prop} {Q : Value → Shared → Prop} (B : Begins v o H) (h1 : H s.heap)
    (h : ∀ h', IsEnum h' (s.heap.objs.size + 1) s.heap.objs.size 0 .none → h'.get? s.heap.objs.size = some o → (∀ b o, s.heap.get? b = some o → h'.get? b = some o) → Q (.ref (s.heap.objs.size + 1)) { s with heap := h' }) :
    wpAny (model prog w) A (call (.type "enumerate") [v]) Q E s := by
  refine callType_new F.called_enumerate (by decide) (F.typeCall_enumerate_1 _) (F.newCall_enumerate_1 _) (fun obj => F.args_object_init_2 obj _) F.entry_enumerate_new (meets_enum1 B) ⟨h1, ?_⟩
  have hz : (s.heap.push o).objs.size = s.heap.objs.size + 1 := Heap.size_push ..
  show _ ∧ _
  rw [hz]
  have en : IsEnum ((s.heap.push o).push { cls := .type "enumerate", data := .fields #[.none, .bool false, .ref s.heap.objs.size, rawInt 0, .none, .none] }) (s.heap.objs.size + 1) s.heap.objs.size 0 .none := by
    have g := Heap.get?_push_size (s.heap.push o) (o := { cls := .type "enumerate", data := .fields #[.none, .bool false, .ref s.heap.objs.size, rawInt 0, .none, .none] }) rfl
    rw [hz] at g
    exact g
  exact ⟨⟨_, en, rfl⟩, h _ en (Heap.get?_push_of_some _ (Heap.get?_push_size _ B.free)) fun b o x => Heap.get?_push_of_some _ (Heap.get?_push_of_some _ x)⟩
/-- the tuple at a, its items in new pairs -/
def IteT (K : PySem.W.Frag) (a : Addr) : It :=
  ⟨fun i H => ∃ (xs : List V) (x : V), SqT K H a xs ∧ xs[i]? = some x, fun i H v H' => ∃ T x, v = .ref T ∧ H T = none ∧ H' = upd H T (.tup [.int (i : Nat), x]) ∧ ∀ xs, SqT K H a xs → xs[i]? = some x, fun i H => ∃ xs : List V, SqT K H a xs ∧ xs.length = i⟩
theorem turn_enumT {P : Program} {w : World} {K : PySem.W.Frag} {elts : List Expr} {kk : Nat} {tpos : Pos} (a e it : Addr) :
    Turn P w K (.Tuple elts kk tpos) (IteT K a) [e, it] e (fun i h => (∃ old, IsEnum h e it ((i : Nat) : Int) old) ∧ h.IsTupleIter it a i ∧ e ≠ it) where
  mem := by simp
  obj := fun i h st b hb => by
    obtain ⟨⟨old, he⟩, ⟨o, ho, hc, hd⟩, _⟩ := st
    rcases (show b = e ∨ b = it by simpa using hb) with z | z
    · subst z; exact ⟨_, he, fun v q => nomatch q⟩
    · subst z; exact ⟨o, ho, fun v q => by rw [hd] at q; cases q⟩
  keep := fun i h h' st k => ⟨st.1.elim fun old he => ⟨old, k e (by simp) _ he⟩, st.2.1.at fun o q => k it (by simp) o q, st.2.2⟩
  item := by
    intro X hP hw hK hc i pins s σ H E I hf st hg
    subst hP hw hK
    obtain ⟨⟨old, he⟩, hit, hne⟩ := st
    obtain ⟨xs, x, hq, hx⟩ := hg
    obtain ⟨its, rv, p, hz⟩ := I.tuple hq
    obtain ⟨u, hu, ru⟩ := rv.get hx
    have hel : e < s.heap.objs.size := Heap.lt_size he
    have hil : it < s.heap.objs.size := by obtain ⟨_, q, _⟩ := hit; exact Heap.lt_size q
    have hea : e ≠ a := fun z => by
      obtain ⟨o, ho, hc', _⟩ := p
      subst z
      have he' : s.heap.get? e = _ := he
      rw [ho] at he'
      cases he'
      injection hc' with q
      exact absurd q (by decide)
    have hia : a ≠ it := fun z => by
      obtain ⟨o, ho, hc', _⟩ := p
      obtain ⟨o', ho', hc2, _⟩ := hit
      subst z
      rw [ho] at ho'
      cases ho'
      rw [hc'] at hc2
      injection hc2 with q
      exact absurd q (by decide)
    have hlt : i < its.toArray.size := by
      rw [List.size_toArray]
      rcases Nat.lt_or_ge i its.length with z | z
      · exact z
      · rw [List.getElem?_eq_none z] at hu; cases hu
    refine wpAny_pyNext_enum_itemD (Draws.tuple (A := X.A.in1) (I.ok.hd hc) it a hia its.toArray) he ⟨hit, tup_is p⟩ hlt hne (by simp [hne, hea]) fun y h' tk hy ho st' hT hsz hk => ?_
    have ey : y = u := by
      have q : its.toArray[i]? = some y := hy
      rw [List.getElem?_toArray, hu] at q
      exact (Option.some.inj q).symm
    subst ey
    refine ⟨_, rfl, wpAny_letOwnedTupleGo_enum (s := { s with heap := h', toks := tk + 1 }) ho fun h2 he' sb => ?_⟩
    have hT2 : h2.get? s.heap.objs.size = some { cls := .type "tuple", data := .seq #[.int i tk, y] } := (sb.2 _ (Nat.ne_of_gt hel)).trans hT
    have new : ObjOk X.prog X.w (upd H s.heap.objs.size (.tup [.int (i : Nat), x])) h2 s.heap.objs.size (.tup [.int (i : Nat), x]) := by
      refine ⟨by show 2 ≤ sizeLine; decide, [.int i tk, y], .cons ⟨_, rfl⟩ (.cons ru .nil), ⟨_, hT2, rfl, _, rfl⟩⟩
    have I1 : Inv X pins σ (upd H s.heap.objs.size (.tup [.int (i : Nat), x])) { s with heap := h2, toks := tk + 1 } := by
      refine I.turnedNew (ch := [e, it]) (fun b ob hb q => ?_) hf (Nat.le_refl _) new
      have n1 : b ≠ e := fun z => hb (by simp [z])
      have n2 : b ≠ it := fun z => hb (by simp [z])
      exact (sb.2 b n1).trans (hk b ob n1 n2 q)
    refine ⟨.ref s.heap.objs.size, _, I1, rfl, ⟨_, x, rfl, I.hok.fresh (Nat.le_refl _), rfl, fun ys hy' => by rw [I.tuple_inj hy' hq]; exact hx⟩, ⟨⟨y, ?_⟩, st'.1.at fun o q => (sb.2 it (Ne.symm hne)).trans q, hne⟩, fun b hb => ?_⟩
    · rw [show ((i + 1 : Nat) : Int) = (i : Int) + 1 by omega]
      exact he'
    · have hb' : b < s.heap.objs.size := by
        rcases (show b = e ∨ b = it by simpa using hb) with z | z
        · rw [z]; exact hel
        · rw [z]; exact hil
      rw [upd_ne (Nat.ne_of_lt hb')]
      exact (hf b hb).1
  done := by
    intro X hP hw hK hc i pins s σ H E I hf st hg
    subst hP hw hK
    obtain ⟨⟨old, he⟩, hit, hne⟩ := st
    obtain ⟨xs, hq, hx⟩ := hg
    obtain ⟨its, rv, p, hz⟩ := I.tuple hq
    obtain ⟨f0, f1, f2, f3, f4, f5⟩ := hf it (by simp)
    have hia : a ≠ it := fun z => by
      obtain ⟨o, ho, hc', _⟩ := p
      obtain ⟨o', ho', hc2, _⟩ := hit
      subst z
      rw [ho] at ho'
      cases ho'
      rw [hc'] at hc2
      injection hc2 with q
      exact absurd q (by decide)
    have hl : i = its.toArray.size := by rw [List.size_toArray, ← rv.length]; exact hx.symm
    subst hl
    exact wpAny_pyNext_enum_endD (Draws.tuple (A := X.A.in1) (I.ok.hd hc) it a hia its.toArray) he ⟨hit, tup_is p⟩ fun h' eb => ⟨rfl, I.turned (t' := s.toks) (fun b o hb q => eb b o hb q) f0 f1 f3 f4 f5⟩
  self := fun A i s Q E st h => st.1.elim fun _ he => wpAny_pyIter_enum he h

def iEnumT (K : PySem.W.Frag) (ta : TA) : TI := fun σ H R => ta σ H fun vs H1 => ∃ a xs, vs = [.ref a] ∧ SqT K H1 a xs ∧ R (IteT K a) H1
theorem pi_enumT {X : Cx} {e : Expr} {ta : TA} {p pos tpos : Pos} {elts : List Expr} {kk : Nat} (hg : Gl X "enumerate") (hm : X.mg "enumerate" = none) (ha : PA X [e] ta) (hs : starEach [e] X.env = [(false, eval e X.env)] := by rfl) :
    PI X (.Tuple elts kk tpos) (.Call (.Name "enumerate" p) [e] [] pos) (iEnumT X.K ta) := by
  refine ⟨fun pins s σ H R I h => ?_⟩
  refine Call_ (ld_blt I hg hm boot_enumerate (PyProof.Rows.callWith_type1 (thn (ha.run pos pins s σ H _ I h) fun us s1 ⟨vs, H1, I1, r1, q1⟩ => ?_) hs rfl))
  obtain ⟨a, xs, rfl, hq, q⟩ := q1
  obtain ⟨u, rfl, r⟩ := vals1 r1
  cases (show u = Value.ref a from r)
  obtain ⟨its, rv, p', hz⟩ := I1.tuple hq
  refine enum_of (begins_tuple a its.toArray) (tup_is p') fun h' he hit hk => wpAny_pyIter_enum he ?_
  have I2 : Inv X pins σ H1 { s1 with heap := h' } := I1.kept (t' := s1.toks) hk
  refine ⟨s1.heap.objs.size + 1, [s1.heap.objs.size + 1, s1.heap.objs.size], _, _, H1, rfl, I2, turn_enumT a (s1.heap.objs.size + 1) s1.heap.objs.size, ⟨⟨.none, he⟩, ⟨_, hit, rfl, rfl⟩, Nat.succ_ne_self _⟩, fun b hb => ?_, q⟩
  have hle : s1.heap.objs.size ≤ b := by
    rcases (show b = s1.heap.objs.size + 1 ∨ b = s1.heap.objs.size by simpa using hb) with z | z
    · rw [z]; exact Nat.le_add_right _ _
    · rw [z]; exact Nat.le_refl _
  exact I1.fpOk hle (I1.hok.fresh hle)
def pairD (i : Nat) (d : D) : D := .tup [.int i, d]
def enumD : Nat → List D → List D
  | _, [] => []
  | k, d :: ds => pairD k d :: enumD (k + 1) ds
theorem enumD_len : ∀ (k : Nat) (ds : List D), (enumD k ds).length = ds.length
  | _, [] => rfl
  | k, d :: ds => by unfold enumD; rw [List.length_cons, List.length_cons, enumD_len]
theorem enumD_get : ∀ (k : Nat) (ds : List D) (i : Nat) (d : D), ds[i]? = some d → (enumD k ds)[i]? = some (pairD (k + i) d)
  | _, [], _, _, h => by cases h
  | k, d :: ds, 0, _, h => by cases h; rfl
  | k, d :: ds, i + 1, d', h => by
    unfold enumD
    rw [List.getElem?_cons_succ, enumD_get (k + 1) ds i d' h, show k + 1 + i = k + (i + 1) by omega]
def srcE (ms : ML) : MI := fun e S => (ms e S).bind fun ds S1 => match ds with
  | [.tup xs] => .ok (enumD 0 xs, []) S1
  | [.rol xs] => .ok (enumD 0 xs, []) S1
  | [.ref n] => match S1[n]? with
    | some (.lst xs) => .ok (enumD 0 xs, [(n, xs)]) S1
    | _ => .bad
  | _ => .bad
section
variable {K : PySem.W.Frag} {φ : List Addr} {H : Hp} {ds : List D} {xs : List V} {a : Addr}
theorem pair_rep {φ' : List Addr} {H' : Hp} {T : Addr} {i : Nat} {d : D} {x : V} (hT : H' T = none) (rv : RepV K φ' H' d x) : RepV K φ' (upd H' T (.tup [.int i, x])) (pairD i d) (.ref T) :=
  .mkTup (.inl (.inl upd_same)) (.cons .mkInt (.cons (rv.mono (List.prefix_refl φ') (Keep.new hT)) .nil))
theorem src_of_enumT (r : RepL K φ H ds xs) (s : SqT K H a xs) : IsSrc K φ H (enumD 0 ds, []) (IteT K a) := by
  refine ⟨fun _ H' => SqT K H' a xs, fun i H' v H2 => ∃ T x, v = .ref T ∧ H' T = none ∧ H2 = upd H' T (.tup [.int (i : Nat), x]) ∧ ∀ ys, SqT K H' a ys → ys[i]? = some x, ⟨fun i H' hi ⟨_, h⟩ => ?_, fun H' ⟨_, h⟩ => ⟨xs, h, by rw [show (enumD 0 ds, ([] : Gs)).1.length = ds.length from enumD_len 0 ds]; exact r.len⟩, fun i H' x H2 _ _ y => y⟩, fun φ' H' S' q k st c => k.seqT s, fun φ' H' i x H2 q k hi hg y => ?_⟩
  · rw [show (enumD 0 ds, ([] : Gs)).1.length = ds.length from enumD_len 0 ds] at hi
    exact ⟨xs, xs[i]'(by rw [r.len]; exact hi), h, List.getElem?_eq_getElem _⟩
  · rw [show (enumD 0 ds, ([] : Gs)).1.length = ds.length from enumD_len 0 ds] at hi
    obtain ⟨T, z, rfl, hT, rfl, hx⟩ := y
    obtain ⟨v, h1, rv⟩ := (r.mono q k).get (List.getElem?_eq_getElem hi)
    rw [hx xs hg] at h1; cases h1
    refine ⟨_, enumD_get 0 ds i _ (List.getElem?_eq_getElem hi), ?_, .inr ⟨T, _, hT, rfl⟩⟩
    rw [Nat.zero_add]
    exact pair_rep hT rv
theorem src_of_enumL {gs : Gs} (hG : ∀ φ' H' S', φ <+: φ' → Keep H H' → StOk K φ' H' S' → chk gs S' = true → ∃ xs, SqL K H' a xs ∧ RepL K φ' H' ds xs) : IsSrc K φ H (enumD 0 ds, gs) (Ite K a) := by
  refine ⟨fun φ' H' => ∃ xs, SqL K H' a xs ∧ RepL K φ' H' ds xs, fun i H' v H2 => ∃ T x, v = .ref T ∧ H' T = none ∧ H2 = upd H' T (.tup [.int (i : Nat), x]) ∧ ∀ ys, SqL K H' a ys → ys[i]? = some x, ⟨fun i H' hi ⟨φ', xs, h, r⟩ => ?_, fun H' ⟨φ', xs, h, r⟩ => ⟨xs, h, by rw [show (enumD 0 ds, gs).1.length = ds.length from enumD_len 0 ds]; exact Nat.le_of_eq r.len⟩, fun i H' x H2 _ _ y => y⟩, hG, fun φ' H' i x H2 q k hi hg y => ?_⟩
  · rw [show (enumD 0 ds, gs).1.length = ds.length from enumD_len 0 ds] at hi
    exact ⟨xs, xs[i]'(by rw [r.len]; exact hi), h, List.getElem?_eq_getElem _⟩
  · rw [show (enumD 0 ds, gs).1.length = ds.length from enumD_len 0 ds] at hi
    obtain ⟨T, z, rfl, hT, rfl, hx⟩ := y
    obtain ⟨xs, h, r⟩ := hg
    obtain ⟨v, h1, rv⟩ := r.get (List.getElem?_eq_getElem hi)
    rw [hx xs h] at h1; cases h1
    refine ⟨_, enumD_get 0 ds i _ (List.getElem?_eq_getElem hi), ?_, .inr ⟨T, _, hT, rfl⟩⟩
    rw [Nat.zero_add]
    exact pair_rep hT rv
end
section
variable {X : Cx} {W : Wish} {a : Expr} {ms : ML}
theorem i_enum {elts : List Expr} {kk : Nat} {p pos tpos : Pos} (hg : Gl X "enumerate") (hm : X.mg "enumerate" = none) (ha : PA X [a] (rdL X.K W ms)) (hs : starEach [a] X.env = [(false, eval a X.env)] := by rfl) :
    PI X (.Tuple elts kk tpos) (.Call (.Name "enumerate" p) [a] [] pos) (rdI X.K W (srcE ms)) := pi_imp (pi_or (pi_enumT hg hm ha hs) (pi_enum hg hm ha hs)) fun σ H R' h => by
  obtain ⟨φ, e, S, g, p⟩ := h
  unfold srcE at p
  cases hm : ms e S with
  | bad => rw [hm] at p; exact p.elim
  | exc x s => rw [hm] at p; exact .inl ⟨φ, e, S, g, by rw [hm]; exact p⟩
  | ok ds S1 =>
    simp only [hm, R.bind] at p
    split at p
    · rename_i xs
      refine .inl ⟨φ, e, S, g, ?_⟩
      rw [hm]
      intro φ1 H1 vs q k st r
      obtain ⟨v, rfl, rv⟩ := r.one
      obtain ⟨a, ys, rfl, s, r1⟩ := rv.tup
      exact ⟨a, ys, rfl, s, (post.mono q k p).src st (src_of_enumT r1 s)⟩
    · rename_i xs
      refine .inr ⟨φ, e, S, g, ?_⟩
      rw [hm]
      intro φ1 H1 vs q k st r
      obtain ⟨v, rfl, rv⟩ := r.one
      obtain ⟨a, ys, rfl, s, r1⟩ := rv.rol
      refine ⟨a, ys, rfl, rolSq s, (post.mono q k p).src st (src_of_enumL fun φ' H' S' q' k' st' _ => ?_)⟩
      rcases s with ⟨o, s⟩ | s
      · exact ⟨ys, rolSq (.inl ⟨o, k'.2 _ _ _ s⟩), r1.mono q' k'⟩
      · exact ⟨ys, rolSq (.inr s), r1.mono q' k'⟩
    · rename_i n
      split at p
      · rename_i xs hn
        refine .inr ⟨φ, e, S, g, ?_⟩
        rw [hm]
        intro φ1 H1 vs q k st r
        obtain ⟨v, rfl, rv⟩ := r.one
        obtain ⟨a, ha, rfl⟩ := rv.ref
        obtain ⟨ys, h0, r1⟩ := st.lst ha hn
        refine ⟨a, ys, rfl, .of h0, (post.mono q k p).src st (src_of_enumL fun φ' H' S' q' k' st' c => ?_)⟩
        obtain ⟨zs, h2, r2⟩ := st'.lst (pre_get q' ha) (chk_one c)
        exact ⟨zs, .of h2, r2⟩
      · exact p.elim
    · exact p.elim
end
end Mi

namespace Mi
open PySem PySem.Spec PyProof.Rows L2 HT

/-! ### t[::-1] -/
theorem back_pick (xs : List Value) : ∀ k, k ≤ xs.length → (List.range k).filterMap (fun (m : Nat) => xs[((xs.length : Int) - 1 + (m : Int) * (-1)).toNat]?) = (xs.drop (xs.length - k)).reverse := by
  intro k
  induction k with
  | zero =>
    intro _
    rw [Nat.sub_zero, List.drop_length]
    rfl
  | succ k ih =>
    intro hk
    have hk' : xs.length - (k + 1) < xs.length := by omega
    have e : ((xs.length : Int) - 1 + (k : Int) * (-1)).toNat = xs.length - (k + 1) := by omega
    rw [List.range_succ, List.filterMap_append, ih (by omega), List.drop_eq_getElem_cons hk', List.reverse_cons, show xs.length - (k + 1) + 1 = xs.length - k by omega]
    simp only [List.filterMap_cons, List.filterMap_nil]
    rw [e, List.getElem?_eq_getElem hk']
section
variable {prog : Program} {w : World} {A : Around} {E : Value → Shared → Prop} {s : Shared}
theorem getItem_tup_back {t sl : Addr} {items : List Value} {vl vu vs : Value} {Q : Value → Shared → Prop} (ht : IsTup s.heap t items.toArray) (hs : s.heap.IsSliceOf sl vl vu vs) (pl : IsPart vl none) (pu : IsPart vu none) (ps : IsPart vs (some (-1)))
    (hsz : items.length ≤ sizeLine) (h : Q (.ref s.heap.objs.size) { s with heap := s.heap.push { cls := .type "tuple", data := .seq items.reverse.toArray } }) : wpAny (model prog w) A (getItem (.ref t) (.ref sl)) Q E s := by
  obtain ⟨os, hos, hcs, hds⟩ := id hs
  have tySl : s.TypeIs (.ref sl) "slice" := ⟨os, hos, hcs⟩
  unfold getItem
  try with_reducible refine wpAny_holding ?_
  first | refine wpAny_bind (wpAny_pure ?_) | skip
  refine wpAny_bind (wpAny_sequenceKey ht.typeIs (by decide) ?_)
  refine wpAny_bind (wpAny_callSpecial?_slot (name := Str.ofString "__getitem__") ht.typeIs PyProof.Rows.slot_tuple_getitem (wpAny_call_entry PyProof.Rows.slot_tuple_getitem ht.typeIs entry_tuple_getitem ?_ (args_tuple_getitem _ _)))
  show wpAny _ _ (Builtin.Tuple.tupleItemsOf (.ref t) >>= _) _ _ s
  refine wpAny_bind (tupleItemsOf_ ht ?_)
  refine wpAny_bind (wpAny_typeOf tySl ?_)
  rw [if_pos (by decide)]
  have app : ∀ {Q : Int × Int × Nat → Shared → Prop}, Q ((items.length : Int) - 1, -1, items.length) s → wpAny (model prog w) A.in1 (Builtin.Slice.sliceApplied (.ref sl) (pure (items.toArray.size : Int))) Q E s := by
    intro Q hQ
    unfold Builtin.Slice.sliceApplied Builtin.Slice.sliceFields
    refine wpAny_bind (wpAny_bind (wpAny_field hos hds (x := vl) rfl (wpAny_bind (wpAny_field hos hds (x := vu) rfl (wpAny_bind (wpAny_field hos hds (x := vs) rfl (wpAny_pure ?_)))))))
    refine wpAny_bind (slicePart_ ps ?_)
    show wpAny _ _ (if ((-1 : Int) == 0) = true then _ else _) _ _ s
    rw [if_neg (by decide)]
    refine wpAny_bind (slicePart_ pl (wpAny_bind (slicePart_ pu (wpAny_bind (wpAny_pure ?_)))))
    have e1 : Builtin.Slice.sliceAdjust none none (-1) (items.toArray.size : Int) = ((items.length : Int) - 1, -1) := by
      unfold Builtin.Slice.sliceAdjust
      rw [List.size_toArray]
      simp
    have e2 : Builtin.Slice.slicePlaces ((items.length : Int) - 1) (-1) (-1) = items.length := by
      unfold Builtin.Slice.slicePlaces
      simp only [show ¬ ((-1 : Int) > 0) by decide, if_false]
      by_cases z : (items.length : Int) - 1 > -1
      · simp only [z, if_true]
        rw [show (- -1 : Int) = 1 by decide, Int.ediv_one]
        omega
      · simp only [z, if_false]
        omega
    show wpAny _ _ (match Builtin.Slice.sliceAdjust none none (-1) (items.toArray.size : Int) with | (lo, hi) => pure (lo, (-1 : Int), Builtin.Slice.slicePlaces lo hi (-1))) _ _ s
    rw [e1]
    show wpAny _ _ (pure ((items.length : Int) - 1, (-1 : Int), Builtin.Slice.slicePlaces ((items.length : Int) - 1) (-1) (-1))) _ _ s
    rw [e2]
    exact wpAny_pure hQ
  refine wpAny_bind (app ?_)
  have no : ¬ (((items.length : Int) - 1 == 0 && (-1 : Int) == 1 && items.length == items.toArray.size) = true) := by
    intro q
    rw [Bool.and_eq_true, Bool.and_eq_true] at q
    exact absurd (eq_of_beq q.1.2) (by decide)
  show wpAny _ _ (if ((items.length : Int) - 1 == 0 && (-1 : Int) == 1 && items.length == items.toArray.size) = true then _ else _) _ _ s
  rw [if_neg no]
  have pk : ((List.range items.length).filterMap fun (k : Nat) => items.toArray[((items.length : Int) - 1 + (k : Int) * (-1)).toNat]?).toArray = items.reverse.toArray := by
    have z := back_pick items items.length (Nat.le_refl _)
    rw [Nat.sub_self, List.drop_zero] at z
    rw [← z]
    simp only [List.getElem?_toArray]
  rw [pk]
  have ok : sizeOk (.seq items.reverse.toArray) := by
    show items.reverse.toArray.size ≤ sizeLine
    rw [List.size_toArray, List.length_reverse]
    exact hsz
  first
    | exact wpAny_bind (m := Builtin.Tuple.tupleExact _) (wpAny_newObj_type (wpAny_pure ⟨_, rfl, wpAny_pure h⟩) ok)
    | exact wpAny_bind (m := Builtin.Tuple.tupleExact _) (wpAny_newObj_type (wpAny_bind (wpAny_pure (wpAny_pure ⟨_, rfl, wpAny_pure h⟩))) ok)
    | exact wpAny_bind (wpAny_bind (m := Builtin.Tuple.tupleExact _) (wpAny_newObj_type (wpAny_pure (wpAny_pure ⟨_, rfl, wpAny_pure h⟩)) ok))
    | exact wpAny_bind (wpAny_bind (m := Builtin.Tuple.tupleExact _) (wpAny_newObj_type (wpAny_pure ⟨_, rfl, wpAny_pure h⟩) ok))
end
def tRevT (K : PySem.W.Frag) (te : TE) : TE := fun σ H Q => te σ H fun x H1 => ∃ a xs, x = .ref a ∧ SqT K H1 a xs ∧ ∀ p, H1 p = none → Q (.ref p) (upd H1 p (.tup xs.reverse))
section
variable {X : Cx}
theorem pe_revT {e : Expr} {te : TE} {k : Nat} {p1 p2 p3 pos : Pos} (he : PE X e te) : PE X (.Subscript e (.Slice none none (some (.UnaryOp .USub (.Constant (.int 1) k p1) p2)) p3) pos) (tRevT X.K te) := by
  refine ⟨fun pins s σ H Q I h => ?_⟩
  refine Subscript_ (thn (he.run pins s σ H _ I h) fun v s1 ⟨x, H1, I1, r1, a, xs, ex, hx, q⟩ => ?_)
  subst ex
  cases r1
  have st1 : PO X (some (.UnaryOp .USub (.Constant (.int 1) k p1) p2)) (tPart (tUn (rU fun i => .int (-i)) (tC (.int 1)))) := po_some (pe_un un_neg pe_int)
  refine wpAny_Slice (thn (po_none.run pins s1 σ H1 (fun o H2 => o = none ∧ H2 = H1) I1 ⟨rfl, rfl⟩) fun vl s2 ⟨l, H2, I2, pl, el, e2⟩ => ?_)
  subst el e2
  refine thn (po_none.run pins s2 σ H2 (fun o H3 => o = none ∧ H3 = H2) I2 ⟨rfl, rfl⟩) fun vu s3 ⟨u, H3, I3, pu, eu, e3⟩ => ?_
  subst eu e3
  refine thn (st1.run pins s3 σ H3 (fun o H4 => o = some (-1) ∧ H4 = H3) I3 ⟨1, rfl, -1, rfl, rfl, rfl⟩) fun vs s4 ⟨o, H4, I4, ps, eo, e4⟩ => ?_
  subst eo e4
  have I5 : Inv X pins σ H4 { s4 with heap := s4.heap.push { cls := .type "slice", data := .fields #[vl, vu, vs] } } := I4.kept (t' := s4.toks) fun b ob q => Heap.get?_push_of_some _ q
  obtain ⟨its, r, ht, hz⟩ := I5.tuple hx
  have len := r.length
  show wpAny (model X.prog X.w) X.A (subscriptTail e (.Slice none none (some (.UnaryOp .USub (.Constant (.int 1) k p1) p2)) p3) (.ref a) (.ref s4.heap.objs.size)) (EP X pins σ Q) X.xe { s4 with heap := s4.heap.push { cls := .type "slice", data := .fields #[vl, vu, vs] } }
  refine tail_any (ops := [.ref a, .ref s4.heap.objs.size]) ht.typeIs (PyProof.Rows.slot_tuple_getitem.lookup) ?_ (by with_unfolding_all rfl)
  refine getItem_tup_back ht (Heap.IsSliceOf.new _ vl vu vs) pl pu ps (by omega) ?_
  refine ⟨.ref _, _, I5.laid (t' := s4.toks) (o := .tup xs.reverse) (fun b ob q => Heap.get?_push_of_some _ q) (Nat.le_refl _) ?_, rfl, q _ (I5.hok.fresh (Nat.le_refl _))⟩
  exact ⟨by rw [List.length_reverse]; exact hz, _, r.reverse, IsTup.new _ _⟩
theorem pe_or2 {e : Expr} {t t' : TE} (h : PE X e t) (h' : PE X e t') : PE X e (fun σ H Q => t σ H Q ∨ t' σ H Q) := ⟨fun pins s σ H Q I q => by
  rcases q with q | q
  · exact h.run pins s σ H Q I q
  · exact h'.run pins s σ H Q I q⟩
def revV (m : ME) : ME := fun e S => (m e S).bind fun d S1 => match d with
  | .tup ds => .ok (.tup ds.reverse) S1
  | .rol ds => .ok (.ref S1.length) (S1 ++ [.lst ds.reverse])
  | .ref n => match S1[n]? with
    | some (.lst ds) => .ok (.ref S1.length) (S1 ++ [.lst ds.reverse])
    | _ => .bad
  | _ => .bad
theorem q_rev {W : Wish} {a : Expr} {ma : ME} {k : Nat} {p1 p2 p3 pos : Pos} (ha : PE X a (rd X.K W ma)) : PE X (.Subscript a (.Slice none none (some (.UnaryOp .USub (.Constant (.int 1) k p1) p2)) p3) pos) (rd X.K W (revV ma)) :=
  pe_imp (pe_or2 (pe_revT ha) (pe_revL ha)) fun σ H Q h => by
    obtain ⟨φ, e, S, g, p⟩ := h
    unfold revV at p
    cases hm : ma e S with
    | bad => rw [hm] at p; exact p.elim
    | exc x s => rw [hm] at p; exact .inl ⟨φ, e, S, g, by rw [hm]; exact p⟩
    | ok d S1 =>
      simp only [hm, R.bind] at p
      split at p
      · rename_i ds
        refine .inl ⟨φ, e, S, g, ?_⟩
        rw [hm]
        intro φ1 H1 v q k st r
        obtain ⟨a, xs, rfl, s, r1⟩ := r.tup
        exact ⟨a, xs, rfl, s, fun t ht => (post.mono q k p).tup st ht r1.reverse⟩
      · rename_i ds
        refine .inr ⟨φ, e, S, g, ?_⟩
        rw [hm]
        intro φ1 H1 v q k st r
        obtain ⟨a, xs, rfl, s, r1⟩ := r.rol
        exact ⟨a, xs, rfl, rolSq s, fun t ht => (post.mono q k p).push st ht (cell_lst ht r1.reverse)⟩
      · rename_i n
        split at p
        · rename_i ds hn
          refine .inr ⟨φ, e, S, g, ?_⟩
          rw [hm]
          intro φ1 H1 v q k st r
          obtain ⟨a, ha, rfl⟩ := r.ref
          obtain ⟨xs, h0, r1⟩ := st.lst ha hn
          exact ⟨a, xs, rfl, .of h0, fun t ht => (post.mono q k p).push st ht (cell_lst ht r1.reverse)⟩
        · exact p.elim
      · exact p.elim
theorem q_dict0 {W : Wish} {pos : Pos} : PE X (.Dict [] [] pos) (rd X.K W mkD) := pe_imp pe_dnewK fun σ H Q h => by
  obtain ⟨φ, e, S, g, p⟩ := h
  exact fun q hq => p.push g.st hq (⟨[], upd_same, .nil⟩ : CellOk X.K _ _ q (.dK []))
end
end Mi

namespace Mi
open PySem PySem.Spec PyProof.Rows L2

/-! ### the law's end -/
theorem rep_ints {K : PySem.W.Frag} {φ : List Addr} {H : Hp} : ∀ ns : List Int, RepL K φ H (ns.map D.int) (ns.map V.int)
  | [] => .nil
  | _ :: ns => .cons .mkInt (rep_ints ns)
section
variable {P : Program} {w : World} {K : PySem.W.Frag} {mg mb : Str → Option Value} {k : Nat} {fa a : Addr} {fd : FuncData} {x : Str} {sp : Sp} {s1 : Shared} {vs : List Value} {ns : List Int}
theorem law_from (H : Hp) (hA : ∀ b, H b ≠ none → b = a) (hO : ∀ o, H a = some o → ∃ u, o = .frz { cls := .type "list", data := .seq vs.toArray } u) (hok : HOk P w H s1.heap) (hK : H a ≠ none → K.lookup a = none)
    (ha : s1.heap.get? a = some { cls := .type "list", data := .seq vs.toArray })
    (kin : K.In s1.heap) (hns : s1.heap.Ns mainGlobals mg) (hb : s1.heap.Ns builtinsNs mb) (hbb : ∀ x : Str, x ≠ "__name__" → mb x = bootBuiltins x) (hlim : s1.heap.NoLimit) (hg : s1.gens = #[]) (hr : Room k callerA)
    (F : ∀ base : Heap, K.In base → base.Ns mainGlobals mg → FnM P w K mg base k fa fd [x] sp) (bd : ∀ (s : Shared) (u : Value), BindsTo s fd ⟨[u], []⟩ [(x, u)])
    (hsp : sp [.ref a] H (fun v _ => v = .bl true) fun _ _ _ => False) :
    codeAny (model P w) callerA (.call (.ref fa) ⟨[.ref a], []⟩) (fun r s' => r = .ok (.ret (.bool true)) ∧ OldK s1.heap s'.heap ∧ s'.os = s1.os ∧ AllBare s'.gens) s1 := by
  have notA : ∀ {b : Addr} {o : Obj} {es : Array DictEntry} {ep : Nat}, s1.heap.get? b = some o → o.data = .dict es ep → H b = none := by
    intro b o es ep e d
    cases q : H b with
    | none => rfl
    | some u =>
      have := hA b (by rw [q]; exact fun z => by cases z)
      subst this
      rw [ha] at e
      cases e
      have d2 : Data.seq vs.toArray _ = Data.dict es ep := d
      cases d2
  have nsT : ∀ {b : Addr} {m : Str → Option Value}, s1.heap.Ns b m → (hidT s1.heap H).Ns b m := by
    rintro b m ⟨o, es, ep, e, d, r⟩
    exact ⟨o, es, ep, hidT_get e (notA e d), d, r⟩
  have kinT : K.In (hidT s1.heap H) := by
    intro b o e
    refine hidT_get (kin b o e) ?_
    cases q : H b with
    | none => rfl
    | some u =>
      have := hA b (by rw [q]; exact fun z => by cases z)
      subst this
      rw [hK (by rw [q]; exact fun z => by cases z)] at e
      cases e
  obtain ⟨mc, l1, l2⟩ := hlim
  have mod : Mod K mg (hidT s1.heap H) := ⟨kinT, nsT hns, ⟨mb, nsT hb, hbb⟩, ⟨mc, nsT l1, l2⟩⟩
  have e0 : Env0 P w K mg (hidT s1.heap H) callerA [] s1 H :=
    { frames := rfl, mod := mod, bs := fun b o e => of_hidT e, bsz := Nat.le_of_eq (hidT_size _ _), funs := trivial, frf := fun b z => (nomatch (show b ∈ ([] : List Addr) from z)), hok := hok, bare := .of_eq hg }
  refine codeAny_mono ((F _ kinT (nsT hns)).go callerA [] s1 H ⟨[.ref a], []⟩ [.ref a] [.ref a] _ _ hr rfl e0 (bd s1 (.ref a)) (.cons rfl .nil) hsp) fun r s2 h => ?_
  cases r with
  | error e =>
    obtain ⟨_, _, _, _, _, _, _, _, _, _, _, _, z⟩ := (show L2.CX P w [] H s1 (fun _ _ _ => False) e s2 from h)
    exact z.elim
  | ok fl =>
    cases fl with
    | next => exact h.elim
    | brk => exact h.elim
    | cont => exact h.elim
    | ret u =>
      obtain ⟨v, H', os, bare, un, hok', rv, q⟩ := h
      have q' : v = .bl true := q
      subst q'
      cases (show u = Value.bool true from rv)
      refine ⟨rfl, OldK.of_keep fun b o e => ?_, os, bare⟩
      cases hb' : H b with
      | none => exact un.keep b o e hb' (fun z => nomatch (show b ∈ ([] : List Addr) from z)) (fun z => nomatch z)
      | some u =>
        have := hA b (by rw [hb']; exact fun z => by cases z)
        subst this
        obtain ⟨u', rfl⟩ := hO u hb'
        obtain ⟨e2, _⟩ := hok' b _ (un.frzs b _ _ hb')
        rw [ha] at e
        cases e
        exact e2
theorem law_m {XT : XA} {f : MF} {S' : Store} (kin : K.In s1.heap) (hns : s1.heap.Ns mainGlobals mg) (hb : s1.heap.Ns builtinsNs mb) (hbb : ∀ x : Str, x ≠ "__name__" → mb x = bootBuiltins x) (hlim : s1.heap.NoLimit) (hg : s1.gens = #[]) (hr : Room k callerA)
    (ha : s1.heap.get? a = some { cls := .type "list", data := .seq vs.toArray }) (hi : IntsAre vs ns) (hl : ns.length ≤ sizeLine)
    (F : ∀ base : Heap, K.In base → base.Ns mainGlobals mg → FnM P w K mg base k fa fd [x] (spM XT K 1 f)) (bd : ∀ (s : Shared) (u : Value), BindsTo s fd ⟨[u], []⟩ [(x, u)])
    (ok : f [.rol (ns.map D.int)] [] = .ok (.bl true) S') :
    codeAny (model P w) callerA (.call (.ref fa) ⟨[.ref a], []⟩) (fun r s' => r = .ok (.ret (.bool true)) ∧ OldK s1.heap s'.heap ∧ s'.os = s1.os ∧ AllBare s'.gens) s1 := by
  have lenV := hi.length
  have rv := vals_ints hi
  have sp1 : ∀ H : Hp, ((∃ o, H a = some (.frz o (.lst (ns.map V.int)))) ∨ SqL K (fun _ => none) a (ns.map V.int)) → spM XT K 1 f [.ref a] H (fun v _ => v = .bl true) fun _ _ _ => False := by
    intro H hq
    refine ⟨[], [.rol (ns.map D.int)], [], ⟨rfl, .nil, fun n c h => nomatch h⟩, .cons ?_ .nil, rfl, ?_⟩
    · unfold RepV
      exact ⟨a, ns.map V.int, rfl, hq, rep_ints ns⟩
    · rw [ok]
      exact fun φ' H' v _ _ _ r => r.bl
  cases hk : K.lookup a with
  | some o =>
    have e := kin a o hk
    rw [ha] at e
    cases e
    have sq : SqL K (fun _ => none) a (ns.map V.int) := .inr ⟨_, vs.toArray, _, hk, rfl, rfl, rfl, by rw [List.size_toArray, lenV]; exact hl, by simpa using rv⟩
    exact law_from (fun _ => none) (fun b z => absurd rfl z) (fun o z => nomatch z) (fun b u z => nomatch z) (fun z => absurd rfl z) ha kin hns hb hbb hlim hg hr F bd (sp1 _ (.inr sq))
  | none =>
    have at_ : (fun b => if b = a then some (HO.frz { cls := .type "list", data := .seq vs.toArray } (.lst (ns.map V.int))) else none) a = some (.frz { cls := .type "list", data := .seq vs.toArray } (.lst (ns.map V.int))) := if_pos rfl
    refine law_from (fun b => if b = a then some (.frz { cls := .type "list", data := .seq vs.toArray } (.lst (ns.map V.int))) else none) (fun b z => ?_) (fun o z => ?_) (fun b u z => ?_) (fun _ => hk) ha kin hns hb hbb hlim hg hr F bd (sp1 _ (.inl ⟨_, at_⟩))
    · by_cases e : b = a
      · exact e
      · exact absurd (if_neg e) z
    · exact ⟨_, Option.some.inj (z.symm.trans at_)⟩
    · by_cases e : b = a
      · subst e
        cases Option.some.inj (z.symm.trans at_)
        exact ⟨ha, by rw [List.length_map]; exact hl, vs, _, rv, ha⟩
      · have z2 := (if_neg e).symm.trans z
        cases z2
end
/-- the goal that k_head leaves, from the law's function -/
theorem walk_m {l : PySem.W.OpenLaw} {n k : Nat} {q : Program} {loose : List Str} {XP : (Str → Option Value) → Heap → Prop} {YP : World → Heap → Prop} {d : DefRec} {K : Params → PySem.W.Frag} {XT : XA} {f : MF} {x : Str}
    (hn : l.most = some n) (hn2 : n ≤ sizeLine) (hdf : d.params.defaults = []) (hr : Room k callerA) (hY : ∀ (w : World) (h : Heap), YP w h → (K w.params).In h)
    (F : ∀ (w : World) (mg : Str → Option Value) (fa : Addr) (h : Heap), (K w.params).In h → h.Ns mainGlobals mg → mg d.name = some (.ref fa) →
      ∃ fd : FuncData, (∀ (s : Shared) (u : Value), BindsTo s fd ⟨[u], []⟩ [(x, u)]) ∧ ∀ base : Heap, (K w.params).In base → base.Ns mainGlobals mg → FnM l.prog w (K w.params) mg base k fa fd [x] (spM XT (K w.params) 1 f))
    (ok : ∀ ns : List Int, ns.length ≤ n → ∃ S', f [.rol (ns.map D.int)] [] = .ok (.bl true) S') : PySem.W.WalkO q loose XP YP l.row.toRowW d [] (fun f vs => PySem.call f vs) := by
  refine Att.attach_call hn hdf fun w s0 s1 mg mb fa o pm cd doc a vs ns G Y ho hd hcd hmg hobj hints hlen hg => ?_
  obtain ⟨fd, bd, hF⟩ := F w mg fa _ (hY w _ Y) G.T.g hmg
  obtain ⟨S', e⟩ := ok ns hlen
  exact law_m (hY w _ Y) G.T.g G.T.b G.T.builtins G.T.nolimit hg hr hobj hints (Nat.le_trans hlen hn2) hF bd e
end Mi

namespace Mi
open PySem PySem.Spec L2

theorem at_def {P : Program} {w : World} {K : PySem.W.Frag} {mg : Str → Option Value} {base : Heap} {N : List Str} {qual : Str} {sc : Scope} {f : Addr} {cdv : Value} {A : Around} {outer : List Env} {s : Shared} {H : Hp} {E : XK} {k : Nat} {XT : XA}
    (hr : Room k (A.deeper (PyProof.Rows.envOfC qual sc s.heap.objs.size f cdv))) (gu : A.guards = some []) : At (cxOf (L2.CX P w) P w K mg base N qual sc f cdv A outer s H E) k (wishE XT E) (fun c od _ H => E c od H) XT :=
  ⟨hr, gu, takes_of rfl rfl rfl rfl, link_E⟩
theorem At.blk {X : Cx} {k : Nat} {W : Wish} {Wx : WX} {XT : XA} (a : At X k W Wx XT) {s : Shared} {H : Hp} {scope : Scope} {cenv : Env} {fp : List Addr} : At (X.blk s H scope cenv fp) k noExc (fun _ _ _ _ => False) XT := ⟨a.room, a.gu, takes0, link0⟩
theorem At.no {X : Cx} {k : Nat} {W : Wish} {Wx : WX} {XT : XA} (a : At X k W Wx XT) : At X k noExc (fun _ _ _ _ => False) XT := ⟨a.room, a.gu, takes0, link0⟩
section
variable {X : Cx} {W : Wish} {st : Stmt}
theorem s_setLc {i : Nat} {src : MI} {t : MT} {tt : MB} {el : ME} {ts vs : List Nat} (hs : ∀ j ∈ ts, j ∈ vs) (h : PS X st (tAsg (tLc (rdI X.K W src) (rdT X.K ts t) (rdB X.K noExc tt) (rd X.K noExc el) vs) (gName i))) : PS X st (rdS X.K W (setS i (lcV src t tt el vs))) := ps_imp h fun E σ H h => by
  obtain ⟨φ, e, S, g, p⟩ := h
  exact rd_lc hs (bindS g p fun d S1 φ1 H1 v e1 k1 g1 r p1 => p1.next ⟨g1.env.set r i, g1.st⟩)
end
abbrev addI : F2 := intD (fun _ _ => true) fun i j => .int (i + j)
theorem addI_rule {K : PySem.W.Frag} : Rule2 K addI (ipI fun i j => i + j) := rI0_rule (v := fun i j => .int (i + j)) fun _ _ _ _ => .mkInt
abbrev subI : F2 := intD (fun _ _ => true) fun i j => .int (i - j)
theorem subI_rule {K : PySem.W.Frag} : Rule2 K subI (ipI fun i j => i - j) := rI0_rule (v := fun i j => .int (i - j)) fun _ _ _ _ => .mkInt
end Mi

namespace Mi
open PySem PySem.Spec L2

/-! ### reckoning with these functions -/
section
variable {α β : Type}
@[simp] theorem bind_ok (a : α) (s : Store) (f : α → Store → R β) : (R.ok a s).bind f = f a s := id rfl
@[simp] theorem bind_exc (x : Exn) (s : Store) (f : α → Store → R β) : (R.exc x s : R α).bind f = .exc x s := id rfl
@[simp] theorem bind_bad (f : α → Store → R β) : (R.bad : R α).bind f = .bad := id rfl
theorem exS_ok (a : α) (s : Store) (e : Vs) (k : α → Store → RS) : exS (R.ok a s) e k = k a s := id rfl
theorem exS_exc (x : Exn) (s : Store) (e : Vs) (k : α → Store → RS) : exS (R.exc x s : R α) e k = .exc x e s := id rfl
theorem exS_bad (e : Vs) (k : α → Store → RS) : exS (R.bad : R α) e k = .bad := id rfl
@[simp] theorem noX_ok (a : α) (s : Store) : noX (R.ok a s) = .ok a s := id rfl
@[simp] theorem noX_bad : noX (R.bad : R α) = .bad := id rfl
@[simp] theorem noX_exc (x : Exn) (s : Store) : noX (R.exc x s : R α) = .bad := id rfl
end
variable (e : Vs) (S : Store) (a b c : ME) (ms : ML)
@[simp] theorem vr_ap (i : Nat) : vr i e S = match e[i]? with
  | some (some d) => .ok d S
  | _ => .bad := id rfl
@[simp] theorem cst_ap (d : D) : cst d e S = .ok d S := id rfl
@[simp] theorem bin_ap (f : F2) : bin f a b e S = (a e S).bind fun x S1 => (b e S1).bind fun y S2 => f x y S2 := id rfl
@[simp] theorem app_ap (f : F1) : app f ms e S = (ms e S).bind f := id rfl
@[simp] theorem callV_ap (f : MF) : callV f ms e S = (ms e S).bind f := id rfl
@[simp] theorem argN_ap : argN e S = .ok [] S := id rfl
@[simp] theorem argC_ap : argC a ms e S = (a e S).bind fun d S1 => (ms e S1).bind fun ds S2 => .ok (d :: ds) S2 := id rfl
@[simp] theorem mkT_ap : mkT ms e S = (ms e S).bind fun ds S1 => if ds.length ≤ 1000000 then .ok (.tup ds) S1 else .bad := id rfl
@[simp] theorem mkL_ap : mkL ms e S = (ms e S).bind fun ds S1 => if ds.length ≤ 1000000 then .ok (.ref S1.length) (S1 ++ [.lst ds]) else .bad := id rfl
@[simp] theorem mkD_ap : mkD e S = .ok (.ref S.length) (S ++ [.dK []]) := id rfl
@[simp] theorem negV_ap : negV a e S = (a e S).bind fun d S1 => match d with
  | .int i => .ok (.int (-i)) S1
  | _ => .bad := id rfl
@[simp] theorem andV_ap : andV a b e S = (a e S).bind fun d S1 => match truD d S1 with
  | some true => b e S1
  | some false => .ok d S1
  | none => .bad := id rfl
@[simp] theorem orV_ap : orV a b e S = (a e S).bind fun d S1 => match truD d S1 with
  | some true => .ok d S1
  | some false => b e S1
  | none => .bad := id rfl
@[simp] theorem notV_ap : notV a e S = (a e S).bind fun d S1 => match truD d S1 with
  | some k => .ok (.bl (!k)) S1
  | none => .bad := id rfl
@[simp] theorem iteV_ap (t : MB) : iteV t a b e S = (t e S).bind fun d S1 => match d with
  | true => a e S1
  | false => b e S1 := id rfl
@[simp] theorem tru_ap : tru a e S = (a e S).bind fun d S1 => match truD d S1 with
  | some k => .ok k S1
  | none => .bad := id rfl
@[simp] theorem tst_ap : tst a e S = (a e S).bind fun d S1 => match d with
  | .bl k => .ok k S1
  | _ => .bad := id rfl
@[simp] theorem andB_ap (s t : MB) : andB s t e S = (s e S).bind fun k S1 => match k with
  | true => t e S1
  | false => .ok false S1 := id rfl
@[simp] theorem orB_ap (s t : MB) : orB s t e S = (s e S).bind fun k S1 => match k with
  | true => .ok true S1
  | false => t e S1 := id rfl
@[simp] theorem notB_ap (s : MB) : notB s e S = (s e S).bind fun k S1 => .ok (!k) S1 := id rfl
@[simp] theorem yesB_ap : yesB e S = .ok true S := id rfl
@[simp] theorem chn_ap (f f' : F2) : chn f f' a b c e S = (a e S).bind fun x S1 => (b e S1).bind fun y S2 => (f x y S2).bind fun z S3 => match z with
  | .bl true => (c e S3).bind fun w S4 => f' y w S4
  | .bl false => .ok (.bl false) S3
  | _ => .bad := id rfl
@[simp] theorem oN_ap : oN e S = .ok none S := id rfl
@[simp] theorem oS_ap : oS a e S = (a e S).bind fun d S1 => match d with
  | .int i => .ok (some i) S1
  | _ => .bad := id rfl
@[simp] theorem slV_ap (lo hi : MO) : slV a lo hi e S = (a e S).bind fun x S1 => (lo e S1).bind fun l S2 => (hi e S2).bind fun u S3 => slD x l u S3 := id rfl
@[simp] theorem revV_ap : revV a e S = (a e S).bind fun d S1 => match d with
  | .tup ds => .ok (.tup ds.reverse) S1
  | .rol ds => .ok (.ref S1.length) (S1 ++ [.lst ds.reverse])
  | .ref n => match S1[n]? with
    | some (.lst ds) => .ok (.ref S1.length) (S1 ++ [.lst ds.reverse])
    | _ => .bad
  | _ => .bad := id rfl
@[simp] theorem appV_ap : appV a b e S = (a e S).bind fun x S1 => match x with
  | .ref n => match S1[n]? with
    | some (.lst _) => (b e S1).bind fun y S2 => match S2[n]? with
      | some (.lst ds) => if ds.length < 1000000 then .ok .non (S2.set n (.lst (ds ++ [y]))) else .bad
      | _ => .bad
    | _ => .bad
  | _ => .bad := id rfl
theorem seqS_ap (x y : MS) : seqS x y e S = match x e S with
  | .nx e1 S1 => y e1 S1
  | r => r := id rfl
theorem nxS_ap : nxS e S = .nx e S := id rfl
theorem exprS_ap : exprS a e S = exS (a e S) e fun _ S1 => .nx e S1 := id rfl
theorem retS_ap : retS a e S = exS (a e S) e fun d S1 => .rt d S1 := id rfl
theorem setS_ap (i : Nat) : setS i a e S = exS (a e S) e fun d S1 => .nx (e.set i (some d)) S1 := id rfl
theorem ifS_ap (t : MB) (x y : MS) : ifS t x y e S = exS (t e S) e fun k S1 => match k with
  | true => x e S1
  | false => y e S1 := id rfl
theorem asgS_ap (t : MT) : asgS a t e S = exS (a e S) e fun d S1 => exS (noX (t d e S1)) e fun e' S2 => .nx e' S2 := id rfl
theorem parS_ap (i j : Nat) : parS i j ms e S = exS (ms e S) e fun ds S1 => match ds with
  | [d1, d2] => .nx ((e.set i (some d1)).set j (some d2)) S1
  | _ => .bad := id rfl
theorem augS_ap (i : Nat) (f : F2) : augS i f a e S = match e[i]? with
  | some (some x) => exS (a e S) e fun y S1 => exS (f x y S1) e fun z S2 => .nx (e.set i (some z)) S2
  | _ => .bad := id rfl
@[simp] theorem tgN_ap (i : Nat) (d : D) : tgN i d e S = .ok (e.set i (some d)) S := id rfl
@[simp] theorem tsN_ap : tsN [] e S = .ok e S := id rfl
@[simp] theorem tsC_ap (t : MT) (u : MTs) (d : D) (r : List D) : tsC t u (d :: r) e S = (noX (t d e S)).bind fun e1 S1 => u r e1 S1 := id rfl
@[simp] theorem tgT_ap (n : Nat) (u : MTs) (ds : List D) : tgT n u (.tup ds) e S = if ds.length = n then u ds e S else .bad := id rfl
@[simp] theorem tgI_ap (d : D) : tgI a b d e S = (noX (a e S)).bind fun x S1 => (noX (b e S1)).bind fun y S2 => match x, y with
  | .ref n, .int k => match S2[n]? with
    | some (.lst ds) => match ixN ds.length k with
      | some j => .ok e (S2.set n (.lst (ds.set j d)))
      | none => .bad
    | _ => .bad
  | _, _ => .bad := id rfl
@[simp] theorem srcV_ap : srcV a e S = (a e S).bind fun d S1 => match d with
  | .tup ds => .ok (ds, []) S1
  | .rol ds => .ok (ds, []) S1
  | .ref n => match S1[n]? with
    | some (.lst ds) => .ok (ds, [(n, ds)]) S1
    | _ => .bad
  | _ => .bad := id rfl
theorem src1_ap : src1 ms e S = (ms e S).bind fun ds S1 => match ds with
  | [.int j] => if j < 1000000000 ∧ -1000000000 < j then .ok (rangeD 0 j.toNat, []) S1 else .bad
  | _ => .bad := id rfl
@[simp] theorem srcE_ap : srcE ms e S = (ms e S).bind fun ds S1 => match ds with
  | [.tup xs] => .ok (enumD 0 xs, []) S1
  | [.rol xs] => .ok (enumD 0 xs, []) S1
  | [.ref n] => match S1[n]? with
    | some (.lst xs) => .ok (enumD 0 xs, [(n, xs)]) S1
    | _ => .bad
  | _ => .bad := id rfl
theorem forV_ap (src : MI) (t : MT) (y : MS) : forV src t y e S = exS (src e S) e fun p S1 => forS t y p.2 p.1 e S1 := id rfl
theorem lcV_ap (src : MI) (t : MT) (tt : MB) (el : ME) (vs : List Nat) : lcV src t tt el vs e S = (src e S).bind fun p S1 => lcS t tt el vs p.2 S1.length e p.1 (S1 ++ [.lst []]) := id rfl
theorem runB_ap (n : Nat) (m : MS) (ds : List D) : runB n m ds S = match m (ds.map some ++ List.replicate n none) S with
  | .rt d S' => .ok d S'
  | .nx _ S' => .ok .non S'
  | .exc x _ S' => .exc x S'
  | _ => .bad := id rfl
@[simp] theorem tru_non : truD .non S = some false := id rfl
@[simp] theorem tru_bl (k : Bool) : truD (.bl k) S = some k := id rfl
@[simp] theorem tru_int (i : Int) : truD (.int i) S = some (i != 0) := id rfl
@[simp] theorem tru_tup (ds : List D) : truD (.tup ds) S = some (!ds.isEmpty) := id rfl
@[simp] theorem add_int (i j : Int) : addD (.int i) (.int j) S = .ok (.int (i + j)) S := id rfl
@[simp] theorem add_tup (x y : List D) : addD (.tup x) (.tup y) S = if x.length + y.length ≤ 1000000 then .ok (.tup (x ++ y)) S else .bad := id rfl
@[simp] theorem sub_int (i j : Int) : subD (.int i) (.int j) S = .ok (.int (i - j)) S := id rfl
@[simp] theorem intD_int (k : Int → Int → Bool) (g : Int → Int → D) (i j : Int) : intD k g (.int i) (.int j) S = if k i j then .ok (g i j) S else .bad := id rfl
@[simp] theorem isi_ap (d : D) (x : String) : isiD [d, .ty x] S = match tnOf d S, clsN x with
  | some t, some c => .ok (.bl (isiT t c)) S
  | _, _ => .bad := id rfl
@[simp] theorem cls_int : clsN "int" = some .int := by decide
@[simp] theorem cls_bool : clsN "bool" = some .bl := by decide
@[simp] theorem cls_tuple : clsN "tuple" = some .tup := by decide
@[simp] theorem cls_list : clsN "list" = some .lst := by decide
@[simp] theorem cls_str : clsN "str" = some .str := by decide
@[simp] theorem tn_non : tnOf .non S = some .non := id rfl
@[simp] theorem tn_bl (k : Bool) : tnOf (.bl k) S = some .bl := id rfl
@[simp] theorem tn_i (i : Int) : tnOf (.int i) S = some .int := id rfl
@[simp] theorem tn_str (x : Str) : tnOf (.str x) S = some .str := id rfl
@[simp] theorem tn_tup (ds : List D) : tnOf (.tup ds) S = some .tup := id rfl
@[simp] theorem tn_rol (ds : List D) : tnOf (.rol ds) S = some .lst := id rfl
@[simp] theorem eqB_int (i j : Int) : eqB S (.int i) (.int j) = some (decide (i = j)) := id rfl
@[simp] theorem eqB_bl (i j : Bool) : eqB S (.bl i) (.bl j) = some (decide (i = j)) := id rfl
@[simp] theorem eqB_str (i j : Str) : eqB S (.str i) (.str j) = some (decide (i = j)) := id rfl
@[simp] theorem eqD_ap (x y : D) : eqD x y S = match eqB S x y with
  | some k => .ok (.bl k) S
  | none => .bad := id rfl
@[simp] theorem neD_ap (x y : D) : neD x y S = match eqB S x y with
  | some k => .ok (.bl (!k)) S
  | none => .bad := id rfl
@[simp] theorem isD_ap (x y : D) : isD x y S = match isB x y with
  | some k => .ok (.bl k) S
  | none => .bad := id rfl
@[simp] theorem nisD_ap (x y : D) : nisD x y S = match isB x y with
  | some k => .ok (.bl (!k)) S
  | none => .bad := id rfl
@[simp] theorem len_tup (ds : List D) : lenD [.tup ds] S = .ok (.int ds.length) S := id rfl
@[simp] theorem len_rol (ds : List D) : lenD [.rol ds] S = .ok (.int ds.length) S := id rfl
@[simp] theorem ix_tup_ap (ds : List D) (i : Int) : ixD (.tup ds) (.int i) S = match atI ds i with
  | some d => .ok d S
  | none => .bad := id rfl
@[simp] theorem ix_rol_ap (ds : List D) (i : Int) : ixD (.rol ds) (.int i) S = match atI ds i with
  | some d => .ok d S
  | none => .bad := id rfl
@[simp] theorem ix_ref_ap (n : Nat) (i : Int) : ixD (.ref n) (.int i) S = match S[n]? with
  | some (.lst ds) => match atI ds i with
    | some d => .ok d S
    | none => .bad
  | _ => .bad := id rfl
theorem atI_nat' {ds : List D} {i : Nat} (h : i < ds.length) : atI ds (i : Int) = ds[i]? := by
  unfold atI ixN
  rw [if_pos (by omega), if_pos (by omega)]
  rfl
theorem chk_nil : chk [] S = true := id rfl
theorem tn_ref {n : Nat} {S : Store} {t : Tn} (h : tnOf (.ref n) S = some t) : t = .lst ∨ t = .dct := by
  have h : (match (S[n]? : Option Cell) with
    | some (.lst _) => some Tn.lst
    | some (.dK _) => some .dct
    | some (.dT _) => some .dct
    | _ => none) = some t := h
  split at h <;> cases h <;> simp
end Mi

namespace Mi
open PySem PySem.Spec L2

/-! ### what an answer satisfies -/
inductive wpR {α : Type} : R α → (α → Store → Prop) → Prop where
  | ok {a : α} {S : Store} {Q : α → Store → Prop} (h : Q a S) : wpR (.ok a S) Q
inductive wpS : RS → (Vs → Store → Prop) → (D → Store → Prop) → Prop where
  | nx {e : Vs} {S : Store} {Qn : Vs → Store → Prop} {Qr : D → Store → Prop} (h : Qn e S) : wpS (.nx e S) Qn Qr
  | rt {d : D} {S : Store} {Qn : Vs → Store → Prop} {Qr : D → Store → Prop} (h : Qr d S) : wpS (.rt d S) Qn Qr
section
variable {α β : Type}
@[simp] theorem wp_ok (a : α) (S : Store) (Q : α → Store → Prop) : wpR (.ok a S) Q = Q a S := propext ⟨fun h => by cases h; assumption, .ok⟩
@[simp] theorem wp_bad (Q : α → Store → Prop) : wpR .bad Q = False := propext ⟨fun h => (by cases h), False.elim⟩
@[simp] theorem wp_exc (x : Exn) (S : Store) (Q : α → Store → Prop) : wpR (.exc x S) Q = False := propext ⟨fun h => (by cases h), False.elim⟩
@[simp] theorem wp_nx (e : Vs) (S : Store) (Qn : Vs → Store → Prop) (Qr : D → Store → Prop) : wpS (.nx e S) Qn Qr = Qn e S := propext ⟨fun h => by cases h; assumption, .nx⟩
@[simp] theorem wp_rt (d : D) (S : Store) (Qn : Vs → Store → Prop) (Qr : D → Store → Prop) : wpS (.rt d S) Qn Qr = Qr d S := propext ⟨fun h => by cases h; assumption, .rt⟩
@[simp] theorem wp_badS (Qn : Vs → Store → Prop) (Qr : D → Store → Prop) : wpS .bad Qn Qr = False := propext ⟨fun h => (by cases h), False.elim⟩
theorem wp_badX (x : Exn) (e : Vs) (S : Store) (Qn : Vs → Store → Prop) (Qr : D → Store → Prop) : wpS (.exc x e S) Qn Qr = False := propext ⟨fun h => (by cases h), False.elim⟩
theorem wp_badB (e : Vs) (S : Store) (Qn : Vs → Store → Prop) (Qr : D → Store → Prop) : wpS (.bk e S) Qn Qr = False := propext ⟨fun h => (by cases h), False.elim⟩
theorem wp_badC (e : Vs) (S : Store) (Qn : Vs → Store → Prop) (Qr : D → Store → Prop) : wpS (.ct e S) Qn Qr = False := propext ⟨fun h => (by cases h), False.elim⟩
theorem bind_x (x : Exn) (S : Store) (f : α → Store → R β) : (R.exc x S : R α).bind f = .exc x S := rfl
theorem bind_b (f : α → Store → R β) : (R.bad : R α).bind f = .bad := rfl
@[simp] theorem wp_bind (r : R α) (f : α → Store → R β) (Q : β → Store → Prop) : wpR (r.bind f) Q = wpR r fun a S => wpR (f a S) Q := by cases r <;> simp only [bind_ok, bind_x, bind_b, wp_ok, wp_bad, wp_exc]
@[simp] theorem wp_noX (r : R α) (Q : α → Store → Prop) : wpR (noX r) Q = wpR r Q := by cases r <;> simp only [noX_ok, noX_bad, noX_exc, wp_ok, wp_bad, wp_exc]
@[simp] theorem wp_exS (r : R α) (e : Vs) (k : α → Store → RS) (Qn : Vs → Store → Prop) (Qr : D → Store → Prop) : wpS (exS r e k) Qn Qr = wpR r fun a S => wpS (k a S) Qn Qr := by cases r <;> simp only [exS_ok, exS_exc, exS_bad, wp_ok, wp_bad, wp_exc, wp_badX, wp_badS]
theorem wpR_mono {r : R α} {Q Q' : α → Store → Prop} (h : wpR r Q) (i : ∀ a S, Q a S → Q' a S) : wpR r Q' := by cases h with | ok h => exact .ok (i _ _ h)
theorem wpS_mono {r : RS} {Qn Qn' : Vs → Store → Prop} {Qr Qr' : D → Store → Prop} (h : wpS r Qn Qr) (i : ∀ a S, Qn a S → Qn' a S) (j : ∀ a S, Qr a S → Qr' a S) : wpS r Qn' Qr' := by
  cases h with
  | nx h => exact .nx (i _ _ h)
  | rt h => exact .rt (j _ _ h)
theorem wpR_and {r : R α} {Q Q' : α → Store → Prop} (h : wpR r Q) (h' : wpR r Q') : wpR r fun a S => Q a S ∧ Q' a S := by
  cases h with
  | ok h => rw [wp_ok] at h' ⊢; exact ⟨h, h'⟩
theorem wpR_ex {r : R α} {Q : α → Store → Prop} (h : wpR r Q) : ∃ a S, r = .ok a S ∧ Q a S := by cases h with | ok h => exact ⟨_, _, rfl, h⟩
theorem wpR_of {r : R α} {a : α} {S : Store} {Q : α → Store → Prop} (e : r = .ok a S) (h : Q a S) : wpR r Q := by rw [e, wp_ok]; exact h
@[simp] theorem wp_seq (x y : MS) (e : Vs) (S : Store) (Qn : Vs → Store → Prop) (Qr : D → Store → Prop) : wpS (seqS x y e S) Qn Qr = wpS (x e S) (fun e1 S1 => wpS (y e1 S1) Qn Qr) Qr := by
  rw [seqS_ap]; cases x e S <;> simp only [wp_nx, wp_rt, wp_badX, wp_badS, wp_badB, wp_badC]
@[simp] theorem wp_run (n : Nat) (m : MS) (ds : List D) (S : Store) (Q : D → Store → Prop) : wpR (runB n m ds S) Q = wpS (m (ds.map some ++ List.replicate n none) S) (fun _ S => Q .non S) Q := by
  rw [runB_ap]; cases m (ds.map some ++ List.replicate n none) S <;> simp only [wp_nx, wp_rt, wp_badX, wp_badS, wp_badB, wp_badC, wp_ok, wp_bad, wp_exc]
@[simp] theorem wp_ifS (t : MB) (x y : MS) (e : Vs) (S : Store) (Qn : Vs → Store → Prop) (Qr : D → Store → Prop) : wpS (ifS t x y e S) Qn Qr = wpR (t e S) fun k S1 => if k = true then wpS (x e S1) Qn Qr else wpS (y e S1) Qn Qr := by
  rw [ifS_ap, wp_exS]
  congr 1
  funext k S1
  cases k <;> rfl
@[simp] theorem wp_exprS (a : ME) (e : Vs) (S : Store) (Qn : Vs → Store → Prop) (Qr : D → Store → Prop) : wpS (exprS a e S) Qn Qr = wpR (a e S) fun _ S1 => Qn e S1 := by rw [exprS_ap, wp_exS]; simp only [wp_nx]
@[simp] theorem wp_retS (a : ME) (e : Vs) (S : Store) (Qn : Vs → Store → Prop) (Qr : D → Store → Prop) : wpS (retS a e S) Qn Qr = wpR (a e S) Qr := by rw [retS_ap, wp_exS]; simp only [wp_rt]
@[simp] theorem wp_setS (i : Nat) (a : ME) (e : Vs) (S : Store) (Qn : Vs → Store → Prop) (Qr : D → Store → Prop) : wpS (setS i a e S) Qn Qr = wpR (a e S) fun d S1 => Qn (e.set i (some d)) S1 := by rw [setS_ap, wp_exS]; simp only [wp_nx]
@[simp] theorem wp_nxS (e : Vs) (S : Store) (Qn : Vs → Store → Prop) (Qr : D → Store → Prop) : wpS (nxS e S) Qn Qr = Qn e S := by rw [nxS_ap, wp_nx]
@[simp] theorem wp_asgS (a : ME) (t : MT) (e : Vs) (S : Store) (Qn : Vs → Store → Prop) (Qr : D → Store → Prop) : wpS (asgS a t e S) Qn Qr = wpR (a e S) fun d S1 => wpR (t d e S1) Qn := by
  rw [asgS_ap, wp_exS]; congr 1; funext d S1; rw [wp_exS, wp_noX]; simp only [wp_nx]
@[simp] theorem wp_parS (i j : Nat) (ms : ML) (e : Vs) (S : Store) (Qn : Vs → Store → Prop) (Qr : D → Store → Prop) : wpS (parS i j ms e S) Qn Qr = wpR (ms e S) fun ds S1 => wpS (match ds with
  | [d1, d2] => .nx ((e.set i (some d1)).set j (some d2)) S1
  | _ => .bad) Qn Qr := by first | (rw [parS_ap, wp_exS]; done) | (rw [parS_ap, wp_exS]; rfl)
@[simp] theorem wp_augS (i : Nat) (f : F2) (a : ME) (e : Vs) (S : Store) (Qn : Vs → Store → Prop) (Qr : D → Store → Prop) : wpS (augS i f a e S) Qn Qr = wpS (match e[i]? with
  | some (some x) => exS (a e S) e fun y S1 => exS (f x y S1) e fun z S2 => .nx (e.set i (some z)) S2
  | _ => .bad) Qn Qr := by first | (rw [augS_ap]; done) | (rw [augS_ap]; rfl)
@[simp] theorem wp_forV (src : MI) (t : MT) (y : MS) (e : Vs) (S : Store) (Qn : Vs → Store → Prop) (Qr : D → Store → Prop) : wpS (forV src t y e S) Qn Qr = wpR (src e S) fun p S1 => wpS (forS t y p.2 p.1 e S1) Qn Qr := by rw [forV_ap, wp_exS]
@[simp] theorem wp_lcV (src : MI) (t : MT) (tt : MB) (el : ME) (vs : List Nat) (e : Vs) (S : Store) (Q : D → Store → Prop) : wpR (lcV src t tt el vs e S) Q = wpR (src e S) fun p S1 => wpR (lcS t tt el vs p.2 S1.length e p.1 (S1 ++ [.lst []])) Q := by rw [lcV_ap, wp_bind]
theorem rngok {n : Nat} (h : n < 100000) : (n : Int) < 1000000000 ∧ -1000000000 < (n : Int) := ⟨by omega, by omega⟩
theorem src1_nat {ms : ML} {e : Vs} {S S1 : Store} {n : Nat} (h : ms e S = .ok [.int n] S1) (hn : n < 100000) : src1 ms e S = .ok (rangeD 0 n, []) S1 := by
  rw [src1_ap, h, bind_ok]
  split
  · rename_i j hj
    have hj : j = (n : Int) := by
      injection hj with hj _
      injection hj with hj
      exact hj.symm
    rw [if_pos (by rw [hj]; exact rngok hn), hj, Int.toNat_natCast]
  · rename_i hj
    exact absurd rfl (hj n)
theorem wp_rng {ms : ML} {e : Vs} {S S1 : Store} {n : Nat} {Q : List D × Gs → Store → Prop} (h : ms e S = .ok [.int n] S1) (hn : n < 100000) (q : Q (rangeD 0 n, []) S1) : wpR (src1 ms e S) Q := by
  rw [src1_nat h hn]; exact .ok q
theorem wp_for {t : MT} {body : MS} {gs : Gs} {Qn : Vs → Store → Prop} {Qr : D → Store → Prop} (I : List D → Vs → Store → Prop) (hc : ∀ ds e S, I ds e S → chk gs S = true)
    (step : ∀ d ds e S, I (d :: ds) e S → wpR (t d e S) fun e1 S1 => wpS (body e1 S1) (I ds) Qr) (fin : ∀ e S, I [] e S → Qn e S) : ∀ (ds : List D) (e : Vs) (S : Store), I ds e S → wpS (forS t body gs ds e S) Qn Qr
  | [], e, S, h => by unfold forS; rw [if_pos (hc _ _ _ h)]; exact .nx (fin _ _ h)
  | d :: ds, e, S, h => by
    unfold forS
    rw [if_pos (hc _ _ _ h), wp_exS, wp_noX]
    refine wpR_mono (step d ds e S h) fun e1 S1 q => ?_
    cases hb : body e1 S1 with
    | nx e2 S2 => rw [hb, wp_nx] at q; exact wp_for I hc step fin ds e2 S2 q
    | rt d S2 => rw [hb, wp_rt] at q; exact .rt q
    | bk e2 S2 => rw [hb] at q; cases q
    | ct e2 S2 => rw [hb] at q; cases q
    | exc x e2 S2 => rw [hb] at q; cases q
    | bad => rw [hb] at q; cases q
theorem drop_cons_get {ds : List D} {k : Nat} {d : D} (h : ds[k]? = some d) : ds.drop k = d :: ds.drop (k + 1) := by
  rw [List.getElem?_eq_some_iff] at h
  obtain ⟨hk, rfl⟩ := h
  exact List.drop_eq_getElem_cons hk
theorem get_of_drop {ds : List D} {k : Nat} {d : D} {r : List D} (h : d :: r = ds.drop k) : ds[k]? = some d ∧ r = ds.drop (k + 1) := by
  have hk : k < ds.length := by
    rcases Nat.lt_or_ge k ds.length with z | z
    · exact z
    · rw [List.drop_eq_nil_of_le z] at h; cases h
  rw [List.drop_eq_getElem_cons hk] at h
  cases h
  exact ⟨List.getElem?_eq_getElem hk, rfl⟩
theorem wp_forL {t : MT} {body : MS} {gs : Gs} {Qn : Vs → Store → Prop} {Qr : D → Store → Prop} {ds : List D} {e : Vs} {S : Store} (I : Nat → Vs → Store → Prop) (h0 : I 0 e S) (hc : ∀ k e S, I k e S → chk gs S = true)
    (step : ∀ k d e S, ds[k]? = some d → I k e S → wpR (t d e S) fun e1 S1 => wpS (body e1 S1) (I (k + 1)) Qr) (fin : ∀ e S, I ds.length e S → Qn e S) : wpS (forS t body gs ds e S) Qn Qr := by
  refine wp_for (fun r e S => ∃ k, k ≤ ds.length ∧ r = ds.drop k ∧ I k e S) (fun r e S h => hc _ e S h.choose_spec.2.2) ?_ ?_ ds e S ⟨0, Nat.zero_le _, (List.drop_zero ..).symm, h0⟩
  · rintro d r e S ⟨k, _, hr, hi⟩
    obtain ⟨hd, hr'⟩ := get_of_drop hr
    refine wpR_mono (step k d e S hd hi) fun e1 S1 q => wpS_mono q (fun e2 S2 q => ⟨k + 1, ?_, hr', q⟩) fun _ _ q => q
    rw [List.getElem?_eq_some_iff] at hd
    exact hd.choose
  · rintro e S ⟨k, hk, hr, hi⟩
    refine fin e S ?_
    have : ds.length ≤ k := by
      have := congrArg List.length hr
      rw [List.length_drop] at this
      simp at this
      omega
    rw [show ds.length = k by omega]
    exact hi
theorem wp_forR {t : MT} {body : MS} {n : Nat} {Qn : Vs → Store → Prop} {Qr : D → Store → Prop} {e : Vs} {S : Store} (I : Nat → Vs → Store → Prop) (h0 : I 0 e S)
    (step : ∀ k e S, k < n → I k e S → wpR (t (.int k) e S) fun e1 S1 => wpS (body e1 S1) (I (k + 1)) Qr) (fin : ∀ e S, I n e S → Qn e S) : wpS (forS t body [] (rangeD 0 n) e S) Qn Qr := by
  refine wp_forL I h0 (fun _ _ _ _ => rfl) ?_ ?_
  · intro k d e S hd hi
    have hk : k < n := by
      rw [List.getElem?_eq_some_iff] at hd
      rw [← rangeD_len 0 n]; exact hd.choose
    rw [rangeD_get hk] at hd
    simp only [Int.zero_add, Option.some.injEq] at hd
    subst hd
    exact step k e S hk hi
  · rw [rangeD_len]; exact fin
theorem wp_forE {t : MT} {body : MS} {gs : Gs} {Qn : Vs → Store → Prop} {Qr : D → Store → Prop} {xs : List D} {e : Vs} {S : Store} (I : Nat → Vs → Store → Prop) (h0 : I 0 e S) (hc : ∀ k e S, I k e S → chk gs S = true)
    (step : ∀ k x e S, xs[k]? = some x → I k e S → wpR (t (.tup [.int k, x]) e S) fun e1 S1 => wpS (body e1 S1) (I (k + 1)) Qr) (fin : ∀ e S, I xs.length e S → Qn e S) : wpS (forS t body gs (enumD 0 xs) e S) Qn Qr := by
  refine wp_forL I h0 hc ?_ ?_
  · intro k d e S hd hi
    have hk : k < xs.length := by
      rw [List.getElem?_eq_some_iff] at hd
      rw [← enumD_len 0 xs]; exact hd.choose
    have hx := List.getElem?_eq_getElem hk
    have := enumD_get 0 xs k _ hx
    rw [hd] at this
    cases this
    have := step k _ e S hx hi
    simpa [pairD] using this
  · rw [enumD_len]; exact fin
theorem wp_lc {t : MT} {tt : MB} {el : ME} {vs : List Nat} {gs : Gs} {n0 : Nat} {e : Vs} {Q : D → Store → Prop} {ds : List D} {S : Store} (I : Nat → List D → Store → Prop) (h0 : I 0 [] S) (hs : S[n0]? = some (.lst [])) (hz : ds.length ≤ 1000000) (hc : ∀ k acc S, I k acc S → chk gs S = true)
    (step : ∀ k d acc S, ds[k]? = some d → S[n0]? = some (.lst acc) → I k acc S → wpR (t d (wipeE e vs) S) fun e1 S1 => wpR (tt e1 S1) fun b S2 => match b with
      | true => wpR (el e1 S2) fun y S3 => S3[n0]? = some (.lst acc) ∧ I (k + 1) (acc ++ [y]) (S3.set n0 (.lst (acc ++ [y])))
      | false => S2[n0]? = some (.lst acc) ∧ I (k + 1) acc S2)
    (fin : ∀ acc S, S[n0]? = some (.lst acc) → I ds.length acc S → Q (.ref n0) S) : wpR (lcS t tt el vs gs n0 e ds S) Q := by
  suffices h : ∀ (r : List D) (k : Nat) (acc : List D) (S : Store), k ≤ ds.length → r = ds.drop k → S[n0]? = some (.lst acc) → acc.length ≤ k → I k acc S → wpR (lcS t tt el vs gs n0 e r S) Q from h ds 0 [] S (Nat.zero_le _) (List.drop_zero ..).symm hs (Nat.le_refl _) h0
  intro r
  induction r with
  | nil =>
    intro k acc S hk hr hs ha hi
    unfold lcS
    rw [if_pos (hc _ _ _ hi)]
    have : k = ds.length := by
      have := congrArg List.length hr
      rw [List.length_drop] at this
      simp at this
      omega
    subst this
    exact .ok (fin acc S hs hi)
  | cons d r ih =>
    intro k acc S hk hr hs ha hi
    obtain ⟨hd, hr'⟩ := get_of_drop hr
    have hk' : k < ds.length := by
      rw [List.getElem?_eq_some_iff] at hd
      exact hd.choose
    unfold lcS
    rw [if_pos (hc _ _ _ hi), wp_bind, wp_noX]
    refine wpR_mono (step k d acc S hd hs hi) fun e1 S1 q => ?_
    rw [wp_bind, wp_noX]
    refine wpR_mono q fun b S2 q => ?_
    cases b with
    | false => exact ih (k + 1) acc S2 hk' hr' q.1 (by omega) q.2
    | true =>
      show wpR ((noX (el e1 S2)).bind _) Q
      rw [wp_bind, wp_noX]
      refine wpR_mono q fun y S3 q => ?_
      simp only [q.1]
      rw [if_pos (by omega)]
      refine ih (k + 1) _ _ hk' hr' ?_ (by simp; omega) q.2
      have : n0 < S3.length := by
        have := q.1
        rw [List.getElem?_eq_some_iff] at this
        exact this.choose
      simp [this]
end
/-! ### a question that changes nothing -/
def Says (r : R D) (S : Store) (p : Prop) : Prop := (r = .ok (.bl true) S ∧ p) ∨ (r = .ok (.bl false) S ∧ ¬ p)
theorem Says.bool {r : R D} {S : Store} {b : Bool} (h : r = .ok (.bl b) S) : Says r S (b = true) := by
  cases b
  · exact .inr ⟨h, by decide⟩
  · exact .inl ⟨h, rfl⟩
theorem Says.wp {r : R D} {S : Store} {p : Prop} (h : Says r S p) {Q : D → Store → Prop} (ht : p → Q (.bl true) S) (hf : ¬ p → Q (.bl false) S) : wpR r Q := by
  rcases h with ⟨e, h⟩ | ⟨e, h⟩
  · rw [e]; exact .ok (ht h)
  · rw [e]; exact .ok (hf h)
theorem Says.ret {r : R D} {S : Store} {p q : Prop} (h : Says r S p) (i : p ↔ q) : wpR r fun a S' => S' = S ∧ ((a = .bl true ∧ q) ∨ (a = .bl false ∧ ¬ q)) := by
  rcases h with ⟨e, h⟩ | ⟨e, h⟩
  · rw [e]; exact .ok ⟨rfl, .inl ⟨rfl, i.mp h⟩⟩
  · rw [e]; exact .ok ⟨rfl, .inr ⟨rfl, fun z => h (i.mpr z)⟩⟩
theorem Says.of {r : R D} {S : Store} {p : Prop} (h : wpR r fun a S' => S' = S ∧ ((a = .bl true ∧ p) ∨ (a = .bl false ∧ ¬ p))) : Says r S p := by
  obtain ⟨a, S', e, hq⟩ := wpR_ex h
  obtain ⟨h1, h2⟩ : S' = S ∧ ((a = .bl true ∧ p) ∨ (a = .bl false ∧ ¬p)) := hq
  subst h1
  rcases h2 with ⟨rfl, h3⟩ | ⟨rfl, h3⟩
  · exact .inl ⟨e, h3⟩
  · exact .inr ⟨e, h3⟩
theorem Says.iff {r : R D} {S : Store} {p q : Prop} (h : Says r S p) (i : p ↔ q) : Says r S q := by
  rcases h with ⟨e, h⟩ | ⟨e, h⟩
  · exact .inl ⟨e, i.mp h⟩
  · exact .inr ⟨e, fun z => h (i.mpr z)⟩
end Mi

namespace Mi
open PySem PySem.Spec L2

/-! ### what is never reached needs no rule -/
section
variable {X : Cx} {W : Wish}
def badE : ME := fun _ _ => .bad
def badB : MB := fun _ _ => .bad
def badS : MS := fun _ _ => .bad
def badI : MI := fun _ _ => .bad
def badT : MT := fun _ _ _ => .bad
theorem q_bad {e : Expr} : PE X e (rd X.K W badE) := ⟨fun _ _ _ _ _ _ q => by obtain ⟨_, _, _, _, p⟩ := q; exact p.elim⟩
theorem t_bad {e : Expr} : PT X e (rdB X.K W badB) := ⟨fun _ _ _ _ _ _ q => by obtain ⟨_, _, _, _, p⟩ := q; exact p.elim⟩
theorem s_bad {st : Stmt} : PS X st (rdS X.K W badS) := ⟨fun _ _ _ _ _ _ q => by obtain ⟨_, _, _, _, p⟩ := q; exact p.elim⟩
theorem i_bad {tg it : Expr} : PI X tg it (rdI X.K W badI) := ⟨fun _ _ _ _ _ _ q => by obtain ⟨_, _, _, _, p⟩ := q; exact p.elim⟩
end

/-! ### zip of two lists or of two tuples -/
def zipD : List D → List D → List D
  | a :: as, b :: bs => .tup [a, b] :: zipD as bs
  | _, _ => []
theorem zipD_len : ∀ (a b : List D), (zipD a b).length = min a.length b.length
  | [], b => by simp [zipD]
  | a :: as, [] => by simp [zipD]
  | a :: as, b :: bs => by simp only [zipD, List.length_cons, zipD_len as bs]; omega
theorem zipD_get : ∀ (a b : List D) (i : Nat) (x y : D), a[i]? = some x → b[i]? = some y → (zipD a b)[i]? = some (.tup [x, y])
  | [], b, i, x, y, h, _ => by cases h
  | a :: as, [], i, x, y, _, h => by cases h
  | a :: as, b :: bs, 0, x, y, h, g => by cases h; cases g; rfl
  | a :: as, b :: bs, i + 1, x, y, h, g => by
    unfold zipD
    rw [List.getElem?_cons_succ]
    exact zipD_get as bs i x y h g
/-- a list that is walked, and what must still stand in the store then -/
def lstSrc (S : Store) : D → Option (List D × Gs)
  | .rol ds => some (ds, [])
  | .ref n => match S[n]? with
    | some (.lst ds) => some (ds, [(n, ds)])
    | _ => none
  | _ => none
def srcZ (ms : ML) : MI := fun e S => (ms e S).bind fun ds S1 => match ds with
  | [.tup xs, .tup ys] => .ok (zipD xs ys, []) S1
  | [x, y] => match lstSrc S1 x, lstSrc S1 y with
    | some (xs, g), some (ys, g') => .ok (zipD xs ys, g ++ g') S1
    | _, _ => .bad
  | _ => .bad
section
variable {K : PySem.W.Frag} {φ : List Addr} {H : Hp} {ds es : List D} {xs ys : List V} {a b : Addr}
theorem pairZ_rep {φ' : List Addr} {H' : Hp} {T : Addr} {d f : D} {x y : V} (hT : H' T = none) (rx : RepV K φ' H' d x) (ry : RepV K φ' H' f y) : RepV K φ' (upd H' T (.tup [x, y])) (.tup [d, f]) (.ref T) :=
  .mkTup (.inl (.inl upd_same)) (.cons (rx.mono (List.prefix_refl φ') (Keep.new hT)) (.cons (ry.mono (List.prefix_refl φ') (Keep.new hT)) .nil))
theorem src_of_zipT (r : RepL K φ H ds xs) (s : SqT K H a xs) (r2 : RepL K φ H es ys) (s2 : SqT K H b ys) : IsSrc K φ H (zipD ds es, []) (RZ.ItzT K a b) := by
  have hl : (zipD ds es, ([] : Gs)).1.length = min ds.length es.length := zipD_len ds es
  refine ⟨fun _ H' => SqT K H' a xs ∧ SqT K H' b ys, fun i H' v H2 => ∃ T x y, v = .ref T ∧ H' T = none ∧ H2 = upd H' T (.tup [x, y]) ∧ (∀ zs, SqT K H' a zs → zs[i]? = some x) ∧ ∀ zs, SqT K H' b zs → zs[i]? = some y,
    ⟨fun i H' hi ⟨_, h, h2⟩ => ?_, fun H' ⟨_, h, h2⟩ => ⟨xs, ys, h, h2, by rw [hl, r.len, r2.len]; omega⟩, fun i H' x H2 _ _ y => y⟩, fun φ' H' S' q k st c => ⟨k.seqT s, k.seqT s2⟩, fun φ' H' i x H2 q k hi hg y => ?_⟩
  · rw [hl] at hi
    exact ⟨xs, ys, xs[i]'(by rw [r.len]; omega), ys[i]'(by rw [r2.len]; omega), h, h2, List.getElem?_eq_getElem _, List.getElem?_eq_getElem _⟩
  · rw [hl] at hi
    obtain ⟨T, z, w, rfl, hT, rfl, hx, hy⟩ := y
    have e1 := List.getElem?_eq_getElem (l := ds) (i := i) (by omega)
    have e2 := List.getElem?_eq_getElem (l := es) (i := i) (by omega)
    obtain ⟨v, h1, rv⟩ := (r.mono q k).get e1
    obtain ⟨v2, h2, rv2⟩ := (r2.mono q k).get e2
    rw [hx xs hg.1] at h1; cases h1
    rw [hy ys hg.2] at h2; cases h2
    exact ⟨_, zipD_get ds es i _ _ e1 e2, pairZ_rep hT rv rv2, .inr ⟨T, _, hT, rfl⟩⟩
theorem src_of_zipL {gs : Gs} (hG : ∀ φ' H' S', φ <+: φ' → Keep H H' → StOk K φ' H' S' → chk gs S' = true → (∃ xs, SqL K H' a xs ∧ RepL K φ' H' ds xs) ∧ ∃ ys, SqL K H' b ys ∧ RepL K φ' H' es ys) : IsSrc K φ H (zipD ds es, gs) (Itz K a b) := by
  have hl : (zipD ds es, gs).1.length = min ds.length es.length := zipD_len ds es
  refine ⟨fun φ' H' => (∃ xs, SqL K H' a xs ∧ RepL K φ' H' ds xs) ∧ ∃ ys, SqL K H' b ys ∧ RepL K φ' H' es ys, fun i H' v H2 => ∃ T x y, v = .ref T ∧ H' T = none ∧ H2 = upd H' T (.tup [x, y]) ∧ (∀ zs, SqL K H' a zs → zs[i]? = some x) ∧ ∀ zs, SqL K H' b zs → zs[i]? = some y,
    ⟨fun i H' hi ⟨φ', ⟨xs, h, r⟩, ys, h2, r2⟩ => ?_, fun H' ⟨φ', ⟨xs, h, r⟩, ys, h2, r2⟩ => ⟨xs, ys, h, h2, by rw [hl, r.len, r2.len]; omega⟩, fun i H' x H2 _ _ y => y⟩, hG, fun φ' H' i x H2 q k hi hg y => ?_⟩
  · rw [hl] at hi
    exact ⟨xs, ys, xs[i]'(by rw [r.len]; omega), ys[i]'(by rw [r2.len]; omega), h, h2, List.getElem?_eq_getElem _, List.getElem?_eq_getElem _⟩
  · rw [hl] at hi
    obtain ⟨T, z, w, rfl, hT, rfl, hx, hy⟩ := y
    obtain ⟨⟨xs, h, r⟩, ys, h2, r2⟩ := hg
    have e1 := List.getElem?_eq_getElem (l := ds) (i := i) (by omega)
    have e2 := List.getElem?_eq_getElem (l := es) (i := i) (by omega)
    obtain ⟨v, g1, rv⟩ := r.get e1
    obtain ⟨v2, g2, rv2⟩ := r2.get e2
    rw [hx xs h] at g1; cases g1
    rw [hy ys h2] at g2; cases g2
    exact ⟨_, zipD_get ds es i _ _ e1 e2, pairZ_rep hT rv rv2, .inr ⟨T, _, hT, rfl⟩⟩
theorem lstSrc_ok {S : Store} {d : D} {v : V} {gs : Gs} (st : StOk K φ H S) (rv : RepV K φ H d v) (h : lstSrc S d = some (ds, gs)) : ∃ a, v = .ref a ∧ (∃ xs, SqL K H a xs) ∧ ∀ φ' H' S', φ <+: φ' → Keep H H' → StOk K φ' H' S' → chk gs S' = true → ∃ xs, SqL K H' a xs ∧ RepL K φ' H' ds xs := by
  unfold lstSrc at h
  split at h
  · cases h
    obtain ⟨a, xs, rfl, s, r⟩ := rv.rol
    refine ⟨a, rfl, ⟨xs, rolSq s⟩, fun φ' H' S' q k st' c => ⟨xs, ?_, r.mono q k⟩⟩
    rcases s with ⟨o, s⟩ | s
    · exact rolSq (.inl ⟨o, k.2 _ _ _ s⟩)
    · exact rolSq (.inr s)
  · split at h
    · rename_i n es hn
      cases h
      obtain ⟨a, ha, rfl⟩ := rv.ref
      obtain ⟨xs, h0, r⟩ := st.lst ha hn
      refine ⟨a, rfl, ⟨xs, .of h0⟩, fun φ' H' S' q k st' c => ?_⟩
      obtain ⟨ys, h1, r1⟩ := st'.lst (pre_get q ha) (chk_one c)
      exact ⟨ys, .of h1, r1⟩
    · cases h
  · cases h
theorem chk_app {g g' : Gs} {S : Store} (h : chk (g ++ g') S = true) : chk g S = true ∧ chk g' S = true := by
  unfold chk at h ⊢
  rw [List.all_append, Bool.and_eq_true] at h
  exact h
end
section
variable {X : Cx} {W : Wish} {a b : Expr} {ms : ML}
theorem i_zip {elts : List Expr} {kk : Nat} {p pos tpos : Pos} (hg : Gl X "zip") (hm : X.mg "zip" = none) (ha : PA X [a, b] (rdL X.K W ms)) (hs : starEach [a, b] X.env = (false, eval a X.env) :: starEach [b] X.env := by rfl) (hpl : (backTo pos (starEach [b] X.env)).any (·.1) = false := by rfl) :
    PI X (.Tuple elts kk tpos) (.Call (.Name "zip" p) [a, b] [] pos) (rdI X.K W (srcZ ms)) := pi_imp (RZ.pi_zipA hg hm ha hs hpl) fun σ H R' h => by
  obtain ⟨φ, e, S, g, p⟩ := h
  refine bindG g p fun ds S1 φ1 H1 vs e1 k1 g1 rv p1 => ?_
  split at p1
  · rename_i xs ys
    obtain ⟨v, w, rfl, r1, r2⟩ := rv.two
    obtain ⟨a, vs, rfl, s, t⟩ := r1.tup
    obtain ⟨b, ws, rfl, s2, t2⟩ := r2.tup
    exact ⟨a, b, vs, ws, rfl, .inr ⟨s, s2, p1.src g1.st (src_of_zipT t s t2 s2)⟩⟩
  · rename_i dx dy _
    obtain ⟨v, w, rfl, r1, r2⟩ := rv.two
    split at p1
    · rename_i xs gs ys gs' h1 h2
      obtain ⟨a, rfl, ⟨vs, s⟩, f⟩ := lstSrc_ok g1.st r1 h1
      obtain ⟨b, rfl, ⟨ws, s2⟩, f2⟩ := lstSrc_ok g1.st r2 h2
      exact ⟨a, b, vs, ws, rfl, .inl ⟨s, s2, p1.src g1.st (src_of_zipL fun φ' H' S' q k st' c => ⟨f φ' H' S' q k st' (chk_app c).1, f2 φ' H' S' q k st' (chk_app c).2⟩)⟩⟩
    · exact p1.elim
  · exact p1.elim
end
end Mi

namespace Mi
open PySem PySem.Spec L2

/-! ### ints in a row -/
def intO : D → Option Int
  | .int i => some i
  | _ => none
theorem intO_eq {d : D} {i : Int} (h : intO d = some i) : d = .int i := by
  cases d with
  | int j => cases h; rfl
  | _ => cases h
theorem optAll_cons {α : Type} {x : Option α} {r : List (Option α)} {zs : List α} (h : optAll (x :: r) = some zs) : ∃ y ys, x = some y ∧ optAll r = some ys ∧ zs = y :: ys := by
  cases x with
  | none => cases h
  | some a =>
    unfold optAll at h
    cases hr : optAll r with
    | none => rw [hr] at h; cases h
    | some as => rw [hr] at h; cases h; exact ⟨a, as, rfl, rfl, rfl⟩
theorem optAll_ints : ∀ {ds : List D} {is : List Int}, optAll (ds.map intO) = some is → ds = is.map D.int
  | [], is, h => by cases h; rfl
  | d :: ds, is, h => by
    rw [List.map_cons] at h
    obtain ⟨y, ys, e1, e2, rfl⟩ := optAll_cons h
    rw [List.map_cons, intO_eq e1, optAll_ints e2]
theorem intO_all (is : List Int) : optAll ((is.map D.int).map intO) = some is := by
  induction is with
  | nil => rfl
  | cons i is ih => simp only [List.map_cons, optAll, intO, ih]
theorem rep_intsV {K : PySem.W.Frag} {φ : List Addr} {H : Hp} : ∀ {is : List Int} {xs : List V}, RepL K φ H (is.map D.int) xs → xs = is.map V.int
  | [], xs, h => by rw [h.nil_inv]; rfl
  | i :: is, xs, h => by
    obtain ⟨v, vs, rfl, r, t⟩ := h.cons_inv
    rw [r.int, rep_intsV t]; rfl
/-- the items of a list or tuple -/
def seqO (S : Store) : D → Option (Bool × List D)
  | .tup ds => some (true, ds)
  | .rol ds => some (false, ds)
  | .ref n => match S[n]? with
    | some (.lst ds) => some (false, ds)
    | _ => none
  | _ => none
theorem seqO_ok {K : PySem.W.Frag} {φ : List Addr} {H : Hp} {S : Store} {d : D} {v : V} {b : Bool} {ds : List D} (st : StOk K φ H S) (rv : RepV K φ H d v) (h : seqO S d = some (b, ds)) :
    ∃ a xs, v = .ref a ∧ RepL K φ H ds xs ∧ ((b = false ∧ SqL K H a xs) ∨ (b = true ∧ SqT K H a xs)) := by
  unfold seqO at h
  split at h
  · cases h
    obtain ⟨a, xs, rfl, s, r⟩ := rv.tup
    exact ⟨a, xs, rfl, r, .inr ⟨rfl, s⟩⟩
  · cases h
    obtain ⟨a, xs, rfl, s, r⟩ := rv.rol
    exact ⟨a, xs, rfl, r, .inl ⟨rfl, rolSq s⟩⟩
  · split at h
    · rename_i n es hn
      cases h
      obtain ⟨a, ha, rfl⟩ := rv.ref
      obtain ⟨xs, h0, r⟩ := st.lst ha hn
      exact ⟨a, xs, rfl, r, .inl ⟨rfl, .of h0⟩⟩
    · cases h
  · cases h

/-! ### min, max, sum of one list or tuple of ints -/
def minI (i : Int) (is : List Int) : Int := is.foldl (fun a y => if y < a then y else a) i
def maxI (i : Int) (is : List Int) : Int := is.foldl (fun a y => if a < y then y else a) i
theorem minI_le : ∀ (is : List Int) (i : Int), minI i is ≤ i ∧ (∀ y ∈ is, minI i is ≤ y) ∧ (minI i is = i ∨ minI i is ∈ is)
  | [], i => ⟨Int.le_refl _, fun _ h => (by cases h), .inl rfl⟩
  | y :: ys, i => by
    have e : minI i (y :: ys) = minI (if y < i then y else i) ys := rfl
    rw [e]
    by_cases q : y < i
    · rw [if_pos q]
      obtain ⟨h1, h2, h3⟩ := minI_le ys y
      refine ⟨by omega, fun z hz => ?_, .inr ?_⟩
      · rcases List.mem_cons.mp hz with rfl | hz
        · exact h1
        · exact h2 z hz
      · rcases h3 with h3 | h3
        · rw [h3]; exact List.mem_cons_self
        · exact List.mem_cons_of_mem _ h3
    · rw [if_neg q]
      obtain ⟨h1, h2, h3⟩ := minI_le ys i
      refine ⟨h1, fun z hz => ?_, ?_⟩
      · rcases List.mem_cons.mp hz with rfl | hz
        · omega
        · exact h2 z hz
      · rcases h3 with h3 | h3
        · exact .inl h3
        · exact .inr (List.mem_cons_of_mem _ h3)
theorem maxI_ge : ∀ (is : List Int) (i : Int), i ≤ maxI i is ∧ (∀ y ∈ is, y ≤ maxI i is) ∧ (maxI i is = i ∨ maxI i is ∈ is)
  | [], i => ⟨Int.le_refl _, fun _ h => (by cases h), .inl rfl⟩
  | y :: ys, i => by
    have e : maxI i (y :: ys) = maxI (if i < y then y else i) ys := rfl
    rw [e]
    by_cases q : i < y
    · rw [if_pos q]
      obtain ⟨h1, h2, h3⟩ := maxI_ge ys y
      refine ⟨by omega, fun z hz => ?_, .inr ?_⟩
      · rcases List.mem_cons.mp hz with rfl | hz
        · exact h1
        · exact h2 z hz
      · rcases h3 with h3 | h3
        · rw [h3]; exact List.mem_cons_self
        · exact List.mem_cons_of_mem _ h3
    · rw [if_neg q]
      obtain ⟨h1, h2, h3⟩ := maxI_ge ys i
      refine ⟨h1, fun z hz => ?_, ?_⟩
      · rcases List.mem_cons.mp hz with rfl | hz
        · omega
        · exact h2 z hz
      · rcases h3 with h3 | h3
        · exact .inl h3
        · exact .inr (List.mem_cons_of_mem _ h3)
theorem minI_is {i m : Int} {is : List Int} (h : m ∈ i :: is) (g : ∀ y, y ∈ i :: is → m ≤ y) : m = minI i is := by
  obtain ⟨h1, h2, h3⟩ := minI_le is i
  have a : minI i is ≤ m := by
    rcases List.mem_cons.mp h with rfl | h
    · exact h1
    · exact h2 m h
  have b : m ≤ minI i is := by
    rcases h3 with h3 | h3
    · rw [h3]; exact g i List.mem_cons_self
    · exact g _ (List.mem_cons_of_mem _ h3)
  omega
theorem maxI_is {i m : Int} {is : List Int} (h : m ∈ i :: is) (g : ∀ y, y ∈ i :: is → y ≤ m) : m = maxI i is := by
  obtain ⟨h1, h2, h3⟩ := maxI_ge is i
  have a : m ≤ maxI i is := by
    rcases List.mem_cons.mp h with rfl | h
    · exact h1
    · exact h2 m h
  have b : maxI i is ≤ m := by
    rcases h3 with h3 | h3
    · rw [h3]; exact g i List.mem_cons_self
    · exact g _ (List.mem_cons_of_mem _ h3)
  omega
def intsO (S : Store) (d : D) : Option (Bool × List Int) := match seqO S d with
  | some (b, ds) => match optAll (ds.map intO) with
    | some is => some (b, is)
    | none => none
  | none => none
theorem intsO_ok {K : PySem.W.Frag} {φ : List Addr} {H : Hp} {S : Store} {d : D} {v : V} {b : Bool} {is : List Int} (st : StOk K φ H S) (rv : RepV K φ H d v) (h : intsO S d = some (b, is)) :
    ∃ a, v = .ref a ∧ ((b = false ∧ SqL K H a (is.map V.int)) ∨ (b = true ∧ SqT K H a (is.map V.int))) := by
  unfold intsO at h
  split at h
  · rename_i b' ds h1
    split at h
    · rename_i is' h2
      cases h
      obtain ⟨a, xs, rfl, r, s⟩ := seqO_ok st rv h1
      rw [optAll_ints h2] at r
      rw [rep_intsV r] at s
      exact ⟨a, rfl, s⟩
    · cases h
  · cases h
def min1D : F1 := fun ds S => match ds with
  | [d] => match intsO S d with
    | some (_, i :: is) => .ok (.int (minI i is)) S
    | _ => .bad
  | _ => .bad
def max1D : F1 := fun ds S => match ds with
  | [d] => match intsO S d with
    | some (_, i :: is) => .ok (.int (maxI i is)) S
    | _ => .bad
  | _ => .bad
def sum1D : F1 := fun ds S => match ds with
  | [d] => match intsO S d with
    | some (false, is) => .ok (.int is.sum) S
    | _ => .bad
  | _ => .bad
def rMin1 (X : Cx) : List V → Hp → VK → Prop := fun vs H Q => rMin X.K vs H Q ∨ ∃ a i is, vs = [V.ref a] ∧ SqT X.K H a ((i :: is).map V.int) ∧ Q (.int (minI i is)) H
def rMax1 (X : Cx) : List V → Hp → VK → Prop := fun vs H Q => rMax X.K vs H Q ∨ ∃ a i is, vs = [V.ref a] ∧ SqT X.K H a ((i :: is).map V.int) ∧ Q (.int (maxI i is)) H
section
variable {X : Cx}
theorem vals_ints : ∀ {is : List Int} {us : List Value}, Vals (is.map V.int) us → ∀ h : Heap, PySem.W.HoldAll h us is
  | [], us, r, h => by cases r; exact .nil
  | i :: is, us, r, h => by
    cases r with
    | cons a b =>
      obtain ⟨t, rfl⟩ := a
      exact .cons ⟨_, .int _ _⟩ (vals_ints b h)
theorem vals_int_at : ∀ {is : List Int} {us : List Value}, Vals (is.map V.int) us → ∀ {i : Nat} {v : Value}, us[i]? = some v → ∃ (j : Int) (t : Tok), v = .int j t
  | [], us, r, i, v, h => by cases r; cases h
  | i :: is, us, r, k, v, h => by
    cases r with
    | cons a b =>
      obtain ⟨t, rfl⟩ := a
      cases k with
      | zero => cases h; exact ⟨_, _, rfl⟩
      | succ k => exact vals_int_at b h
theorem holds_int_inv {h : Heap} {j i : Int} {t : Tok} (r : PySem.W.Holds h (.int j t) i) : j = i := by
  obtain ⟨as, r⟩ := r
  cases r
  rfl
theorem minOf_eq (i : Int) (is : List Int) : PySem.W.minOf i is = minI i is := by
  show is.foldl (fun a y => if decide (y < a) = true then y else a) i = is.foldl (fun a y => if y < a then y else a) i
  simp only [decide_eq_true_eq]
theorem maxOf_eq (i : Int) (is : List Int) : PySem.W.maxOf i is = maxI i is := by
  show is.foldl (fun a y => if decide (a < y) = true then y else a) i = is.foldl (fun a y => if a < y then y else a) i
  simp only [decide_eq_true_eq]
theorem cr_min1 (hc : X.calm = true) (hu : X.A.units + 64 < cLine) : CallR X (.builtin "min") (rMin1 X) := by
  intro pins s σ H vs us Q I r h
  rcases h with h | ⟨a, i, is, rfl, hs, q⟩
  · exact cr_min hc pins s σ H vs us Q I r h
  obtain ⟨its, rv, hl, _⟩ := I.tuple hs
  rw [Vals.ref1 r]
  refine PySem.W.min_tuple_datum (α := Int) (x := i) (xs := is) (I.ok.hd hc) hl (by simpa using vals_ints rv s.heap) ?_ fun k v h' tk hk hh hkeep => ?_
  · exact Nat.lt_of_le_of_lt (show X.A.units + 1 + 0 ≤ X.A.units + 64 by omega) hu
  · obtain ⟨j, t, rfl⟩ := vals_int_at rv (by simpa using hk)
    have e := holds_int_inv hh
    rw [minOf_eq] at e
    exact ⟨.int (minI i is), H, I.kept hkeep, ⟨t, by rw [e]⟩, q⟩
theorem cr_max1 (hc : X.calm = true) (hu : X.A.units + 64 < cLine) : CallR X (.builtin "max") (rMax1 X) := by
  intro pins s σ H vs us Q I r h
  rcases h with h | ⟨a, i, is, rfl, hs, q⟩
  · exact cr_max hc pins s σ H vs us Q I r h
  obtain ⟨its, rv, hl, _⟩ := I.tuple hs
  rw [Vals.ref1 r]
  refine PySem.W.max_tuple_datum (α := Int) (x := i) (xs := is) (I.ok.hd hc) hl (by simpa using vals_ints rv s.heap) ?_ fun k v h' tk hk hh hkeep => ?_
  · exact Nat.lt_of_le_of_lt (show X.A.units + 1 + 0 ≤ X.A.units + 64 by omega) hu
  · obtain ⟨j, t, rfl⟩ := vals_int_at rv (by simpa using hk)
    have e := holds_int_inv hh
    rw [maxOf_eq] at e
    exact ⟨.int (maxI i is), H, I.kept hkeep, ⟨t, by rw [e]⟩, q⟩
theorem cr_sum1 (hc : X.calm = true) (hu : X.A.units + 64 < cLine) : CallR X (.builtin "sum") (rSum X.K) := cr_sum hc
theorem min1_rule : RuleC X.K min1D (rMin1 X) := by
  intro W φ σ H e S Q xs ds st r p
  unfold min1D at p
  split at p
  · rename_i d
    obtain ⟨v, rfl, rv⟩ := r.one
    split at p
    · rename_i b i is h
      obtain ⟨a, rfl, ⟨_, s⟩ | ⟨_, s⟩⟩ := intsO_ok st rv h
      · exact .inl ⟨a, i :: is, rfl, s, by simp, fun m hm hg => by rw [minI_is hm hg]; exact p.give st .mkInt⟩
      · exact .inr ⟨a, i, is, rfl, s, p.give st .mkInt⟩
    · exact p.elim
  · exact p.elim
theorem max1_rule : RuleC X.K max1D (rMax1 X) := by
  intro W φ σ H e S Q xs ds st r p
  unfold max1D at p
  split at p
  · rename_i d
    obtain ⟨v, rfl, rv⟩ := r.one
    split at p
    · rename_i b i is h
      obtain ⟨a, rfl, ⟨_, s⟩ | ⟨_, s⟩⟩ := intsO_ok st rv h
      · exact .inl ⟨a, i :: is, rfl, s, by simp, fun m hm hg => by rw [maxI_is hm hg]; exact p.give st .mkInt⟩
      · exact .inr ⟨a, i, is, rfl, s, p.give st .mkInt⟩
    · exact p.elim
  · exact p.elim
theorem sum1_rule : RuleC X.K sum1D (rSum X.K) := by
  intro W φ σ H e S Q xs ds st r p
  unfold sum1D at p
  split at p
  · rename_i d
    obtain ⟨v, rfl, rv⟩ := r.one
    split at p
    · rename_i is h
      obtain ⟨a, rfl, ⟨_, s⟩ | ⟨z, s⟩⟩ := intsO_ok st rv h
      · exact ⟨a, is, rfl, s, p.give st .mkInt⟩
      · cases z
    · exact p.elim
  · exact p.elim
end

/-! ### x in a list or tuple of plain items -/
def flatO : D → Option V
  | .non => some .non
  | .bl b => some (.bl b)
  | .int i => some (.int i)
  | .str x => some (.str x)
  | _ => none
theorem flatO_ok {K : PySem.W.Frag} {φ : List Addr} {H : Hp} {d : D} {v w : V} (rv : RepV K φ H d v) (h : flatO d = some w) : v = w ∧ flatV w = true := by
  cases d with
  | non => cases h; exact ⟨rv.non, rfl⟩
  | bl b => cases h; exact ⟨rv.bl, rfl⟩
  | int b => cases h; exact ⟨rv.int, rfl⟩
  | str b => cases h; exact ⟨rv.str, rfl⟩
  | _ => cases h
theorem flatO_all {K : PySem.W.Frag} {φ : List Addr} {H : Hp} : ∀ {ds : List D} {xs ws : List V}, RepL K φ H ds xs → optAll (ds.map flatO) = some ws → xs = ws ∧ ws.all flatV = true
  | [], xs, ws, r, h => by cases h; exact ⟨r.nil_inv, rfl⟩
  | d :: ds, xs, ws, r, h => by
    obtain ⟨v, vs, rfl, rv, rs⟩ := r.cons_inv
    rw [List.map_cons] at h
    obtain ⟨y, ys, e1, e2, rfl⟩ := optAll_cons h
    obtain ⟨rfl, f1⟩ := flatO_ok rv e1
    obtain ⟨rfl, f2⟩ := flatO_all rs e2
    exact ⟨rfl, by rw [List.all_cons, f1, f2]; rfl⟩
def inB (S : Store) (x y : D) : Option Bool := match flatO x, seqO S y with
  | some v, some (_, ds) => match optAll (ds.map flatO) with
    | some vs => some (inV v vs)
    | none => none
  | _, _ => none
def inD : F2 := fun x y S => match inB S x y with
  | some b => .ok (.bl b) S
  | none => .bad
def ninD : F2 := fun x y S => match inB S x y with
  | some b => .ok (.bl (!b)) S
  | none => .bad
theorem inB_ok {K : PySem.W.Frag} {φ : List Addr} {H : Hp} {S : Store} {x y : V} {dx dy : D} {b : Bool} (st : StOk K φ H S) (rx : RepV K φ H dx x) (ry : RepV K φ H dy y) (h : inB S dx dy = some b) :
    ∃ p xs, y = .ref p ∧ (SqL K H p xs ∨ SqT K H p xs) ∧ flatV x = true ∧ xs.all flatV = true ∧ b = inV x xs := by
  unfold inB at h
  split at h
  · rename_i v k ds h1 h2
    split at h
    · rename_i vs h3
      cases h
      obtain ⟨rfl, f⟩ := flatO_ok rx h1
      obtain ⟨a, xs, rfl, r, s⟩ := seqO_ok st ry h2
      obtain ⟨rfl, g⟩ := flatO_all r h3
      refine ⟨a, _, rfl, ?_, f, g, rfl⟩
      rcases s with ⟨_, s⟩ | ⟨_, s⟩
      · exact .inl s
      · exact .inr s
    · cases h
  · cases h
theorem in_rule {K : PySem.W.Frag} : Rule2 K inD (rIn K false) := by
  intro W φ σ H e S Q x y dx dy st rx ry p
  unfold inD at p
  split at p
  · rename_i b h
    obtain ⟨a, xs, rfl, s, f, g, rfl⟩ := inB_ok st rx ry h
    exact ⟨a, xs, rfl, s, f, g, by rw [if_neg (by decide)]; exact p.give st .mkBl⟩
  · exact p.elim
theorem nin_rule {K : PySem.W.Frag} : Rule2 K ninD (rIn K true) := by
  intro W φ σ H e S Q x y dx dy st rx ry p
  unfold ninD at p
  split at p
  · rename_i b h
    obtain ⟨a, xs, rfl, s, f, g, rfl⟩ := inB_ok st rx ry h
    exact ⟨a, xs, rfl, s, f, g, by rw [if_pos rfl]; exact p.give st .mkBl⟩
  · exact p.elim
section
variable {X : Cx} {W : Wish} {a b o : Expr} {ma mb mo : ME} {pos apos : Pos}
theorem q_in (ha : PE X a (rd X.K W ma)) (hb : PE X b (rd X.K W mb)) (hm : behindInMarks .In b = false := by with_unfolding_all rfl) : PE X (.Compare a [.In] [b] pos) (rd X.K W (bin inD ma mb)) := q_cmp op_in_seq in_rule ha hb hm
theorem q_nin (ha : PE X a (rd X.K W ma)) (hb : PE X b (rd X.K W mb)) (hm : behindInMarks .NotIn b = false := by with_unfolding_all rfl) : PE X (.Compare a [.NotIn] [b] pos) (rd X.K W (bin ninD ma mb)) := q_cmp op_notIn_seq nin_rule ha hb hm
theorem t_in (ha : PE X a (rd X.K W ma)) (hb : PE X b (rd X.K W mb)) (hm : behindInMarks .In b = false := by with_unfolding_all rfl) : PT X (.Compare a [.In] [b] pos) (rdB X.K W (tst (bin inD ma mb))) :=
  pt_imp (pt_cmpR op_in_seq ha hb hm) fun σ H Q h => by
    obtain ⟨φ, e, S, g, p⟩ := rd_tst h
    exact rd_bin in_rule ⟨φ, e, S, g, p⟩
theorem t_nin (ha : PE X a (rd X.K W ma)) (hb : PE X b (rd X.K W mb)) (hm : behindInMarks .NotIn b = false := by with_unfolding_all rfl) : PT X (.Compare a [.NotIn] [b] pos) (rdB X.K W (tst (bin ninD ma mb))) :=
  pt_imp (pt_cmpR op_notIn_seq ha hb hm) fun σ H Q h => by
    obtain ⟨φ, e, S, g, p⟩ := rd_tst h
    exact rd_bin nin_rule ⟨φ, e, S, g, p⟩
/-! ### xs.extend(ys) -/
def extV (o a : ME) : ME := fun e S => (o e S).bind fun x S1 => match x with
  | .ref n => match S1[n]? with
    | some (.lst _) => (a e S1).bind fun y S2 => match y with
      | .ref m => match S2[n]?, S2[m]? with
        | some (.lst ds), some (.lst es) => if ds.length + es.length ≤ 1000000 then .ok .non (S2.set n (.lst (ds ++ es))) else .bad
        | _, _ => .bad
      | _ => .bad
    | _ => .bad
  | _ => .bad
theorem q_extend {e : Expr} (h : PE X e (tBM X.K "list" rExtend (rd X.K W mo) (tCons (rd X.K W ma) tNil))) : PE X e (rd X.K W (extV mo ma)) :=
  pe_imp h fun σ H Q h => by
    obtain ⟨φ, e, S, g, p⟩ := h
    refine bindG g p fun dx S1 φ1 H1 x e1 k1 g1 rx p1 => ?_
    split at p1
    · rename_i n
      split at p1
      · rename_i ds0 hn
        obtain ⟨l, hl, rfl⟩ := rx.ref
        obtain ⟨xs0, h0, _⟩ := g1.st.lst hl hn
        refine ⟨.inl ⟨rfl, xs0, .of h0⟩, ?_⟩
        refine bindG g1 p1 fun dy S2 φ2 H2 y e2 k2 g2 ry p2 => ?_
        split at p2
        · rename_i m
          split at p2
          · rename_i ds es hn2 hm2
            split at p2
            · rename_i hlt
              have hl2 := pre_get e2 hl
              obtain ⟨b, hb, rfl⟩ := ry.ref
              obtain ⟨xs, h2, r2⟩ := g2.st.lst hl2 hn2
              obtain ⟨zs, h3, r3⟩ := g2.st.lst hb hm2
              refine ⟨l, b, xs, zs, rfl, rfl, h2, h3, lim_ok (by rw [r2.len, r3.len]; omega), ?_⟩
              obtain ⟨u, hu, t1, t2⟩ := g2.st.some_ hl2 hn2 trivial
              have k : Keep H2 (upd H2 l (.lst (xs ++ zs))) := Keep.put hu t1 t2
              exact p2 φ2 _ .non (List.prefix_refl φ2) k (g2.st.put (c := .lst (ds ++ es)) hl2 hn2 trivial (⟨xs ++ zs, upd_same, (r2.append r3).mono (List.prefix_refl φ2) k⟩ : CellOk X.K φ2 (upd H2 l (.lst (xs ++ zs))) l (.lst (ds ++ es)))).1 .mkNon
            · exact p2.elim
          · exact p2.elim
        · exact p2.elim
      · exact p1.elim
    · exact p1.elim
end
/-! ### a comprehension within a comprehension -/
theorem relabel_free {env : Env} : ∀ {names : List (Str × NameKind)} {x : Str}, names.lookup x = some .cell ∨ names.lookup x = some .free →
    (names.map fun (n, k) => if (k == NameKind.free && env.scope.kind == .function && env.kindOf n == some .cell) then (n, NameKind.cell) else (n, k)).lookup x = some .cell ∨
    (names.map fun (n, k) => if (k == NameKind.free && env.scope.kind == .function && env.kindOf n == some .cell) then (n, NameKind.cell) else (n, k)).lookup x = some .free
  | [], _, h => by simp at h
  | (n, k) :: r, x, h => by
    have ih := @relabel_free env r x
    rw [List.map_cons]
    show List.lookup x ((if (k == NameKind.free && env.scope.kind == .function && env.kindOf n == some .cell) = true then (n, NameKind.cell) else (n, k)) :: _) = _ ∨ List.lookup x ((if (k == NameKind.free && env.scope.kind == .function && env.kindOf n == some .cell) = true then (n, NameKind.cell) else (n, k)) :: _) = _
    cases hx : x == n with
    | true =>
      simp only [List.lookup_cons, hx] at h
      by_cases hc : (k == NameKind.free && env.scope.kind == .function && env.kindOf n == some .cell) = true
      · rw [if_pos hc]; simp [List.lookup_cons, hx]
      · rw [if_neg hc]; simp only [List.lookup_cons, hx]; exact h
    | false =>
      simp only [List.lookup_cons, hx] at h
      by_cases hc : (k == NameKind.free && env.scope.kind == .function && env.kindOf n == some .cell) = true
      · rw [if_pos hc]; simp only [List.lookup_cons, hx]; exact ih h
      · rw [if_neg hc]; simp only [List.lookup_cons, hx]; exact ih h
theorem blkOk_in {X : Cx} {sh : Shared} {H : Hp} {sc scope : Scope} {C : Addr} {cl : List (Str × Addr)} {env : Env} {fp : List Addr} {N : List Str} {own : List (Str × Nat)} (hN : X.N = N) (h : blkC N sc scope own = true) :
    BlkOk (X.blk sh H sc (compEnvC sc cl C env) fp).N (X.blk sh H sc (compEnvC sc cl C env) fp).env.scope scope own := by
  subst hN
  have b := blkOk_by h
  exact ⟨b.kind, b.uniq, b.ix, fun y hy e => relabel_free (b.free y hy e), b.own⟩
end Mi

namespace Mi.B
open PySem PySem.Spec L2
def b_is_integer : MS := retS (andV (app isiD (argC (vr 0) (argC (cst (.ty "int")) (argN)))) (notV (app isiD (argC (vr 0) (argC (cst (.ty "bool")) (argN))))))
def f_is_integer : MF := runB 0 b_is_integer
def b_is_integer_from : MS := retS (andV (callV f_is_integer (argC (vr 0) (argN))) (chn leD leD (vr 1) (vr 0) (vr 2)))
def f_is_integer_from : MF := runB 0 b_is_integer_from
def b_is_tuple_of : MS := retS (andV (app isiD (argC (vr 0) (argC (cst (.ty "tuple")) (argN)))) (bin eqD (app lenD (argC (vr 0) (argN))) (vr 1)))
def f_is_tuple_of : MF := runB 0 b_is_tuple_of
def b_fits_switching_row : MS := seqS (ifS (notB (tru (callV f_is_tuple_of (argC (vr 2) (argC (vr 0) (argN)))))) (retS (cst (.bl false))) (nxS)) (seqS (forV (src1 (argC (vr 0) (argN))) (tgN 3) (seqS (asgS (iteV (tst (bin eqD (vr 3) (vr 1))) (mkT (argC (cst (.int 0)) (argC (cst (.int 0)) (argN)))) (mkT (argC (cst (.int 1)) (argC (cst (.int 1000)) (argN))))) (tgT 2 (tsC (tgN 4) (tsC (tgN 5) (tsN))))) (ifS (notB (tru (callV f_is_integer_from (argC (bin ixD (vr 2) (vr 3)) (argC (vr 4) (argC (vr 5) (argN))))))) (retS (cst (.bl false))) (nxS)))) (retS (cst (.bl true))))
def f_fits_switching_row : MF := runB 3 b_fits_switching_row
def b_holds_triangles : MS := seqS (setS 1 (app lenD (argC (vr 0) (argN)))) (seqS (forV (src1 (argC (vr 1) (argN))) (tgN 2) (forV (src1 (argC (vr 1) (argN))) (tgN 3) (forV (src1 (argC (vr 1) (argN))) (tgN 4) (ifS (tst (bin gtD (bin ixD (bin ixD (vr 0) (vr 2)) (vr 4)) (bin addD (bin ixD (bin ixD (vr 0) (vr 2)) (vr 3)) (bin ixD (bin ixD (vr 0) (vr 3)) (vr 4))))) (retS (cst (.bl false))) (nxS))))) (retS (cst (.bl true))))
def f_holds_triangles : MF := runB 4 b_holds_triangles
def b_fits_switching : MS := seqS (ifS (orB (notB (tru (app isiD (argC (vr 0) (argC (cst (.ty "tuple")) (argN)))))) (notB (tst (chn leD leD (cst (.int 2)) (app lenD (argC (vr 0) (argN))) (cst (.int 10)))))) (retS (cst (.bl false))) (nxS)) (seqS (forV (src1 (argC (app lenD (argC (vr 0) (argN))) (argN))) (tgN 1) (ifS (notB (tru (callV f_fits_switching_row (argC (app lenD (argC (vr 0) (argN))) (argC (vr 1) (argC (bin ixD (vr 0) (vr 1)) (argN))))))) (retS (cst (.bl false))) (nxS))) (retS (callV f_holds_triangles (argC (vr 0) (argN)))))
def f_fits_switching : MF := runB 1 b_fits_switching
def b_fits_costs : MS := seqS (ifS (notB (tru (callV f_is_tuple_of (argC (vr 1) (argC (vr 0) (argN)))))) (retS (cst (.bl false))) (nxS)) (seqS (setS 2 (cst (.int 0))) (seqS (forV (srcV (vr 1)) (tgN 3) (ifS (tst (bin nisD (vr 3) (cst .non))) (seqS (ifS (notB (tru (callV f_is_integer_from (argC (vr 3) (argC (cst (.int 0)) (argC (cst (.int 1000)) (argN))))))) (retS (cst (.bl false))) (nxS)) (augS 2 addI (cst (.int 1)))) (nxS))) (retS (bin gtD (vr 2) (cst (.int 0))))))
def f_fits_costs : MF := runB 2 b_fits_costs
def b_fits_requests : MS := seqS (ifS (orB (notB (tru (app isiD (argC (vr 1) (argC (cst (.ty "tuple")) (argN)))))) (notB (tst (chn leD leD (cst (.int 1)) (app lenD (argC (vr 1) (argN))) (cst (.int 8)))))) (retS (cst (.bl false))) (nxS)) (seqS (forV (srcV (vr 1)) (tgN 2) (ifS (notB (tru (callV f_fits_costs (argC (vr 0) (argC (vr 2) (argN)))))) (retS (cst (.bl false))) (nxS))) (retS (cst (.bl true))))
def f_fits_requests : MF := runB 1 b_fits_requests
def b_is_system : MS := seqS (ifS (notB (tru (callV f_is_tuple_of (argC (vr 0) (argC (cst (.int 3)) (argN)))))) (retS (cst (.bl false))) (nxS)) (seqS (asgS (vr 0) (tgT 3 (tsC (tgN 1) (tsC (tgN 2) (tsC (tgN 3) (tsN)))))) (seqS (ifS (notB (tru (callV f_fits_switching (argC (vr 1) (argN))))) (retS (cst (.bl false))) (nxS)) (seqS (setS 4 (app lenD (argC (vr 1) (argN)))) (retS (andV (callV f_fits_requests (argC (vr 4) (argC (vr 2) (argN)))) (callV f_is_integer_from (argC (vr 3) (argC (cst (.int 0)) (argC (bin subD (vr 4) (cst (.int 1))) (argN))))))))))
def f_is_system : MF := runB 4 b_is_system
def b_law_stream : MS := seqS (setS 2 (bin addD (bin mulD (cst (.int 5)) (vr 1)) (cst (.int 3)))) (seqS (ifS (tst (bin ltD (vr 1) (app lenD (argC (vr 0) (argN))))) (setS 2 (bin ixD (vr 0) (vr 1))) (nxS)) (seqS (setS 3 (bin modD (app absD (argC (vr 2) (argN))) (bin powD (bin powD (cst (.int 10)) (cst (.int 60))) (cst (.int 12))))) (retS (mkL (argC (app max2D (argC (cst (.int 0)) (argC (bin subD (vr 3) (bin powD (cst (.int 10)) (cst (.int 17)))) (argN)))) (argC (bin modD (bin addD (bin addD (bin addD (bin mulD (vr 3) (cst (.int 9576890767))) (bin mulD (cst (.int 611953)) (vr 1))) (bin mulD (cst (.int 2)) (app intOfD (argC (bin ltD (vr 2) (cst (.int 0))) (argN))))) (cst (.int 7))) (cst (.int 4294967291))) (argC (cst (.int 0)) (argN))))))))
def f_law_stream : MF := runB 2 b_law_stream
def b_law_draw : MS := seqS (ifS (tst (bin gtD (bin ixD (vr 0) (cst (.int 0))) (cst (.int 0)))) (seqS (setS 2 (bin modD (bin ixD (vr 0) (cst (.int 0))) (vr 1))) (seqS (asgS (bin fdivD (bin ixD (vr 0) (cst (.int 0))) (vr 1)) (tgI (vr 0) (cst (.int 0)))) (retS (vr 2)))) (nxS)) (seqS (asgS (bin addD (bin ixD (vr 0) (cst (.int 2))) (cst (.int 1))) (tgI (vr 0) (cst (.int 2)))) (seqS (setS 3 (bin modD (bin addD (bin ixD (vr 0) (cst (.int 1))) (bin mulD (cst (.int 1500450271)) (bin ixD (vr 0) (cst (.int 2))))) (cst (.int 4294967279)))) (seqS (setS 4 (bin addD (bin mulD (bin modD (bin mulD (vr 3) (vr 3)) (cst (.int 4294967231))) (vr 3)) (bin mulD (cst (.int 10007)) (bin ixD (vr 0) (cst (.int 2)))))) (seqS (setS 5 (bin modD (bin addD (vr 4) (bin modD (bin ixD (vr 0) (cst (.int 1))) (cst (.int 65537)))) (cst (.int 4294967197)))) (retS (bin modD (bin fdivD (bin modD (bin mulD (vr 5) (vr 5)) (cst (.int 4294967189))) (cst (.int 64))) (vr 1)))))))
def f_law_draw : MF := runB 4 b_law_draw
def b_law_switching : MS := seqS (setS 2 (bin ixD (mkL (argC (cst (.int 1)) (argC (cst (.int 2)) (argC (cst (.int 4)) (argC (cst (.int 9)) (argC (cst (.int 1000)) (argN))))))) (callV f_law_draw (argC (vr 0) (argC (cst (.int 5)) (argN)))))) (seqS (setS 3 (mkL (argN))) (seqS (forV (src1 (argC (vr 1) (argN))) (tgN 4) (seqS (exprS (appV (vr 3) (lcV (src1 (argC (vr 1) (argN))) (tgN 5) (yesB) (bin addD (cst (.int 1)) (callV f_law_draw (argC (vr 0) (argC (vr 2) (argN))))) [5]))) (asgS (cst (.int 0)) (tgI (bin ixD (vr 3) (vr 4)) (vr 4))))) (seqS (ifS (tst (bin eqD (callV f_law_draw (argC (vr 0) (argC (cst (.int 3)) (argN)))) (cst (.int 0)))) (forV (src1 (argC (vr 1) (argN))) (tgN 4) (forV (src1 (argC (vr 4) (argN))) (tgN 5) (asgS (bin ixD (bin ixD (vr 3) (vr 5)) (vr 4)) (tgI (bin ixD (vr 3) (vr 4)) (vr 5))))) (nxS)) (seqS (forV (src1 (argC (vr 1) (argN))) (tgN 6) (forV (src1 (argC (vr 1) (argN))) (tgN 4) (forV (src1 (argC (vr 1) (argN))) (tgN 5) (asgS (app min2D (argC (bin ixD (bin ixD (vr 3) (vr 4)) (vr 5)) (argC (bin addD (bin ixD (bin ixD (vr 3) (vr 4)) (vr 6)) (bin ixD (bin ixD (vr 3) (vr 6)) (vr 5))) (argN)))) (tgI (bin ixD (vr 3) (vr 4)) (vr 5)))))) (retS (app tupOfD (argC (lcV (srcV (vr 3)) (tgN 7) (yesB) (app tupOfD (argC (vr 7) (argN))) [7]) (argN))))))))
def f_law_switching : MF := runB 6 b_law_switching
def b_law_request : MS := seqS (setS 2 (bin ixD (mkL (argC (cst (.int 2)) (argC (cst (.int 3)) (argC (cst (.int 5)) (argC (cst (.int 1001)) (argN)))))) (callV f_law_draw (argC (vr 0) (argC (cst (.int 4)) (argN)))))) (seqS (setS 3 (bin ixD (mkL (argC (cst (.int 0)) (argC (cst (.int 0)) (argC (cst (.int 2)) (argC (cst (.int 3)) (argN)))))) (callV f_law_draw (argC (vr 0) (argC (cst (.int 4)) (argN)))))) (seqS (setS 4 (callV f_law_draw (argC (vr 0) (argC (vr 1) (argN))))) (seqS (setS 5 (mkL (argN))) (seqS (forV (src1 (argC (vr 1) (argN))) (tgN 6) (seqS (setS 7 (callV f_law_draw (argC (vr 0) (argC (vr 2) (argN))))) (seqS (setS 8 (andV (bin gtD (vr 3) (cst (.int 0))) (bin eqD (callV f_law_draw (argC (vr 0) (argC (vr 3) (argN)))) (cst (.int 0))))) (exprS (appV (vr 5) (iteV (andB (tru (vr 8)) (tst (bin neD (vr 6) (vr 4)))) (cst .non) (vr 7))))))) (retS (app tupOfD (argC (vr 5) (argN))))))))
def f_law_request : MF := runB 7 b_law_request
def b_law_system : MS := seqS (setS 3 (lcV (src1 (argC (vr 2) (argN))) (tgN 4) (yesB) (callV f_law_request (argC (vr 0) (argC (vr 1) (argN)))) [4])) (retS (mkT (argC (callV f_law_switching (argC (vr 0) (argC (vr 1) (argN)))) (argC (app tupOfD (argC (vr 3) (argN))) (argC (callV f_law_draw (argC (vr 0) (argC (vr 1) (argN)))) (argN))))))
def f_law_system : MF := runB 2 b_law_system
def b_law_unrelated : MS := seqS (setS 1 (mkL (argC (cst .non) (argC (cst (.bl true)) (argC (cst (.bl false)) (argC (cst (.int 0)) (argC (cst (.int 1)) (argC (negV (cst (.int 1))) (argC (cst (.int 1001)) (argC (cst (.str "")) (argC (cst (.str "0")) (argC (cst (.str "a")) (argC (mkT (argN)) (argC (mkL (argN)) (argC (mkD) (argC (mkT (argC (cst (.int 0)) (argN))) (argC (mkT (argC (cst .non) (argN))) (argC (mkT (argC (mkT (argC (cst (.int 0)) (argC (cst (.int 1)) (argN)))) (argC (mkT (argC (cst (.int 1)) (argC (cst (.int 0)) (argN)))) (argN)))) (argC (bin powD (cst (.int 10)) (cst (.int 39))) (argN)))))))))))))))))))) (retS (bin ixD (vr 1) (callV f_law_draw (argC (vr 0) (argC (cst (.int 17)) (argN))))))
def f_law_unrelated : MF := runB 1 b_law_unrelated
def b_law_damaged (me : MF) : MS := seqS (setS 3 (callV f_law_draw (argC (vr 0) (argC (cst (.int 8)) (argN))))) (seqS (ifS (andB (tru (app isiD (argC (vr 1) (argC (cst (.ty "tuple")) (argN))))) (andB (tst (bin neD (vr 1) (mkT (argN)))) (andB (tst (bin gtD (vr 2) (cst (.int 0)))) (tst (bin ltD (vr 3) (cst (.int 5))))))) (seqS (setS 4 (callV f_law_draw (argC (vr 0) (argC (app lenD (argC (vr 1) (argN))) (argN))))) (retS (bin addD (bin addD (slV (vr 1) (oN) (oS (vr 4))) (mkT (argC (callV me (argC (vr 0) (argC (bin ixD (vr 1) (vr 4)) (argC (bin subD (vr 2) (cst (.int 1))) (argN))))) (argN)))) (slV (vr 1) (oS (bin addD (vr 4) (cst (.int 1)))) (oN))))) (nxS)) (seqS (ifS (tru (app isiD (argC (vr 1) (argC (cst (.ty "tuple")) (argN))))) (seqS (setS 4 (callV f_law_draw (argC (vr 0) (argC (bin addD (app lenD (argC (vr 1) (argN))) (cst (.int 1))) (argN))))) (seqS (setS 5 (mkL (argC (app lstOfD (argC (vr 1) (argN))) (argC (bin addD (slV (vr 1) (oN) (oS (vr 4))) (slV (vr 1) (oS (bin addD (vr 4) (cst (.int 1)))) (oN))) (argC (bin addD (bin addD (slV (vr 1) (oN) (oS (vr 4))) (slV (vr 1) (oS (vr 4)) (oS (bin addD (vr 4) (cst (.int 1)))))) (slV (vr 1) (oS (vr 4)) (oN))) (argC (revV (vr 1)) (argN))))))) (seqS (setS 6 (callV f_law_unrelated (argC (vr 0) (argN)))) (retS (bin ixD (bin addD (vr 5) (mkL (argC (bin addD (vr 1) (mkT (argC (vr 6) (argN)))) (argC (bin addD (bin addD (slV (vr 1) (oN) (oS (vr 4))) (mkT (argC (vr 6) (argN)))) (slV (vr 1) (oS (bin addD (vr 4) (cst (.int 1)))) (oN))) (argN))))) (callV f_law_draw (argC (vr 0) (argC (cst (.int 6)) (argN))))))))) (nxS)) (seqS (ifS (andB (tru (app isiD (argC (vr 1) (argC (cst (.ty "int")) (argN))))) (andB (notB (tru (app isiD (argC (vr 1) (argC (cst (.ty "bool")) (argN)))))) (tst (bin ltD (vr 3) (cst (.int 6)))))) (retS (bin ixD (mkL (argC (bin addD (vr 1) (cst (.int 1))) (argC (bin subD (vr 1) (cst (.int 1))) (argC (cst .non) (argC (cst (.int 1000)) (argC (cst (.int 1001)) (argC (cst (.int 0)) (argN)))))))) (vr 3))) (nxS)) (retS (callV f_law_unrelated (argC (vr 0) (argN)))))))
def f_law_damaged : Nat → MF
  | 0 => fun _ _ => .bad
  | n + 1 => runB 4 (b_law_damaged (f_law_damaged n))
def b_check_system : MS := ifS (notB (tru (callV f_is_system (argC (vr 0) (argN))))) (badS) (nxS)
def f_check_system : MF := runB 0 b_check_system
def b_fits_state : MS := retS (callV f_is_integer_from (argC (vr 1) (argC (cst (.int 0)) (argC (bin subD (app lenD (argC (bin ixD (vr 0) (cst (.int 0))) (argN))) (cst (.int 1))) (argN)))))
def f_fits_state : MF := runB 0 b_fits_state
def b_check_state : MS := ifS (notB (tru (callV f_fits_state (argC (vr 0) (argC (vr 1) (argN)))))) (badS) (nxS)
def f_check_state : MF := runB 0 b_check_state
def b_switching_cost : MS := seqS (exprS (callV f_check_system (argC (vr 0) (argN)))) (seqS (exprS (callV f_check_state (argC (vr 0) (argC (vr 1) (argN))))) (seqS (exprS (callV f_check_state (argC (vr 0) (argC (vr 2) (argN))))) (retS (bin ixD (bin ixD (bin ixD (vr 0) (cst (.int 0))) (vr 1)) (vr 2)))))
def f_switching_cost : MF := runB 0 b_switching_cost
def b_fits_request : MS := retS (callV f_is_integer_from (argC (vr 1) (argC (cst (.int 0)) (argC (bin subD (app lenD (argC (bin ixD (vr 0) (cst (.int 1))) (argN))) (cst (.int 1))) (argN)))))
def f_fits_request : MF := runB 0 b_fits_request
def b_check_request : MS := ifS (notB (tru (callV f_fits_request (argC (vr 0) (argC (vr 1) (argN)))))) (badS) (nxS)
def f_check_request : MF := runB 0 b_check_request
def b_fits_request_tuple : MS := seqS (ifS (notB (tru (app isiD (argC (vr 1) (argC (cst (.ty "tuple")) (argN)))))) (retS (cst (.bl false))) (nxS)) (seqS (forV (srcV (vr 1)) (tgN 2) (ifS (notB (tru (callV f_fits_request (argC (vr 0) (argC (vr 2) (argN)))))) (retS (cst (.bl false))) (nxS))) (retS (cst (.bl true))))
def f_fits_request_tuple : MF := runB 1 b_fits_request_tuple
def b_fits_sequence : MS := retS (andV (callV f_fits_request_tuple (argC (vr 0) (argC (vr 1) (argN)))) (bin leD (app lenD (argC (vr 1) (argN))) (cst (.int 400))))
def f_fits_sequence : MF := runB 0 b_fits_sequence
def b_law_sequence : MS := retS (app tupOfD (argC (lcV (src1 (argC (vr 2) (argN))) (tgN 3) (yesB) (callV f_law_draw (argC (vr 0) (argC (app lenD (argC (bin ixD (vr 1) (cst (.int 1))) (argN))) (argN)))) [3]) (argN)))
def f_law_sequence : MF := runB 1 b_law_sequence
def b_check_sequence : MS := ifS (notB (tru (callV f_fits_sequence (argC (vr 0) (argC (vr 1) (argN)))))) (badS) (nxS)
def f_check_sequence : MF := runB 0 b_check_sequence
def b_fits_schedule : MS := seqS (ifS (notB (tru (callV f_is_tuple_of (argC (vr 2) (argC (app lenD (argC (vr 1) (argN))) (argN)))))) (retS (cst (.bl false))) (nxS)) (seqS (forV (srcZ (argC (vr 1) (argC (vr 2) (argN)))) (tgT 2 (tsC (tgN 3) (tsC (tgN 4) (tsN)))) (ifS (orB (notB (tru (callV f_fits_state (argC (vr 0) (argC (vr 4) (argN)))))) (tst (bin isD (bin ixD (bin ixD (bin ixD (vr 0) (cst (.int 1))) (vr 3)) (vr 4)) (cst .non)))) (retS (cst (.bl false))) (nxS))) (retS (cst (.bl true))))
def f_fits_schedule : MF := runB 2 b_fits_schedule
def b_is_schedule : MS := seqS (exprS (callV f_check_system (argC (vr 0) (argN)))) (seqS (exprS (callV f_check_sequence (argC (vr 0) (argC (vr 1) (argN))))) (retS (callV f_fits_schedule (argC (vr 0) (argC (vr 1) (argC (vr 2) (argN)))))))
def f_is_schedule : MF := runB 0 b_is_schedule
def b_law_allowed : MS := retS (lcV (srcE (argC (bin ixD (bin ixD (vr 0) (cst (.int 1))) (vr 1)) (argN))) (tgT 2 (tsC (tgN 2) (tsC (tgN 3) (tsN)))) (tst (bin nisD (vr 3) (cst .non))) (vr 2) [2, 3])
def f_law_allowed : MF := runB 2 b_law_allowed
def b_cost_of_schedule : MS := seqS (asgS (vr 0) (tgT 3 (tsC (tgN 3) (tsC (tgN 4) (tsC (tgN 5) (tsN)))))) (seqS (setS 6 (cst (.int 0))) (seqS (forV (srcZ (argC (vr 1) (argC (vr 2) (argN)))) (tgT 2 (tsC (tgN 7) (tsC (tgN 8) (tsN)))) (seqS (augS 6 addI (bin addD (bin ixD (bin ixD (vr 3) (vr 5)) (vr 8)) (bin ixD (bin ixD (vr 4) (vr 7)) (vr 8)))) (setS 5 (vr 8)))) (retS (vr 6))))
def f_cost_of_schedule : MF := runB 6 b_cost_of_schedule
def b_schedule_cost : MS := seqS (exprS (callV f_check_system (argC (vr 0) (argN)))) (seqS (exprS (callV f_check_sequence (argC (vr 0) (argC (vr 1) (argN))))) (seqS (ifS (notB (tru (callV f_fits_schedule (argC (vr 0) (argC (vr 1) (argC (vr 2) (argN))))))) (badS) (nxS)) (retS (callV f_cost_of_schedule (argC (vr 0) (argC (vr 1) (argC (vr 2) (argN))))))))
def f_schedule_cost : MF := runB 0 b_schedule_cost
def b_law_step_cost : MS := retS (bin addD (bin ixD (bin ixD (bin ixD (vr 0) (cst (.int 0))) (vr 1)) (vr 2)) (bin ixD (bin ixD (bin ixD (vr 0) (cst (.int 1))) (vr 3)) (vr 2)))
def f_law_step_cost : MF := runB 0 b_law_step_cost
def b_law_schedule_cost : MS := seqS (parS 3 4 (argC (bin ixD (vr 0) (cst (.int 2))) (argC (cst (.int 0)) (argN)))) (seqS (forV (srcZ (argC (vr 1) (argC (vr 2) (argN)))) (tgT 2 (tsC (tgN 5) (tsC (tgN 6) (tsN)))) (seqS (setS 4 (bin addD (vr 4) (callV f_law_step_cost (argC (vr 0) (argC (vr 3) (argC (vr 6) (argC (vr 5) (argN)))))))) (setS 3 (vr 6)))) (retS (vr 4)))
def f_law_schedule_cost : MF := runB 4 b_law_schedule_cost
def b_begin_work : MS := seqS (asgS (vr 0) (tgT 3 (tsC (tgN 1) (tsC (tgN 2) (tsC (tgN 3) (tsN)))))) (retS (bin ixD (vr 1) (vr 3)))
def f_begin_work : MF := runB 3 b_begin_work
def b_advance_work : MS := seqS (asgS (vr 0) (tgT 3 (tsC (tgN 3) (tsC (tgN 4) (tsC (tgN 5) (tsN)))))) (seqS (setS 6 (bin ixD (vr 4) (vr 2))) (seqS (setS 7 (lcV (src1 (argC (app lenD (argC (vr 6) (argN))) (argN))) (tgN 8) (tst (bin nisD (bin ixD (vr 6) (vr 8)) (cst .non))) (vr 8) [8])) (seqS (setS 9 (lcV (srcV (vr 7)) (tgN 8) (yesB) (mkT (argC (bin addD (bin ixD (vr 1) (vr 8)) (bin ixD (vr 6) (vr 8))) (argC (bin ixD (vr 3) (vr 8)) (argN)))) [8])) (retS (app tupOfD (argC (lcV (src1 (argC (app lenD (argC (vr 3) (argN))) (argN))) (tgN 10) (yesB) (app min1D (argC (lcV (srcV (vr 9)) (tgT 2 (tsC (tgN 11) (tsC (tgN 12) (tsN)))) (yesB) (bin addD (vr 11) (bin ixD (vr 12) (vr 10))) [11, 12]) (argN))) [10]) (argN)))))))
def f_advance_work : MF := runB 10 b_advance_work
def b_optima_of_prefixes : MS := seqS (setS 2 (callV f_begin_work (argC (vr 0) (argN)))) (seqS (setS 3 (mkL (argC (app min1D (argC (vr 2) (argN))) (argN)))) (seqS (forV (srcV (vr 1)) (tgN 4) (seqS (setS 2 (callV f_advance_work (argC (vr 0) (argC (vr 2) (argC (vr 4) (argN)))))) (exprS (appV (vr 3) (app min1D (argC (vr 2) (argN))))))) (retS (app tupOfD (argC (vr 3) (argN))))))
def f_optima_of_prefixes : MF := runB 3 b_optima_of_prefixes
def b_optimum : MS := seqS (exprS (callV f_check_system (argC (vr 0) (argN)))) (seqS (exprS (callV f_check_sequence (argC (vr 0) (argC (vr 1) (argN))))) (retS (bin ixD (callV f_optima_of_prefixes (argC (vr 0) (argC (vr 1) (argN)))) (negV (cst (.int 1))))))
def f_optimum : MF := runB 0 b_optimum
def b_costs_to_go : MS := seqS (setS 2 (lcV (srcV (bin ixD (vr 0) (cst (.int 0)))) (tgN 3) (yesB) (cst (.int 0)) [3])) (seqS (setS 4 (mkL (argC (vr 2) (argN)))) (seqS (forV (srcV (revV (vr 1))) (tgN 5) (seqS (setS 2 (lcV (src1 (argC (app lenD (argC (vr 2) (argN))) (argN))) (tgN 6) (yesB) (app min1D (argC (badE) (argN))) [6])) (exprS (appV (vr 4) (vr 2))))) (retS (revV (vr 4)))))
def f_costs_to_go : MF := runB 5 b_costs_to_go
def b_choice_costs : MS := seqS (asgS (vr 0) (tgT 3 (tsC (tgN 4) (tsC (tgN 5) (tsC (tgN 6) (tsN)))))) (seqS (setS 7 (bin ixD (vr 5) (vr 2))) (seqS (setS 8 (lcV (src1 (argC (app lenD (argC (vr 7) (argN))) (argN))) (tgN 9) (tst (bin nisD (bin ixD (vr 7) (vr 9)) (cst .non))) (vr 9) [9])) (retS (badE))))
def f_choice_costs : MF := runB 6 b_choice_costs
def b_best_states : MS := seqS (setS 4 (callV f_choice_costs (argC (vr 0) (argC (vr 1) (argC (vr 2) (argC (vr 3) (argN))))))) (seqS (setS 5 (app min1D (argC (badE) (argN)))) (retS (lcV (srcV (vr 4)) (tgN 6) (tst (bin eqD (bin ixD (vr 4) (vr 6)) (vr 5))) (vr 6) [6])))
def f_best_states : MF := runB 3 b_best_states
def b_best_schedule : MS := seqS (exprS (callV f_check_system (argC (vr 0) (argN)))) (seqS (exprS (callV f_check_sequence (argC (vr 0) (argC (vr 1) (argN))))) (seqS (setS 2 (callV f_costs_to_go (argC (vr 0) (argC (vr 1) (argN))))) (seqS (setS 3 (bin ixD (vr 0) (cst (.int 2)))) (seqS (setS 4 (mkL (argN))) (seqS (forV (src1 (argC (app lenD (argC (vr 1) (argN))) (argN))) (tgN 5) (seqS (setS 3 (bin ixD (callV f_best_states (argC (vr 0) (argC (vr 3) (argC (bin ixD (vr 1) (vr 5)) (argC (bin ixD (vr 2) (bin addD (vr 5) (cst (.int 1)))) (argN)))))) (cst (.int 0)))) (exprS (appV (vr 4) (vr 3))))) (retS (app tupOfD (argC (vr 4) (argN)))))))))
def f_best_schedule : MF := runB 4 b_best_schedule
def b_best_schedule_count : MS := seqS (exprS (callV f_check_system (argC (vr 0) (argN)))) (seqS (exprS (callV f_check_sequence (argC (vr 0) (argC (vr 1) (argN))))) (seqS (setS 2 (callV f_costs_to_go (argC (vr 0) (argC (vr 1) (argN))))) (seqS (setS 3 (lcV (srcV (bin ixD (vr 0) (cst (.int 0)))) (tgN 4) (yesB) (cst (.int 1)) [4])) (seqS (forV (badI) (tgN 5) (seqS (setS 6 (lcV (src1 (argC (app lenD (argC (vr 3) (argN))) (argN))) (tgN 7) (yesB) (callV f_best_states (argC (vr 0) (argC (vr 7) (argC (bin ixD (vr 1) (vr 5)) (argC (bin ixD (vr 2) (bin addD (vr 5) (cst (.int 1)))) (argN)))))) [7])) (setS 3 (lcV (srcV (vr 6)) (tgN 8) (yesB) (app sum1D (argC (lcV (srcV (vr 8)) (tgN 9) (yesB) (bin ixD (vr 3) (vr 9)) [9]) (argN))) [8])))) (retS (bin ixD (vr 3) (bin ixD (vr 0) (cst (.int 2)))))))))
def f_best_schedule_count : MF := runB 8 b_best_schedule_count
def b_law_schedules : MS := seqS (setS 2 (mkL (argC (mkT (argN)) (argN)))) (seqS (forV (srcV (vr 1)) (tgN 3) (seqS (setS 4 (mkL (argN))) (seqS (forV (srcV (vr 2)) (tgN 5) (exprS (extV (vr 4) (lcV (srcV (callV f_law_allowed (argC (vr 0) (argC (vr 3) (argN))))) (tgN 6) (yesB) (bin addD (vr 5) (mkT (argC (vr 6) (argN)))) [6])))) (setS 2 (vr 4))))) (retS (vr 2)))
def f_law_schedules : MF := runB 5 b_law_schedules
def b_prefix_optima : MS := seqS (exprS (callV f_check_system (argC (vr 0) (argN)))) (seqS (exprS (callV f_check_sequence (argC (vr 0) (argC (vr 1) (argN))))) (retS (callV f_optima_of_prefixes (argC (vr 0) (argC (vr 1) (argN))))))
def f_prefix_optima : MF := runB 0 b_prefix_optima
def b_fits_work : MS := seqS (setS 2 (bin ixD (vr 0) (cst (.int 0)))) (seqS (setS 3 (app lenD (argC (vr 2) (argN)))) (seqS (ifS (notB (tru (callV f_is_tuple_of (argC (vr 1) (argC (vr 3) (argN)))))) (retS (cst (.bl false))) (nxS)) (seqS (forV (srcV (vr 1)) (tgN 4) (ifS (orB (notB (tru (callV f_is_integer (argC (vr 4) (argN))))) (tst (bin ltD (vr 4) (cst (.int 0))))) (retS (cst (.bl false))) (nxS))) (seqS (forV (src1 (argC (vr 3) (argN))) (tgN 5) (forV (src1 (argC (vr 3) (argN))) (tgN 6) (ifS (tst (bin gtD (bin ixD (vr 1) (vr 6)) (bin addD (bin ixD (vr 1) (vr 5)) (bin ixD (bin ixD (vr 2) (vr 5)) (vr 6))))) (retS (cst (.bl false))) (nxS)))) (retS (cst (.bl true)))))))
def f_fits_work : MF := runB 5 b_fits_work
def b_is_work : MS := seqS (exprS (callV f_check_system (argC (vr 0) (argN)))) (retS (callV f_fits_work (argC (vr 0) (argC (vr 1) (argN)))))
def f_is_work : MF := runB 0 b_is_work
def b_first_work : MS := seqS (exprS (callV f_check_system (argC (vr 0) (argN)))) (retS (callV f_begin_work (argC (vr 0) (argN))))
def f_first_work : MF := runB 0 b_first_work
def b_check_work : MS := ifS (notB (tru (callV f_fits_work (argC (vr 0) (argC (vr 1) (argN)))))) (badS) (nxS)
def f_check_work : MF := runB 0 b_check_work
def b_next_work : MS := seqS (exprS (callV f_check_system (argC (vr 0) (argN)))) (seqS (exprS (callV f_check_work (argC (vr 0) (argC (vr 1) (argN))))) (seqS (exprS (callV f_check_request (argC (vr 0) (argC (vr 2) (argN))))) (retS (callV f_advance_work (argC (vr 0) (argC (vr 1) (argC (vr 2) (argN))))))))
def f_next_work : MF := runB 0 b_next_work
def b_law_first_work : MS := retS (app tupOfD (argC (bin ixD (bin ixD (vr 0) (cst (.int 0))) (bin ixD (vr 0) (cst (.int 2)))) (argN)))
def f_law_first_work : MF := runB 0 b_law_first_work
def b_law_next_work : MS := seqS (setS 3 (mkL (argN))) (seqS (forV (src1 (argC (app lenD (argC (vr 1) (argN))) (argN))) (tgN 4) (seqS (setS 5 (mkL (argN))) (seqS (forV (srcV (callV f_law_allowed (argC (vr 0) (argC (vr 2) (argN))))) (tgN 6) (seqS (setS 7 (bin addD (bin ixD (vr 1) (vr 6)) (bin ixD (bin ixD (bin ixD (vr 0) (cst (.int 1))) (vr 2)) (vr 6)))) (exprS (appV (vr 5) (bin addD (vr 7) (bin ixD (bin ixD (bin ixD (vr 0) (cst (.int 0))) (vr 6)) (vr 4))))))) (exprS (appV (vr 3) (app min1D (argC (vr 5) (argN)))))))) (retS (app tupOfD (argC (vr 3) (argN)))))
def f_law_next_work : MF := runB 5 b_law_next_work
def b_law_any_work : MS := seqS (asgS (mkT (argC (app lenD (argC (bin ixD (vr 1) (cst (.int 0))) (argN))) (argC (bin ixD (mkL (argC (cst (.int 2)) (argC (cst (.int 4)) (argC (cst (.int 30)) (argC (cst (.int 3000)) (argN)))))) (callV f_law_draw (argC (vr 0) (argC (cst (.int 4)) (argN))))) (argN)))) (tgT 2 (tsC (tgN 2) (tsC (tgN 3) (tsN))))) (seqS (setS 4 (bin ixD (mkL (argC (cst (.int 0)) (argC (cst (.int 0)) (argC (cst (.int 1)) (argC (bin powD (cst (.int 10)) (cst (.int 30))) (argN)))))) (callV f_law_draw (argC (vr 0) (argC (cst (.int 4)) (argN)))))) (seqS (setS 5 (lcV (src1 (argC (vr 2) (argN))) (tgN 6) (yesB) (bin addD (vr 4) (callV f_law_draw (argC (vr 0) (argC (vr 3) (argN))))) [6])) (seqS (setS 7 (mkL (argN))) (seqS (forV (src1 (argC (vr 2) (argN))) (tgN 8) (exprS (appV (vr 7) (app min1D (argC (lcV (src1 (argC (vr 2) (argN))) (tgN 6) (yesB) (bin addD (bin ixD (vr 5) (vr 6)) (bin ixD (bin ixD (bin ixD (vr 1) (cst (.int 0))) (vr 6)) (vr 8))) [6]) (argN)))))) (retS (app tupOfD (argC (vr 7) (argN))))))))
def f_law_any_work : MF := runB 7 b_law_any_work
def b_law_is_work : MS := seqS (ifS (orB (notB (tru (app isiD (argC (vr 1) (argC (cst (.ty "tuple")) (argN)))))) (tst (bin neD (app lenD (argC (vr 1) (argN))) (app lenD (argC (bin ixD (vr 0) (cst (.int 0))) (argN)))))) (retS (cst (.bl false))) (nxS)) (seqS (ifS (tst (bin neD (lcV (srcV (vr 1)) (tgN 2) (orB (notB (tru (app isiD (argC (vr 2) (argC (cst (.ty "int")) (argN)))))) (orB (tru (app isiD (argC (vr 2) (argC (cst (.ty "bool")) (argN))))) (tst (bin ltD (vr 2) (cst (.int 0)))))) (cst (.int 1)) [2]) (mkL (argN)))) (retS (cst (.bl false))) (nxS)) (seqS (forV (srcE (argC (bin ixD (vr 0) (cst (.int 0))) (argN))) (tgT 2 (tsC (tgN 3) (tsC (tgN 4) (tsN)))) (ifS (tst (bin neD (lcV (srcE (argC (vr 4) (argN))) (tgT 2 (tsC (tgN 5) (tsC (tgN 6) (tsN)))) (tst (bin gtD (bin ixD (vr 1) (vr 5)) (bin addD (bin ixD (vr 1) (vr 3)) (vr 6)))) (cst (.int 1)) [5, 6]) (mkL (argN)))) (retS (cst (.bl false))) (nxS))) (retS (cst (.bl true)))))
def f_law_is_work : MF := runB 5 b_law_is_work
def b_law_changed_work : MS := seqS (setS 2 (callV f_law_draw (argC (vr 0) (argC (app lenD (argC (vr 1) (argN))) (argN))))) (seqS (setS 3 (mkL (argC (cst .non) (argC (cst (.bl true)) (argC (negV (cst (.int 1))) (argC (cst (.str "0")) (argC (mkT (argN)) (argC (cst (.int 0)) (argC (bin powD (cst (.int 10)) (cst (.int 40))) (argC (bin addD (bin ixD (vr 1) (vr 2)) (cst (.int 1))) (argC (bin addD (bin ixD (vr 1) (vr 2)) (cst (.int 1000))) (argC (bin subD (bin ixD (vr 1) (vr 2)) (cst (.int 1))) (argN))))))))))))) (seqS (setS 3 (bin ixD (vr 3) (callV f_law_draw (argC (vr 0) (argC (cst (.int 10)) (argN)))))) (seqS (setS 4 (mkL (argC (bin addD (bin addD (slV (vr 1) (oN) (oS (vr 2))) (mkT (argC (vr 3) (argN)))) (slV (vr 1) (oS (bin addD (vr 2) (cst (.int 1)))) (oN))) (argC (bin addD (slV (vr 1) (oN) (oS (vr 2))) (slV (vr 1) (oS (bin addD (vr 2) (cst (.int 1)))) (oN))) (argC (bin addD (vr 1) (slV (vr 1) (oS (vr 2)) (oS (bin addD (vr 2) (cst (.int 1)))))) (argC (app lstOfD (argC (vr 1) (argN))) (argN))))))) (seqS (setS 4 (bin addD (vr 4) (mkL (argC (revV (vr 1)) (argC (mkT (argC (vr 1) (argN))) (argC (cst .non) (argC (bin addD (bin addD (slV (vr 1) (oN) (oS (vr 2))) (mkT (argC (vr 3) (argN)))) (slV (vr 1) (oS (bin addD (vr 2) (cst (.int 1)))) (oN))) (argN)))))))) (retS (bin ixD (vr 4) (callV f_law_draw (argC (vr 0) (argC (cst (.int 8)) (argN))))))))))
def f_law_changed_work : MF := runB 3 b_law_changed_work
def b_work_after : MS := seqS (exprS (callV f_check_system (argC (vr 0) (argN)))) (seqS (exprS (callV f_check_sequence (argC (vr 0) (argC (vr 1) (argN))))) (seqS (setS 2 (callV f_begin_work (argC (vr 0) (argN)))) (seqS (forV (srcV (vr 1)) (tgN 3) (setS 2 (callV f_advance_work (argC (vr 0) (argC (vr 2) (argC (vr 3) (argN))))))) (retS (vr 2)))))
def f_work_after : MF := runB 2 b_work_after
def b_split_work : MS := seqS (setS 1 (app min1D (argC (vr 0) (argN)))) (retS (mkT (argC (app tupOfD (argC (lcV (srcV (vr 0)) (tgN 2) (yesB) (bin subD (vr 2) (vr 1)) [2]) (argN))) (argC (vr 1) (argN)))))
def f_split_work : MF := runB 2 b_split_work
def b_form_of : MS := seqS (exprS (callV f_check_system (argC (vr 0) (argN)))) (seqS (exprS (callV f_check_work (argC (vr 0) (argC (vr 1) (argN))))) (retS (callV f_split_work (argC (vr 1) (argN)))))
def f_form_of : MF := runB 0 b_form_of
def b_fits_form : MS := retS (andV (callV f_fits_work (argC (vr 0) (argC (vr 1) (argN)))) (bin eqD (app min1D (argC (vr 1) (argN))) (cst (.int 0))))
def f_fits_form : MF := runB 0 b_fits_form
def b_is_form : MS := seqS (exprS (callV f_check_system (argC (vr 0) (argN)))) (retS (callV f_fits_form (argC (vr 0) (argC (vr 1) (argN)))))
def f_is_form : MF := runB 0 b_is_form
def b_check_form : MS := ifS (notB (tru (callV f_fits_form (argC (vr 0) (argC (vr 1) (argN)))))) (badS) (nxS)
def f_check_form : MF := runB 0 b_check_form
def b_advance_form : MS := retS (callV f_split_work (argC (callV f_advance_work (argC (vr 0) (argC (vr 1) (argC (vr 2) (argN))))) (argN)))
def f_advance_form : MF := runB 0 b_advance_form
def b_next_form : MS := seqS (exprS (callV f_check_system (argC (vr 0) (argN)))) (seqS (exprS (callV f_check_form (argC (vr 0) (argC (vr 1) (argN))))) (seqS (exprS (callV f_check_request (argC (vr 0) (argC (vr 2) (argN))))) (retS (callV f_advance_form (argC (vr 0) (argC (vr 1) (argC (vr 2) (argN))))))))
def f_next_form : MF := runB 0 b_next_form
def b_law_shape : MS := seqS (setS 1 (app min1D (argC (vr 0) (argN)))) (retS (mkT (argC (app tupOfD (argC (lcV (srcV (vr 0)) (tgN 2) (yesB) (bin subD (vr 2) (vr 1)) [2]) (argN))) (argC (vr 1) (argN)))))
def f_law_shape : MF := runB 2 b_law_shape
def b_search_ways : MS := seqS (setS 4 (app lstOfD (argC (vr 0) (argN)))) (seqS (setS 5 (badE)) (seqS (setS 7 (cst (.int 0))) (seqS (whileS (tst (bin ltD (vr 7) (app lenD (argC (vr 4) (argN))))) (seqS (setS 8 (bin ixD (vr 4) (vr 7))) (seqS (augS 7 addI (cst (.int 1))) (forV (src1 (argC (vr 1) (argN))) (tgN 9) (seqS (setS 10 (badE)) (ifS (tst (bin ninD (vr 10) (vr 5))) (seqS (ifS (tst (bin eqD (app lenD (argC (vr 4) (argN))) (vr 3))) (badS) (nxS)) (seqS (asgS (mkT (argC (vr 8) (argC (vr 9) (argN)))) (tgI (vr 5) (vr 10))) (exprS (appV (vr 4) (vr 10))))) (nxS)))))) 1000000) (retS (vr 5)))))
def f_search_ways : MF := runB 7 b_search_ways
def b_way_to : MS := seqS (setS 2 (mkL (argN))) (seqS (setS 3 (bin ixD (vr 0) (vr 1))) (seqS (whileS (tst (bin nisD (vr 3) (cst .non))) (seqS (asgS (vr 3) (tgT 2 (tsC (tgN 1) (tsC (tgN 4) (tsN))))) (seqS (exprS (appV (vr 2) (vr 4))) (setS 3 (bin ixD (vr 0) (vr 1))))) 1000000) (retS (mkT (argC (vr 1) (argC (app tupOfD (argC (revV (vr 2)) (argN))) (argN)))))))
def f_way_to : MF := runB 3 b_way_to
def b_ways_to_forms : MS := seqS (setS 1 (callV f_begin_work (argC (vr 0) (argN)))) (retS (callV f_search_ways (argC (mkL (argC (vr 1) (argN))) (argC (app lenD (argC (bin ixD (vr 0) (cst (.int 1))) (argN))) (argC (badE) (argC (cst (.int 1000)) (argN)))))))
def f_ways_to_forms : MF := runB 1 b_ways_to_forms
def b_reachable_forms : MS := seqS (exprS (callV f_check_system (argC (vr 0) (argN)))) (retS (app tupOfD (argC (badE) (argN))))
def f_reachable_forms : MF := runB 0 b_reachable_forms
def b_sequence_to_form : MS := seqS (exprS (callV f_check_system (argC (vr 0) (argN)))) (seqS (exprS (callV f_check_form (argC (vr 0) (argC (vr 1) (argN))))) (seqS (setS 2 (callV f_ways_to_forms (argC (vr 0) (argN)))) (seqS (ifS (tst (bin ninD (vr 1) (vr 2))) (retS (cst .non)) (nxS)) (retS (bin ixD (callV f_way_to (argC (vr 2) (argC (vr 1) (argN)))) (cst (.int 1)))))))
def f_sequence_to_form : MF := runB 1 b_sequence_to_form
def b_tuples_of_length : MS := seqS (setS 2 (mkL (argC (mkT (argN)) (argN)))) (seqS (forV (src1 (argC (vr 1) (argN))) (tgN 3) (badS)) (retS (app tupOfD (argC (vr 2) (argN)))))
def f_tuples_of_length : MF := runB 4 b_tuples_of_length
def b_windows_up_to : MS := seqS (setS 2 (mkL (argN))) (seqS (forV (src2 (argC (cst (.int 1)) (argC (bin addD (vr 1) (cst (.int 1))) (argN)))) (tgN 3) (exprS (extV (vr 2) (app lstOfD (argC (callV f_tuples_of_length (argC (vr 0) (argC (vr 3) (argN)))) (argN)))))) (retS (app tupOfD (argC (vr 2) (argN)))))
def f_windows_up_to : MF := runB 2 b_windows_up_to
def b_windows : MS := seqS (exprS (callV f_check_system (argC (vr 0) (argN)))) (seqS (ifS (notB (tru (callV f_is_integer_from (argC (vr 1) (argC (cst (.int 0)) (argC (cst (.int 2)) (argN))))))) (badS) (nxS)) (retS (callV f_windows_up_to (argC (app lenD (argC (bin ixD (vr 0) (cst (.int 1))) (argN))) (argC (bin addD (vr 1) (cst (.int 1))) (argN))))))
def f_windows : MF := runB 0 b_windows
def b_fits_memory_states : MS := seqS (ifS (orB (notB (tru (app isiD (argC (vr 1) (argC (cst (.ty "tuple")) (argN)))))) (notB (tst (chn leD leD (cst (.int 1)) (app lenD (argC (vr 1) (argN))) (cst (.int 1000)))))) (retS (cst (.bl false))) (nxS)) (seqS (forV (srcV (vr 1)) (tgN 2) (ifS (notB (tru (callV f_fits_state (argC (vr 0) (argC (vr 2) (argN)))))) (retS (cst (.bl false))) (nxS))) (retS (cst (.bl true))))
def f_fits_memory_states : MF := runB 1 b_fits_memory_states
def b_fits_move_row : MS := seqS (ifS (notB (tru (callV f_is_tuple_of (argC (vr 3) (argC (app lenD (argC (vr 1) (argN))) (argN)))))) (retS (cst (.bl false))) (nxS)) (seqS (forV (srcZ (argC (vr 1) (argC (vr 3) (argN)))) (tgT 2 (tsC (tgN 4) (tsC (tgN 5) (tsN)))) (ifS (orB (notB (tru (callV f_is_integer_from (argC (vr 5) (argC (cst (.int 0)) (argC (bin subD (app lenD (argC (vr 2) (argN))) (cst (.int 1))) (argN))))))) (tst (bin isD (bin ixD (bin ixD (bin ixD (vr 0) (cst (.int 1))) (vr 4)) (bin ixD (vr 2) (vr 5))) (cst .non)))) (retS (cst (.bl false))) (nxS))) (retS (cst (.bl true))))
def f_fits_move_row : MF := runB 2 b_fits_move_row
def b_fits_moves : MS := seqS (setS 4 (lcV (srcV (callV f_windows_up_to (argC (app lenD (argC (bin ixD (vr 0) (cst (.int 1))) (argN))) (argC (bin addD (vr 1) (cst (.int 1))) (argN))))) (tgN 5) (yesB) (bin ixD (vr 5) (cst (.int 0))) [5])) (seqS (ifS (orB (notB (tru (callV f_is_tuple_of (argC (vr 3) (argC (app lenD (argC (vr 2) (argN))) (argN)))))) (tst (bin gtD (bin mulD (app lenD (argC (vr 2) (argN))) (app lenD (argC (vr 4) (argN)))) (cst (.int 20000))))) (retS (cst (.bl false))) (nxS)) (seqS (forV (srcV (vr 3)) (tgN 6) (ifS (notB (tru (callV f_fits_move_row (argC (vr 0) (argC (vr 4) (argC (vr 2) (argC (vr 6) (argN)))))))) (retS (cst (.bl false))) (nxS))) (retS (cst (.bl true)))))
def f_fits_moves : MF := runB 3 b_fits_moves
def b_fits_policy : MS := seqS (ifS (notB (tru (callV f_is_tuple_of (argC (vr 1) (argC (cst (.int 4)) (argN)))))) (retS (cst (.bl false))) (nxS)) (seqS (asgS (vr 1) (tgT 4 (tsC (tgN 2) (tsC (tgN 3) (tsC (tgN 4) (tsC (tgN 5) (tsN))))))) (seqS (ifS (orB (notB (tru (callV f_is_integer_from (argC (vr 2) (argC (cst (.int 0)) (argC (cst (.int 2)) (argN))))))) (notB (tru (callV f_fits_memory_states (argC (vr 0) (argC (vr 3) (argN))))))) (retS (cst (.bl false))) (nxS)) (seqS (ifS (orB (notB (tru (callV f_is_integer_from (argC (vr 5) (argC (cst (.int 0)) (argC (bin subD (app lenD (argC (vr 3) (argN))) (cst (.int 1))) (argN))))))) (tst (bin neD (bin ixD (vr 3) (vr 5)) (bin ixD (vr 0) (cst (.int 2)))))) (retS (cst (.bl false))) (nxS)) (retS (callV f_fits_moves (argC (vr 0) (argC (vr 2) (argC (vr 3) (argC (vr 4) (argN))))))))))
def f_fits_policy : MF := runB 4 b_fits_policy
def b_check_policy : MS := ifS (notB (tru (callV f_fits_policy (argC (vr 0) (argC (vr 1) (argN)))))) (badS) (nxS)
def f_check_policy : MF := runB 0 b_check_policy
def b_window_number : MS := seqS (setS 2 (negV (cst (.int 1)))) (seqS (forV (srcV (vr 1)) (tgN 3) (setS 2 (bin addD (bin mulD (bin addD (vr 2) (cst (.int 1))) (vr 0)) (vr 3)))) (retS (vr 2)))
def f_window_number : MF := runB 2 b_window_number
def b_next_memory : MS := seqS (exprS (callV f_check_system (argC (vr 0) (argN)))) (seqS (exprS (callV f_check_policy (argC (vr 0) (argC (vr 1) (argN))))) (seqS (asgS (vr 1) (tgT 4 (tsC (tgN 4) (tsC (tgN 5) (tsC (tgN 6) (tsC (tgN 7) (tsN))))))) (seqS (ifS (notB (tru (callV f_is_integer_from (argC (vr 2) (argC (cst (.int 0)) (argC (bin subD (app lenD (argC (vr 5) (argN))) (cst (.int 1))) (argN))))))) (badS) (nxS)) (seqS (ifS (orB (notB (tru (callV f_fits_request_tuple (argC (vr 0) (argC (vr 3) (argN)))))) (notB (tst (chn leD leD (cst (.int 1)) (app lenD (argC (vr 3) (argN))) (bin addD (vr 4) (cst (.int 1))))))) (badS) (nxS)) (retS (bin ixD (bin ixD (vr 6) (vr 2)) (callV f_window_number (argC (app lenD (argC (bin ixD (vr 0) (cst (.int 1))) (argN))) (argC (vr 3) (argN))))))))))
def f_next_memory : MF := runB 4 b_next_memory
def b_law_windows : MS := seqS (parS 2 3 (argC (mkL (argN)) (argC (mkL (argC (mkT (argN)) (argN))) (argN)))) (seqS (forV (src1 (argC (bin addD (vr 1) (cst (.int 1))) (argN))) (tgN 4) (seqS (setS 5 (mkL (argN))) (seqS (forV (srcV (vr 3)) (tgN 6) (exprS (extV (vr 5) (lcV (src1 (argC (vr 0) (argN))) (tgN 7) (yesB) (bin addD (vr 6) (mkT (argC (vr 7) (argN)))) [7])))) (seqS (exprS (extV (vr 2) (vr 5))) (setS 3 (vr 5)))))) (retS (vr 2)))
def f_law_windows : MF := runB 6 b_law_windows
def b_law_policy : MS := seqS (setS 4 (lcV (src1 (argC (vr 3) (argN))) (tgN 5) (yesB) (callV f_law_draw (argC (vr 0) (argC (app lenD (argC (bin ixD (vr 1) (cst (.int 0))) (argN))) (argN)))) [5])) (seqS (setS 6 (callV f_law_draw (argC (vr 0) (argC (vr 3) (argN))))) (seqS (asgS (bin ixD (vr 1) (cst (.int 2))) (tgI (vr 4) (vr 6))) (seqS (forV (src1 (argC (app lenD (argC (bin ixD (vr 1) (cst (.int 1))) (argN))) (argN))) (tgN 7) (ifS (tst (bin eqD (lcV (srcV (vr 4)) (tgN 8) (tst (bin nisD (bin ixD (bin ixD (bin ixD (vr 1) (cst (.int 1))) (vr 7)) (vr 8)) (cst .non))) (vr 8) [8]) (mkL (argN)))) (exprS (appV (vr 4) (bin ixD (callV f_law_allowed (argC (vr 1) (argC (vr 7) (argN)))) (cst (.int 0))))) (nxS))) (seqS (setS 9 (mkL (argN))) (seqS (forV (src1 (argC (app lenD (argC (vr 4) (argN))) (argN))) (tgN 10) (seqS (setS 11 (mkL (argN))) (seqS (forV (srcV (callV f_law_windows (argC (app lenD (argC (bin ixD (vr 1) (cst (.int 1))) (argN))) (argC (vr 2) (argN))))) (tgN 12) (seqS (setS 13 (bin ixD (bin ixD (vr 1) (cst (.int 1))) (bin ixD (vr 12) (cst (.int 0))))) (seqS (setS 14 (lcV (srcE (argC (vr 4) (argN))) (tgT 2 (tsC (tgN 15) (tsC (tgN 8) (tsN)))) (tst (bin nisD (bin ixD (vr 13) (vr 8)) (cst .non))) (vr 15) [15, 8])) (exprS (appV (vr 11) (bin ixD (vr 14) (callV f_law_draw (argC (vr 0) (argC (app lenD (argC (vr 14) (argN))) (argN)))))))))) (exprS (appV (vr 9) (app tupOfD (argC (vr 11) (argN)))))))) (retS (mkT (argC (vr 2) (argC (app tupOfD (argC (vr 4) (argN))) (argC (app tupOfD (argC (vr 9) (argN))) (argC (vr 6) (argN))))))))))))
def f_law_policy : MF := runB 12 b_law_policy
def b_is_policy : MS := seqS (exprS (callV f_check_system (argC (vr 0) (argN)))) (retS (callV f_fits_policy (argC (vr 0) (argC (vr 1) (argN)))))
def f_is_policy : MF := runB 0 b_is_policy
def b_check_two_policies : MS := seqS (exprS (callV f_check_policy (argC (vr 0) (argC (vr 1) (argN))))) (seqS (exprS (callV f_check_policy (argC (vr 0) (argC (vr 2) (argN))))) (ifS (tst (bin neD (bin ixD (vr 1) (cst (.int 0))) (bin ixD (vr 2) (cst (.int 0))))) (badS) (nxS)))
def f_check_two_policies : MF := runB 0 b_check_two_policies
def b_reached_memories : MS := retS (app lstOfD (argC (callV f_search_ways (argC (mkL (argC (vr 1) (argN))) (argC (app lenD (argC (bin ixD (vr 0) (vr 1)) (argN))) (argC (badE) (argC (app lenD (argC (vr 0) (argN))) (argN)))))) (argN)))
def f_reached_memories : MF := runB 0 b_reached_memories
def b_numbers_of_keys : MS := seqS (setS 1 (mkD)) (seqS (forV (srcV (vr 0)) (tgN 2) (ifS (tst (bin ninD (vr 2) (vr 1))) (asgS (app lenD (argC (vr 1) (argN))) (tgI (vr 1) (vr 2))) (nxS))) (retS (lcV (srcV (vr 0)) (tgN 2) (yesB) (bin ixD (vr 1) (vr 2)) [2])))
def f_numbers_of_keys : MF := runB 2 b_numbers_of_keys
def b_equivalence_classes : MS := seqS (setS 2 (callV f_numbers_of_keys (argC (vr 0) (argN)))) (seqS (setS 3 (cst (.int 0))) (seqS (whileS (tst (bin gtD (bin addD (app max1D (argC (vr 2) (argN))) (cst (.int 1))) (vr 3))) (seqS (setS 3 (bin addD (app max1D (argC (vr 2) (argN))) (cst (.int 1)))) (seqS (setS 4 (lcV (srcZ (argC (vr 2) (argC (vr 1) (argN)))) (tgT 2 (tsC (tgN 5) (tsC (tgN 6) (tsN)))) (yesB) (mkT (argC (vr 5) (argC (app tupOfD (argC (lcV (srcV (vr 6)) (tgN 7) (yesB) (bin ixD (vr 2) (vr 7)) [7]) (argN))) (argN)))) [5, 6])) (setS 2 (callV f_numbers_of_keys (argC (vr 4) (argN)))))) 1000000) (retS (vr 2))))
def f_equivalence_classes : MF := runB 6 b_equivalence_classes
def b_first_places : MS := seqS (setS 1 (mkD)) (seqS (forV (srcE (argC (vr 0) (argN))) (tgT 2 (tsC (tgN 2) (tsC (tgN 3) (tsN)))) (ifS (tst (bin ninD (vr 3) (vr 1))) (asgS (vr 2) (tgI (vr 1) (vr 3))) (nxS))) (retS (app lstOfD (argC (badE) (argN)))))
def f_first_places : MF := runB 3 b_first_places
def b_reduced_policy : MS := seqS (exprS (callV f_check_system (argC (vr 0) (argN)))) (seqS (exprS (callV f_check_policy (argC (vr 0) (argC (vr 1) (argN))))) (seqS (asgS (vr 1) (tgT 4 (tsC (tgN 2) (tsC (tgN 3) (tsC (tgN 4) (tsC (tgN 5) (tsN))))))) (seqS (setS 6 (callV f_reached_memories (argC (vr 4) (argC (vr 5) (argN))))) (seqS (setS 7 (badE)) (seqS (setS 10 (lcV (srcV (vr 6)) (tgN 9) (yesB) (bin ixD (vr 3) (vr 9)) [9])) (seqS (setS 11 (lcV (srcV (vr 6)) (tgN 9) (yesB) (lcV (srcV (bin ixD (vr 4) (vr 9))) (tgN 12) (yesB) (bin ixD (vr 7) (vr 12)) [12]) [9])) (seqS (setS 13 (callV f_equivalence_classes (argC (vr 10) (argC (vr 11) (argN))))) (seqS (setS 14 (callV f_first_places (argC (vr 13) (argN)))) (seqS (setS 15 (app tupOfD (argC (lcV (srcV (vr 14)) (tgN 8) (yesB) (bin ixD (vr 10) (vr 8)) [8]) (argN)))) (seqS (setS 16 (app tupOfD (argC (lcV (srcV (vr 14)) (tgN 8) (yesB) (app tupOfD (argC (lcV (srcV (bin ixD (vr 11) (vr 8))) (tgN 12) (yesB) (bin ixD (vr 13) (vr 12)) [12]) (argN))) [8]) (argN)))) (retS (mkT (argC (vr 2) (argC (vr 15) (argC (vr 16) (argC (cst (.int 0)) (argN)))))))))))))))))
def f_reduced_policy : MF := runB 15 b_reduced_policy
def b_ways_to_triples : MS := seqS (setS 3 (lcV (srcV (callV f_tuples_of_length (argC (vr 0) (argC (bin ixD (vr 1) (cst (.int 0))) (argN))))) (tgN 4) (yesB) (mkT (argC (bin ixD (vr 1) (cst (.int 3))) (argC (bin ixD (vr 2) (cst (.int 3))) (argC (vr 4) (argN))))) [4])) (retS (callV f_search_ways (argC (vr 3) (argC (vr 0) (argC (badE) (argC (cst (.int 1000)) (argN)))))))
def f_ways_to_triples : MF := runB 2 b_ways_to_triples
def b_is_different : MS := seqS (asgS (vr 3) (tgT 3 (tsC (tgN 4) (tsC (tgN 5) (tsC (tgN 6) (tsN)))))) (seqS (forV (src1 (argC (app lenD (argC (vr 6) (argN))) (argN))) (tgN 7) (seqS (ifS (tst (bin neD (bin ixD (bin ixD (vr 1) (cst (.int 1))) (vr 4)) (bin ixD (bin ixD (vr 2) (cst (.int 1))) (vr 5)))) (retS (cst (.bl true))) (nxS)) (seqS (setS 8 (callV f_window_number (argC (vr 0) (argC (slV (vr 6) (oS (vr 7)) (oN)) (argN))))) (seqS (setS 4 (bin ixD (bin ixD (bin ixD (vr 1) (cst (.int 2))) (vr 4)) (vr 8))) (setS 5 (bin ixD (bin ixD (bin ixD (vr 2) (cst (.int 2))) (vr 5)) (vr 8))))))) (retS (bin neD (bin ixD (bin ixD (vr 1) (cst (.int 1))) (vr 4)) (bin ixD (bin ixD (vr 2) (cst (.int 1))) (vr 5)))))
def f_is_different : MF := runB 5 b_is_different
def b_different_run : MS := seqS (exprS (callV f_check_system (argC (vr 0) (argN)))) (seqS (exprS (callV f_check_two_policies (argC (vr 0) (argC (vr 1) (argC (vr 2) (argN)))))) (seqS (setS 3 (app lenD (argC (bin ixD (vr 0) (cst (.int 1))) (argN)))) (seqS (setS 4 (callV f_ways_to_triples (argC (vr 3) (argC (vr 1) (argC (vr 2) (argN)))))) (seqS (forV (srcV (callV f_windows_up_to (argC (vr 3) (argC (bin subD (bin ixD (vr 1) (cst (.int 0))) (cst (.int 1))) (argN))))) (tgN 5) (ifS (tru (callV f_is_different (argC (vr 3) (argC (vr 1) (argC (vr 2) (argC (mkT (argC (bin ixD (vr 1) (cst (.int 3))) (argC (bin ixD (vr 2) (cst (.int 3))) (argC (vr 5) (argN))))) (argN))))))) (retS (vr 5)) (nxS))) (seqS (forV (srcV (vr 4)) (tgN 6) (ifS (tru (callV f_is_different (argC (vr 3) (argC (vr 1) (argC (vr 2) (argC (vr 6) (argN))))))) (seqS (asgS (callV f_way_to (argC (vr 4) (argC (vr 6) (argN)))) (tgT 2 (tsC (tgN 7) (tsC (tgN 8) (tsN))))) (retS (bin addD (bin ixD (vr 7) (cst (.int 2))) (vr 8)))) (nxS))) (retS (cst .non)))))))
def f_different_run : MF := runB 6 b_different_run
def b_next_triple : MS := seqS (asgS (vr 3) (tgT 3 (tsC (tgN 5) (tsC (tgN 6) (tsC (tgN 7) (tsN)))))) (seqS (setS 8 (bin addD (vr 7) (mkT (argC (vr 4) (argN))))) (seqS (setS 9 (callV f_window_number (argC (vr 0) (argC (vr 8) (argN))))) (retS (mkT (argC (bin ixD (bin ixD (bin ixD (vr 1) (cst (.int 2))) (vr 5)) (vr 9)) (argC (bin ixD (bin ixD (bin ixD (vr 2) (cst (.int 2))) (vr 6)) (vr 9)) (argC (slV (vr 8) (oS (cst (.int 1))) (oN)) (argN))))))))
def f_next_triple : MF := runB 5 b_next_triple
def b_check_run : MS := seqS (exprS (callV f_check_system (argC (vr 0) (argN)))) (seqS (exprS (callV f_check_policy (argC (vr 0) (argC (vr 1) (argN))))) (exprS (callV f_check_sequence (argC (vr 0) (argC (vr 2) (argN))))))
def f_check_run : MF := runB 0 b_check_run
def b_memories_of_run : MS := seqS (asgS (vr 1) (tgT 4 (tsC (tgN 3) (tsC (tgN 4) (tsC (tgN 5) (tsC (tgN 6) (tsN))))))) (seqS (setS 7 (mkL (argN))) (seqS (forV (src1 (argC (app lenD (argC (vr 2) (argN))) (argN))) (tgN 8) (seqS (setS 9 (slV (vr 2) (oS (vr 8)) (oS (bin addD (bin addD (vr 8) (vr 3)) (cst (.int 1)))))) (seqS (setS 6 (bin ixD (bin ixD (vr 5) (vr 6)) (callV f_window_number (argC (app lenD (argC (bin ixD (vr 0) (cst (.int 1))) (argN))) (argC (vr 9) (argN)))))) (exprS (appV (vr 7) (vr 6)))))) (retS (app tupOfD (argC (vr 7) (argN))))))
def f_memories_of_run : MF := runB 7 b_memories_of_run
def b_run_memories : MS := seqS (exprS (callV f_check_run (argC (vr 0) (argC (vr 1) (argC (vr 2) (argN)))))) (retS (callV f_memories_of_run (argC (vr 0) (argC (vr 1) (argC (vr 2) (argN))))))
def f_run_memories : MF := runB 0 b_run_memories
def b_schedule_of_run : MS := seqS (setS 3 (bin ixD (vr 1) (cst (.int 1)))) (retS (app tupOfD (argC (lcV (srcV (callV f_memories_of_run (argC (vr 0) (argC (vr 1) (argC (vr 2) (argN)))))) (tgN 4) (yesB) (bin ixD (vr 3) (vr 4)) [4]) (argN))))
def f_schedule_of_run : MF := runB 2 b_schedule_of_run
def b_run_schedule : MS := seqS (exprS (callV f_check_run (argC (vr 0) (argC (vr 1) (argC (vr 2) (argN)))))) (retS (callV f_schedule_of_run (argC (vr 0) (argC (vr 1) (argC (vr 2) (argN))))))
def f_run_schedule : MF := runB 0 b_run_schedule
def b_run_cost : MS := seqS (exprS (callV f_check_run (argC (vr 0) (argC (vr 1) (argC (vr 2) (argN)))))) (retS (callV f_cost_of_schedule (argC (vr 0) (argC (vr 2) (argC (callV f_schedule_of_run (argC (vr 0) (argC (vr 1) (argC (vr 2) (argN))))) (argN))))))
def f_run_cost : MF := runB 0 b_run_cost
def b_law_window_at : MS := retS (slV (vr 0) (oS (vr 1)) (oS (bin addD (bin addD (vr 1) (vr 2)) (cst (.int 1)))))
def f_law_window_at : MF := runB 0 b_law_window_at
def b_law_run : MS := seqS (asgS (vr 1) (tgT 4 (tsC (tgN 3) (tsC (tgN 4) (tsC (tgN 5) (tsC (tgN 6) (tsN))))))) (seqS (setS 7 (callV f_law_windows (argC (app lenD (argC (bin ixD (vr 0) (cst (.int 1))) (argN))) (argC (vr 3) (argN))))) (seqS (parS 8 9 (argC (mkL (argN)) (argC (cst (.int 0)) (argN)))) (seqS (forV (srcE (argC (vr 2) (argN))) (tgT 2 (tsC (tgN 10) (tsC (tgN 11) (tsN)))) (seqS (setS 12 (bin ixD (bin ixD (vr 5) (vr 6)) (badE))) (seqS (setS 9 (bin addD (vr 9) (callV f_law_step_cost (argC (vr 0) (argC (bin ixD (vr 4) (vr 6)) (argC (bin ixD (vr 4) (vr 12)) (argC (vr 11) (argN)))))))) (seqS (exprS (appV (vr 8) (vr 12))) (setS 6 (vr 12)))))) (retS (mkT (argC (vr 8) (argC (vr 9) (argN))))))))
def f_law_run : MF := runB 10 b_law_run
def b_law_doubled : MS := seqS (setS 2 (mkL (argN))) (seqS (forV (src1 (argC (app lenD (argC (bin ixD (vr 1) (cst (.int 1))) (argN))) (argN))) (tgN 3) (exprS (extV (vr 2) (bin mulD (mkL (argC (vr 3) (argN))) (bin addD (cst (.int 1)) (callV f_law_draw (argC (vr 0) (argC (cst (.int 3)) (argN))))))))) (seqS (parS 4 5 (argC (vr 2) (argC (mkL (argN)) (argN)))) (seqS (whileS (tst (bin neD (vr 4) (mkL (argN)))) (exprS (appV (vr 5) (badE))) 1000000) (seqS (setS 6 (mkL (argN))) (seqS (forV (srcV (vr 5)) (tgN 3) (seqS (setS 7 (mkL (argN))) (seqS (forV (srcV (bin ixD (bin ixD (vr 1) (cst (.int 2))) (vr 3))) (tgN 8) (seqS (setS 9 (lcV (srcE (argC (vr 5) (argN))) (tgT 2 (tsC (tgN 10) (tsC (tgN 11) (tsN)))) (tst (bin eqD (vr 11) (vr 8))) (vr 10) [10, 11])) (exprS (appV (vr 7) (bin ixD (vr 9) (callV f_law_draw (argC (vr 0) (argC (app lenD (argC (vr 9) (argN))) (argN))))))))) (exprS (appV (vr 6) (app tupOfD (argC (vr 7) (argN)))))))) (retS (mkT (argC (bin ixD (vr 1) (cst (.int 0))) (argC (app tupOfD (argC (lcV (srcV (vr 5)) (tgN 3) (yesB) (bin ixD (bin ixD (vr 1) (cst (.int 1))) (vr 3)) [3]) (argN))) (argC (app tupOfD (argC (vr 6) (argN))) (argC (badE) (argN))))))))))))
def f_law_doubled : MF := runB 10 b_law_doubled
end Mi.B

namespace Mi.B
open PySem PySem.Spec L2
theorem is_integer_eq {d : D} {S : Store} {t : Tn} (h : tnOf d S = some t) : f_is_integer [d] S = .ok (.bl (decide (t = .int))) S := by
  cases t <;> simp [runB_ap, retS_ap, exS_ok, f_is_integer, b_is_integer, h, isiT]
def isI (d : D) (lo hi : Int) : Bool := match d with
  | .int i => decide (lo ≤ i) && decide (i ≤ hi)
  | _ => false
theorem tn_int {d : D} {S : Store} {t : Tn} (h : tnOf d S = some t) : (t = .int ∧ ∃ i, d = .int i) ∨ (t ≠ .int ∧ ∀ i, d ≠ .int i) := by
  cases d with
  | int i => cases h; exact .inl ⟨rfl, i, rfl⟩
  | ref n => exact .inr ⟨fun z => by rcases tn_ref h with e | e <;> (rw [e] at z; cases z), fun i z => nomatch z⟩
  | _ => cases h <;> exact .inr ⟨by decide, fun i z => nomatch z⟩
theorem is_integer_from_eq {d : D} {S : Store} {t : Tn} {lo hi : Int} (h : tnOf d S = some t) : f_is_integer_from [d, .int lo, .int hi] S = .ok (.bl (isI d lo hi)) S := by
  rcases tn_int h with ⟨e, i, rfl⟩ | ⟨e, hd⟩
  · simp [runB_ap, retS_ap, exS_ok, f_is_integer_from, b_is_integer_from, is_integer_eq h, e, isI]
    by_cases h1 : lo ≤ i <;> simp [runB_ap, retS_ap, exS_ok, h1]
  · have : isI d lo hi = false := by cases d <;> first | rfl | exact absurd rfl (hd _)
    simp [runB_ap, retS_ap, exS_ok, f_is_integer_from, b_is_integer_from, is_integer_eq h, e, this]
def isT (d : D) (n : Int) : Bool := match d with
  | .tup ds => decide ((ds.length : Int) = n)
  | _ => false
theorem is_tuple_of_eq {d : D} {S : Store} {t : Tn} {n : Int} (h : tnOf d S = some t) : f_is_tuple_of [d, .int n] S = .ok (.bl (isT d n)) S := by
  cases d with
  | tup ds => cases h; simp [runB_ap, retS_ap, exS_ok, f_is_tuple_of, b_is_tuple_of, isiT, isT]
  | ref m =>
    rcases tn_ref h with rfl | rfl <;> simp [runB_ap, retS_ap, exS_ok, f_is_tuple_of, b_is_tuple_of, h, isiT, isT]
  | _ => cases h <;> simp [runB_ap, retS_ap, exS_ok, f_is_tuple_of, b_is_tuple_of, isiT, isT]
end Mi.B

namespace Mi.B
open PySem PySem.Spec L2

/-! ### the program's is_system -/
def Live (S : Store) (d : D) : Prop := ∃ k p, toR S k d = some p
theorem Live.tn {S : Store} {d : D} (h : Live S d) : ∃ t, tnOf d S = some t := by
  obtain ⟨k, p, h⟩ := h
  cases k with
  | zero => cases h
  | succ k =>
    cases d with
    | ref n =>
      unfold toR at h
      split at h
      · rename_i ds e; exact ⟨.lst, by show (match (S[n]? : Option Cell) with | some (.lst _) => some Tn.lst | some (.dK _) => some .dct | some (.dT _) => some .dct | _ => none) = _; rw [e]⟩
      · rename_i e; exact ⟨.dct, by show (match (S[n]? : Option Cell) with | some (.lst _) => some Tn.lst | some (.dK _) => some .dct | some (.dT _) => some .dct | _ => none) = _; rw [e]⟩
      · cases h
    | ty _ => cases h
    | _ => exact ⟨_, rfl⟩
theorem optAll_mem {α : Type} : ∀ {xs : List (Option α)} {ys : List α}, optAll xs = some ys → ∀ x ∈ xs, ∃ y, x = some y
  | [], _, _, x, h => nomatch h
  | o :: xs, ys, h, x, hx => by
    cases o with
    | none => cases h
    | some a =>
      unfold optAll at h
      split at h
      · rename_i as ha
        rcases List.mem_cons.mp hx with rfl | hx
        · exact ⟨a, rfl⟩
        · exact optAll_mem ha x hx
      · cases h
theorem Live.tup {S : Store} {ds : List D} (h : Live S (.tup ds)) : ∀ d ∈ ds, Live S d := by
  obtain ⟨k, p, h⟩ := h
  cases k with
  | zero => cases h
  | succ k =>
    intro d hd
    obtain ⟨ps, h1, _⟩ := Option.map_eq_some_iff.mp h
    obtain ⟨y, hy⟩ := optAll_mem h1 _ (List.mem_map_of_mem hd)
    exact ⟨k, y, hy⟩
theorem isI_iff {d : D} {lo hi : Int} : isI d lo hi = true ↔ ∃ i, d = .int i ∧ lo ≤ i ∧ i ≤ hi := by
  cases d <;> simp [isI]
theorem isT_iff {d : D} {n : Int} : isT d n = true ↔ ∃ xs, d = .tup xs ∧ (xs.length : Int) = n := by
  cases d <;> simp [isT]
def RowP (n s : Nat) (d : D) : Prop := ∃ xs, d = .tup xs ∧ xs.length = n ∧ ∀ j < n, ∃ i, xs[j]? = some (.int i) ∧ (j = s → i = 0) ∧ (j ≠ s → 1 ≤ i ∧ i ≤ 1000)
theorem fits_row {S : Store} {n s : Nat} {d : D} (hn : n < 100000) (h : Live S d) : Says (f_fits_switching_row [.int n, .int s, d] S) S (RowP n s d) := by
  obtain ⟨t, ht⟩ := h.tn
  refine .of ?_
  simp only [f_fits_switching_row, b_fits_switching_row, wp_run, wp_seq, wp_ifS]
  simp [is_tuple_of_eq ht]
  by_cases hT : isT d n = true
  · obtain ⟨xs, rfl, hx⟩ := isT_iff.mp hT
    have hx : xs.length = n := by omega
    simp only [hT, if_true, wp_nxS, wp_forV]
    have h1 : argC (vr 0) argN [some (D.int ↑n), some (D.int ↑s), some (D.tup xs), none, none, none] S = .ok [.int n] S := by simp
    rw [src1_nat h1 hn, wp_ok]
    refine wp_forR (fun k e S' => S' = S ∧ (∃ a b c, e = [some (.int n), some (.int s), some (.tup xs), a, b, c]) ∧ ∀ j < k, ∃ i, xs[j]? = some (.int i) ∧ (j = s → i = 0) ∧ (j ≠ s → 1 ≤ i ∧ i ≤ 1000)) ⟨rfl, ⟨_, _, _, rfl⟩, fun j h => by omega⟩ ?_ ?_
    · rintro k e S' hk ⟨rfl, ⟨a, b, c, rfl⟩, hi⟩
      obtain ⟨y, hy⟩ : ∃ y, xs[k]? = some y := ⟨xs[k], List.getElem?_eq_getElem (by omega)⟩
      obtain ⟨t', ht'⟩ := (h.tup y (List.mem_of_getElem? hy)).tn
      have key : ∀ (lo hi : Int), (isI y lo hi = true ↔ ∃ i, xs[k]? = some (.int i) ∧ lo ≤ i ∧ i ≤ hi) := fun lo hi => by
        rw [isI_iff, hy]; simp
      have hat : atI xs (k : Int) = some y := by rw [atI_nat' (by omega), hy]
      by_cases hks : k = s
      · subst hks
        simp [hat, is_integer_from_eq ht']
        by_cases hq : isI y 0 0 = true
        · simp [hq]
          intro j hj
          rcases Nat.lt_or_ge j k with z | z
          · exact hi j z
          · obtain ⟨i, h1, h2, h3⟩ := (key _ _).mp hq
            rw [show j = k by omega]
            exact ⟨i, h1, fun _ => by omega, fun z => absurd rfl z⟩
        · simp [hq]
          rintro ⟨ys, e, _, h2⟩
          cases e
          obtain ⟨i, h1, h2, _⟩ := h2 k hk
          exact hq ((key _ _).mpr ⟨i, h1, by have := h2 rfl; omega, by have := h2 rfl; omega⟩)
      · have hne : ¬ ((k : Int) = (s : Int)) := by omega
        simp [hat, is_integer_from_eq ht', hne]
        by_cases hq : isI y 1 1000 = true
        · simp [hq]
          intro j hj
          rcases Nat.lt_or_ge j k with z | z
          · exact hi j z
          · obtain ⟨i, h1, h2, h3⟩ := (key _ _).mp hq
            rw [show j = k by omega]
            exact ⟨i, h1, fun z => absurd z hks, fun _ => ⟨h2, h3⟩⟩
        · simp [hq]
          rintro ⟨ys, e, _, h2⟩
          cases e
          obtain ⟨i, h1, _, h3⟩ := h2 k hk
          exact hq ((key _ _).mpr ⟨i, h1, (h3 hks).1, (h3 hks).2⟩)
    · rintro e S' ⟨rfl, ⟨a, b, c, rfl⟩, hi⟩
      simp
      exact ⟨xs, rfl, hx, hi⟩
  · simp [hT]
    rintro ⟨xs, rfl, hx, _⟩
    exact hT (isT_iff.mpr ⟨xs, rfl, by omega⟩)
end Mi.B

namespace Mi.B
open PySem PySem.Spec L2

def cell (xs : List D) (i j : Nat) : Int := match xs[i]? with
  | some (.tup ys) => match ys[j]? with
    | some (.int z) => z
    | _ => 0
  | _ => 0
def TriP (n : Nat) (xs : List D) (i j k : Nat) : Prop := cell xs i k ≤ cell xs i j + cell xs j k
def TabP (d : D) : Prop := ∃ xs, d = .tup xs ∧ 2 ≤ xs.length ∧ xs.length ≤ 10 ∧ (∀ i < xs.length, ∃ r, xs[i]? = some r ∧ RowP xs.length i r) ∧ (∀ i < xs.length, ∀ j < xs.length, ∀ k < xs.length, TriP xs.length xs i j k)
theorem row_cell {n i : Nat} {xs : List D} (h : ∃ r, xs[i]? = some r ∧ RowP n i r) : ∃ ys, xs[i]? = some (.tup ys) ∧ ys.length = n ∧ ∀ j < n, ys[j]? = some (.int (cell xs i j)) := by
  obtain ⟨r, h1, ys, rfl, h2, h3⟩ := h
  refine ⟨ys, h1, h2, fun j hj => ?_⟩
  obtain ⟨z, h4, _⟩ := h3 j hj
  rw [h4]
  simp [cell, h1, h4]
theorem triangles {S : Store} {n : Nat} {xs : List D} (hn : n < 100000) (hx : xs.length = n) (h : ∀ i < n, ∃ r, xs[i]? = some r ∧ RowP n i r) : Says (f_holds_triangles [.tup xs] S) S (∀ i < n, ∀ j < n, ∀ k < n, TriP n xs i j k) := by
  refine .of ?_
  have row : ∀ i < n, ∃ ys, atI xs (i : Int) = some (.tup ys) ∧ ∀ j < n, atI ys (j : Int) = some (.int (cell xs i j)) := fun i hi => by
    obtain ⟨ys, h1, h2, h3⟩ := row_cell (h i hi)
    exact ⟨ys, by rw [atI_nat' (by omega), h1], fun j hj => by rw [atI_nat' (by omega), h3 j hj]⟩
  simp only [f_holds_triangles, b_holds_triangles, wp_run, wp_seq]
  simp [hx]
  rw [src1_nat (n := n) (S1 := S) ?_ hn]
  rotate_left
  · simp
  rw [wp_ok]
  refine wp_forR (fun k e S' => S' = S ∧ (∃ a b c, e = [some (.tup xs), some (.int n), a, b, c]) ∧ ∀ i < k, ∀ j < n, ∀ k < n, TriP n xs i j k) ⟨rfl, ⟨_, _, _, rfl⟩, fun j h => by omega⟩ ?_ ?_
  rotate_left
  · rintro e S' ⟨rfl, ⟨a, b, c, rfl⟩, hi⟩
    exact ⟨rfl, hi⟩
  rintro i e S' hi ⟨rfl, ⟨a, b, c, rfl⟩, hI⟩
  simp
  rw [src1_nat (n := n) (S1 := S') ?_ hn]
  rotate_left
  · simp
  rw [wp_ok]
  refine wp_forR (fun k e S1 => S1 = S' ∧ (∃ b c, e = [some (.tup xs), some (.int n), some (.int i), b, c]) ∧ ∀ j < k, ∀ k < n, TriP n xs i j k) ⟨rfl, ⟨_, _, rfl⟩, fun j h => by omega⟩ ?_ ?_
  rotate_left
  · rintro e S1 ⟨rfl, ⟨b, c, rfl⟩, hJ⟩
    refine ⟨rfl, ⟨_, _, _, rfl⟩, fun i' hi' => ?_⟩
    rcases Nat.lt_or_ge i' i with z | z
    · exact hI i' z
    · rw [show i' = i by omega]; exact hJ
  rintro j e S1 hj ⟨rfl, ⟨b, c, rfl⟩, hJ⟩
  simp
  rw [src1_nat (n := n) (S1 := S1) ?_ hn]
  rotate_left
  · simp
  rw [wp_ok]
  refine wp_forR (fun k e S2 => S2 = S1 ∧ (∃ c, e = [some (.tup xs), some (.int n), some (.int i), some (.int j), c]) ∧ ∀ k' < k, TriP n xs i j k') ⟨rfl, ⟨_, rfl⟩, fun j h => by omega⟩ ?_ ?_
  rotate_left
  · rintro e S2 ⟨rfl, ⟨c, rfl⟩, hK⟩
    refine ⟨rfl, ⟨_, _, rfl⟩, fun j' hj' => ?_⟩
    rcases Nat.lt_or_ge j' j with z | z
    · exact hJ j' z
    · rw [show j' = j by omega]; exact hK
  rintro k e S2 hk ⟨rfl, ⟨c, rfl⟩, hK⟩
  obtain ⟨yi, hyi, ci⟩ := row i hi
  obtain ⟨yj, hyj, cj⟩ := row j hj
  simp [hyi, hyj, ci k hk, ci j hj, cj k hk]
  by_cases hq : cell xs i j + cell xs j k < cell xs i k
  · rw [if_pos hq]
    exact ⟨i, hi, j, hj, k, hk, fun z => by unfold TriP at z; omega⟩
  · rw [if_neg hq]
    intro k' hk'
    rcases Nat.lt_or_ge k' k with z | z
    · exact hK k' z
    · rw [show k' = k by omega]; unfold TriP; omega
theorem fits_switching_says {S : Store} {d : D} (h : Live S d) : Says (f_fits_switching [d] S) S (TabP d) := by
  obtain ⟨t, ht⟩ := h.tn
  refine .of ?_
  simp only [f_fits_switching, b_fits_switching, wp_run, wp_seq, wp_ifS]
  have no : (∀ xs, d ≠ .tup xs) → ¬ TabP d := fun z ⟨xs, e, _⟩ => z xs e
  cases d with
  | tup xs =>
    have hl := fun i (hi : i < xs.length) => (⟨xs[i], List.getElem?_eq_getElem hi, h.tup _ (List.getElem_mem hi)⟩ : ∃ r, xs[i]? = some r ∧ Live S r)
    by_cases h2 : 2 ≤ xs.length ∧ xs.length ≤ 10
    · have e2 : (2 : Int) ≤ (xs.length : Int) := by omega
      have e10 : (xs.length : Int) ≤ 10 := by omega
      simp [isiT, e2, e10]
      rw [src1_nat (n := xs.length) (S1 := S) ?_ (by omega)]
      rotate_left
      · simp
      rw [wp_ok]
      refine wp_forR (fun k e S' => S' = S ∧ (∃ a, e = [some (.tup xs), a]) ∧ ∀ i < k, ∃ r, xs[i]? = some r ∧ RowP xs.length i r) ⟨rfl, ⟨_, rfl⟩, fun j h => by omega⟩ ?_ ?_
      · rintro k e S' hk ⟨rfl, ⟨a, rfl⟩, hi⟩
        obtain ⟨r, hr, lr⟩ := hl k hk
        have hat : atI xs (k : Int) = some r := by rw [atI_nat' (by omega), hr]
        simp [hat]
        have hlt : xs.length < 100000 := by omega
        have hT := fits_row (s := k) hlt lr
        refine hT.wp (fun hp => ?_) fun hp => ?_
        · simp
          intro i hik
          rcases Nat.lt_or_ge i k with z | z
          · exact hi i z
          · rw [show i = k by omega]; exact ⟨r, hr, hp⟩
        · simp
          rintro ⟨ys, e, _, _, h3, _⟩
          cases e
          obtain ⟨r', h4, h5⟩ := h3 k hk
          rw [hr] at h4
          cases h4
          exact hp h5
      · rintro e S' ⟨rfl, ⟨a, rfl⟩, hi⟩
        simp
        have hlt : xs.length < 100000 := by omega
        have hT := triangles (S := S') hlt rfl hi
        have hq : (∀ i < xs.length, ∀ j < xs.length, ∀ k < xs.length, TriP xs.length xs i j k) ↔ TabP (.tup xs) := by
          refine ⟨fun hp => ⟨xs, rfl, h2.1, h2.2, hi, hp⟩, ?_⟩
          rintro ⟨ys, e, _, _, _, h4⟩
          cases e
          exact h4
        exact hT.ret hq
    · have hn : ¬ TabP (.tup xs) := by
        rintro ⟨ys, e, h3, h4, _⟩
        cases e
        exact h2 ⟨h3, h4⟩
      by_cases e2 : (2 : Int) ≤ (xs.length : Int)
      · have e10 : ¬ ((xs.length : Int) ≤ 10) := by omega
        simp [isiT, e2, e10, hn]
      · simp [isiT, e2, hn]
  | ref m =>
    have := no (fun _ z => nomatch z)
    rcases tn_ref ht with rfl | rfl <;> simp [ht, isiT, this]
  | _ =>
    have := no (fun _ z => nomatch z)
    cases ht <;> simp [isiT, this]
end Mi.B

namespace Mi.B
open PySem PySem.Spec L2

def CostsP (n : Nat) (d : D) : Prop := ∃ xs, d = .tup xs ∧ xs.length = n ∧ (∀ x ∈ xs, x = .non ∨ ∃ i, x = .int i ∧ 0 ≤ i ∧ i ≤ 1000) ∧ ∃ x ∈ xs, x ≠ .non
def nonB : D → Bool
  | .non => true
  | _ => false
theorem isB_non {S : Store} {d : D} (h : Live S d) : isB d .non = some (nonB d) := by
  obtain ⟨k, p, h⟩ := h
  cases k with
  | zero => cases h
  | succ k => cases d <;> first | rfl | cases h
theorem fits_costs_says {S : Store} {n : Nat} {d : D} (h : Live S d) : Says (f_fits_costs [.int n, d] S) S (CostsP n d) := by
  obtain ⟨t, ht⟩ := h.tn
  refine .of ?_
  simp only [f_fits_costs, b_fits_costs, wp_run, wp_seq, wp_ifS]
  simp [is_tuple_of_eq ht]
  by_cases hT : isT d n = true
  · obtain ⟨xs, rfl, hx⟩ := isT_iff.mp hT
    have hx : xs.length = n := by omega
    simp [hT]
    refine wp_forL (fun k e S' => S' = S ∧ (∃ c b, e = [some (.int n), some (.tup xs), some (.int c), b] ∧ 0 ≤ c ∧ (0 < c ↔ ∃ j < k, ∃ x, xs[j]? = some x ∧ x ≠ .non)) ∧ ∀ j < k, ∀ x, xs[j]? = some x → x = .non ∨ ∃ i, x = .int i ∧ 0 ≤ i ∧ i ≤ 1000) ⟨rfl, ⟨0, _, rfl, by decide, ?_⟩, fun j h => by omega⟩ (fun _ _ _ _ => rfl) ?_ ?_
    · constructor
      · intro z; omega
      · rintro ⟨j, hj, _⟩; omega
    · rintro k y e S' hy ⟨rfl, ⟨c, b, rfl, hc, hcc⟩, hi⟩
      have ly := h.tup y (List.mem_of_getElem? hy)
      obtain ⟨t', ht'⟩ := ly.tn
      simp [isB_non ly]
      by_cases hn : y = .non
      · subst hn
        simp [nonB]
        refine ⟨⟨hc, ?_⟩, ?_⟩
        · rw [hcc]
          constructor
          · rintro ⟨j, hj, x, h1, h2⟩; exact ⟨j, by omega, x, h1, h2⟩
          · rintro ⟨j, hj, x, h1, h2⟩
            rcases Nat.lt_or_ge j k with z | z
            · exact ⟨j, z, x, h1, h2⟩
            · rw [show j = k by omega, hy] at h1; cases h1; exact absurd rfl h2
        · intro j hj x hjx
          rcases Nat.lt_or_ge j k with z | z
          · exact hi j z x hjx
          · rw [show j = k by omega, hy] at hjx; cases hjx; exact .inl rfl
      · have hm : nonB y = false := by cases y <;> first | rfl | exact absurd rfl hn
        simp [hm, is_integer_from_eq ht']
        by_cases hq : isI y 0 1000 = true
        · obtain ⟨i, rfl, h1, h2⟩ := isI_iff.mp hq
          simp [hq]
          refine ⟨⟨by omega, ⟨fun _ => ⟨k, by omega, _, hy, by simp⟩, fun _ => by omega⟩⟩, ?_⟩
          intro j hj x hjx
          rcases Nat.lt_or_ge j k with z | z
          · exact hi j z x hjx
          · rw [show j = k by omega, hy] at hjx; cases hjx; exact .inr ⟨i, rfl, h1, h2⟩
        · simp [hq]
          rintro ⟨ys, e, _, h2, _⟩
          cases e
          rcases h2 y (List.mem_of_getElem? hy) with z | z
          · exact hn z
          · exact hq (isI_iff.mpr z)
    · rintro e S' ⟨rfl, ⟨c, b, rfl, hc, hcc⟩, hi⟩
      simp
      have all : ∀ x ∈ xs, x = .non ∨ ∃ i, x = .int i ∧ 0 ≤ i ∧ i ≤ 1000 := fun x hx => by
        obtain ⟨j, hj, e⟩ := List.getElem_of_mem hx
        exact hi j hj x (by rw [← e]; exact List.getElem?_eq_getElem hj)
      by_cases h0 : 0 < c
      · obtain ⟨j, hj, x, h1, h2⟩ := hcc.mp h0
        refine .inl ⟨h0, xs, rfl, hx, all, x, List.mem_of_getElem? h1, h2⟩
      · refine .inr ⟨by omega, ?_⟩
        rintro ⟨ys, e, _, _, x, hx, h2⟩
        cases e
        obtain ⟨j, hj, e⟩ := List.getElem_of_mem hx
        exact h0 (hcc.mpr ⟨j, hj, x, by rw [← e]; exact List.getElem?_eq_getElem hj, h2⟩)
  · simp [hT]
    rintro ⟨xs, rfl, hx, _⟩
    exact hT (isT_iff.mpr ⟨xs, rfl, by omega⟩)
def ReqP (n : Nat) (d : D) : Prop := ∃ xs, d = .tup xs ∧ 1 ≤ xs.length ∧ xs.length ≤ 8 ∧ ∀ x ∈ xs, CostsP n x
theorem fits_requests_says {S : Store} {n : Nat} {d : D} (h : Live S d) : Says (f_fits_requests [.int n, d] S) S (ReqP n d) := by
  obtain ⟨t, ht⟩ := h.tn
  refine .of ?_
  simp only [f_fits_requests, b_fits_requests, wp_run, wp_seq, wp_ifS]
  have no : (∀ xs, d ≠ .tup xs) → ¬ ReqP n d := fun z ⟨xs, e, _⟩ => z xs e
  cases d with
  | tup xs =>
    by_cases h2 : 1 ≤ xs.length ∧ xs.length ≤ 8
    · have e2 : (1 : Int) ≤ (xs.length : Int) := by omega
      have e10 : (xs.length : Int) ≤ 8 := by omega
      simp [isiT, e2, e10]
      refine wp_forL (fun k e S' => S' = S ∧ (∃ a, e = [some (.int n), some (.tup xs), a]) ∧ ∀ i < k, ∀ r, xs[i]? = some r → CostsP n r) ⟨rfl, ⟨_, rfl⟩, fun j h => by omega⟩ (fun _ _ _ _ => rfl) ?_ ?_
      · rintro k y e S' hy ⟨rfl, ⟨a, rfl⟩, hi⟩
        have hT := fits_costs_says (n := n) (h.tup y (List.mem_of_getElem? hy))
        simp
        rcases hT with ⟨e, hp⟩ | ⟨e, hp⟩
        · simp [e]
          intro i hik r hr
          rcases Nat.lt_or_ge i k with z | z
          · exact hi i z r hr
          · rw [show i = k by omega, hy] at hr; cases hr; exact hp
        · simp [e]
          rintro ⟨ys, e, _, _, h3⟩
          cases e
          exact hp (h3 y (List.mem_of_getElem? hy))
      · rintro e S' ⟨rfl, ⟨a, rfl⟩, hi⟩
        simp
        refine ⟨xs, rfl, h2.1, h2.2, fun x hx => ?_⟩
        obtain ⟨j, hj, e⟩ := List.getElem_of_mem hx
        exact hi j hj x (by rw [← e]; exact List.getElem?_eq_getElem hj)
    · have hn : ¬ ReqP n (.tup xs) := by
        rintro ⟨ys, e, h3, h4, _⟩
        cases e
        exact h2 ⟨h3, h4⟩
      by_cases e2 : (1 : Int) ≤ (xs.length : Int)
      · have e10 : ¬ ((xs.length : Int) ≤ 8) := by omega
        simp [isiT, e2, e10, hn]
      · simp [isiT, e2, hn]
  | ref m =>
    have := no (fun _ z => nomatch z)
    rcases tn_ref ht with rfl | rfl <;> simp [ht, isiT, this]
  | _ =>
    have := no (fun _ z => nomatch z)
    cases ht <;> simp [isiT, this]
def SysP (d : D) : Prop := ∃ a b c xs, d = .tup [a, b, c] ∧ a = .tup xs ∧ TabP a ∧ ReqP xs.length b ∧ isI c 0 (xs.length - 1) = true
theorem is_system_says {S : Store} {d : D} (h : Live S d) : Says (f_is_system [d] S) S (SysP d) := by
  obtain ⟨t, ht⟩ := h.tn
  refine .of ?_
  simp only [f_is_system, b_is_system, wp_run, wp_seq, wp_ifS]
  simp [is_tuple_of_eq (n := 3) ht]
  by_cases hT : isT d 3 = true
  · obtain ⟨ds, rfl, hx⟩ := isT_iff.mp hT
    obtain ⟨a, b, c, rfl⟩ : ∃ a b c, ds = [a, b, c] := by
      match ds, hx with
      | [a, b, c], _ => exact ⟨a, b, c, rfl⟩
    simp [hT]
    have la := h.tup a (by simp)
    have lb := h.tup b (by simp)
    obtain ⟨tc, htc⟩ := (h.tup c (by simp)).tn
    rcases fits_switching_says la with ⟨e, hp⟩ | ⟨e, hp⟩
    · obtain ⟨xs, rfl, h1, h2, h3⟩ := id hp
      simp [e]
      rcases fits_requests_says (n := xs.length) lb with ⟨e, hq⟩ | ⟨e, hq⟩
      · simp [e, is_integer_from_eq htc]
        by_cases hi : isI c 0 (xs.length - 1) = true
        · simp [hi]
          exact ⟨_, _, _, xs, rfl, rfl, hp, hq, hi⟩
        · simp [hi]
          rintro ⟨a', b', c', xs', e1, e2, _, _, h5⟩
          cases e1
          cases e2
          exact hi h5
      · simp [e]
        rintro ⟨a', b', c', xs', e1, e2, _, h4, _⟩
        cases e1
        cases e2
        exact hq h4
    · simp [e]
      rintro ⟨a', b', c', xs', e1, e2, h4, _⟩
      cases e1
      exact hp h4
  · simp [hT]
    rintro ⟨a', b', c', xs', e1, _⟩
    exact hT (isT_iff.mpr ⟨_, e1, rfl⟩)
end Mi.B

namespace Mi.B
open PySem PySem.Spec L2

/-! ### stores that grow -/
def Sub (S S' : Store) : Prop := (∀ (m : Nat) (ds : List D), S[m]? = some (.lst ds) → S'[m]? = some (.lst ds)) ∧ ∀ m : Nat, S[m]? = some (.dK []) → S'[m]? = some (.dK [])
theorem Sub.app (S J : Store) : Sub S (S ++ J) := by
  have : ∀ (m : Nat) (c : Cell), S[m]? = some c → (S ++ J)[m]? = some c := fun m c h => by
    have hm : m < S.length := by rw [List.getElem?_eq_some_iff] at h; exact h.choose
    rw [List.getElem?_append_left hm]; exact h
  exact ⟨fun m ds h => this m _ h, fun m h => this m _ h⟩
theorem Sub.refl (S : Store) : Sub S S := ⟨fun _ _ h => h, fun _ h => h⟩
theorem Sub.trans {A B C : Store} (h : Sub A B) (i : Sub B C) : Sub A C := ⟨fun _ _ z => i.1 _ _ (h.1 _ _ z), fun _ z => i.2 _ (h.2 _ z)⟩
theorem optAll_mono {α : Type} {f g : D → Option α} (h : ∀ d p, f d = some p → g d = some p) : ∀ (ds : List D) (ps : List α), optAll (ds.map f) = some ps → optAll (ds.map g) = some ps
  | [], ps, e => e
  | d :: ds, ps, e => by
    rw [List.map_cons] at e ⊢
    cases hd : f d with
    | none => rw [hd] at e; cases e
    | some p =>
      rw [hd] at e
      rw [h d p hd]
      unfold optAll at e ⊢
      split at e
      · rename_i as ha
        rw [optAll_mono h ds as ha]
        exact e
      · cases e
theorem toR_sub {S S' : Store} (h : Sub S S') : ∀ (k : Nat) (d : D) (p : PyData), toR S k d = some p → toR S' k d = some p
  | 0, d, p, e => by cases e
  | k + 1, d, p, e => by
    cases d with
    | tup ds =>
      obtain ⟨ps, h1, rfl⟩ := Option.map_eq_some_iff.mp e
      exact Option.map_eq_some_iff.mpr ⟨ps, optAll_mono (toR_sub h k) ds ps h1, rfl⟩
    | rol ds =>
      obtain ⟨ps, h1, rfl⟩ := Option.map_eq_some_iff.mp e
      exact Option.map_eq_some_iff.mpr ⟨ps, optAll_mono (toR_sub h k) ds ps h1, rfl⟩
    | ref n =>
      unfold toR at e ⊢
      split at e
      · rename_i ds hn
        rw [h.1 n ds hn]
        obtain ⟨ps, h1, rfl⟩ := Option.map_eq_some_iff.mp e
        exact Option.map_eq_some_iff.mpr ⟨ps, optAll_mono (toR_sub h k) ds ps h1, rfl⟩
      · rename_i hn
        rw [h.2 n hn]; exact e
      · cases e
    | _ => exact e
theorem Live.sub {S S' : Store} {d : D} (l : Live S d) (h : Sub S S') : Live S' d := by
  obtain ⟨k, p, e⟩ := l
  exact ⟨k, p, toR_sub h k d p e⟩
theorem eqB_nil {S : Store} {m n : Nat} {xs : List D} (h : S[m]? = some (.lst xs)) (h' : S[n]? = some (.lst [])) : eqB S (.ref m) (.ref n) = some (decide (xs = [])) := by
  have e1 : lstOf S (.ref m) = some xs := by simp [lstOf, h]
  have e2 : lstOf S (.ref n) = some [] := by simp [lstOf, h']
  have e3 : lenB S (.ref m) (.ref n) = if xs.length = 0 then none else some false := by simp [lenB, e1, e2]
  cases xs with
  | nil =>
    have a : toP S 62 (.ref m) = some (.list []) := by simp [toP, h, optAll]
    have b : toP S 62 (.ref n) = some (.list []) := by simp [toP, h', optAll]
    have c : (SeqAt.shaped (.list []) && SeqAt.shaped (.list [])) = true := by decide +kernel
    have d : PyData.eqv (.list []) (.list []) = true := by decide +kernel
    simp only [eqB, e3, a, b, c, d]
    rfl
  | cons x xs =>
    simp only [eqB, e3]
    simp
theorem chk_self {n : Nat} {S : Store} {ds : List D} (h : S[n]? = some (.lst ds)) : chk [(n, ds)] S = true := by
  simp [chk, h, D.beqL_self]
theorem set_last {S : Store} {c c' : Cell} : (S ++ [c]).set S.length c' = S ++ [c'] := by
  rw [List.set_append_right _ _ (Nat.le_refl _)]; simp
theorem get_last {S : Store} {c : Cell} : (S ++ [c])[S.length]? = some c := by simp
/-- a comprehension that keeps some of its items as they are -/
theorem wp_filter {t : MT} {tt : MB} {el : ME} {vs : List Nat} {gs : Gs} {e : Vs} {Q : D → Store → Prop} {ds : List D} {S : Store} (f : D → Bool) (hz : ds.length ≤ 1000000) (hc : ∀ acc, chk gs (S ++ [.lst acc]) = true)
    (step : ∀ d acc, d ∈ ds → wpR (t d (wipeE e vs) (S ++ [.lst acc])) fun e1 S1 => S1 = S ++ [.lst acc] ∧ tt e1 S1 = .ok (f d) S1 ∧ (f d = true → el e1 S1 = .ok d S1))
    (fin : Q (.ref S.length) (S ++ [.lst (ds.filter f)])) : wpR (lcS t tt el vs gs S.length e ds (S ++ [.lst []])) Q := by
  refine wp_lc (fun k acc S' => S' = S ++ [.lst acc] ∧ acc = (ds.take k).filter f) ⟨rfl, rfl⟩ get_last hz (fun k acc S' h => by rw [h.1]; exact hc acc) ?_ ?_
  · rintro k d acc S' hd hs ⟨rfl, ha⟩
    refine wpR_mono (step d acc (List.mem_of_getElem? hd)) fun e1 S1 q => ?_
    obtain ⟨rfl, h1, h2⟩ := q
    rw [h1, wp_ok]
    have tk : ds.take (k + 1) = ds.take k ++ [d] := by rw [List.take_add_one, hd]; rfl
    cases hf : f d with
    | true =>
      simp only
      rw [h2 hf, wp_ok]
      refine ⟨get_last, set_last, ?_⟩
      rw [tk, List.filter_append, ← ha]
      simp [hf]
    | false =>
      refine ⟨get_last, rfl, ?_⟩
      rw [tk, List.filter_append, ← ha]
      simp [hf]
  · rintro acc S' hs ⟨rfl, ha⟩
    rw [List.take_length] at ha
    rw [ha]; exact fin
end Mi.B

namespace Mi.B
open PySem PySem.Spec L2

def SaysJ (r : R D) (S : Store) (p : Prop) : Prop := ∃ J b, r = .ok (.bl b) (S ++ J) ∧ (b = true ↔ p)
theorem SaysJ.of {r : R D} {S : Store} {p : Prop} (h : wpR r fun a S' => (∃ J, S' = S ++ J) ∧ ((a = .bl true ∧ p) ∨ (a = .bl false ∧ ¬ p))) : SaysJ r S p := by
  obtain ⟨a, S', e, ⟨J, rfl⟩, h2⟩ := wpR_ex h
  rcases h2 with ⟨rfl, h3⟩ | ⟨rfl, h3⟩
  · exact ⟨J, true, e, by simp [h3]⟩
  · exact ⟨J, false, e, by simp [h3]⟩
def notNon (d : D) : Bool := !nonB d
theorem nonB_iff {d : D} : nonB d = true ↔ d = .non := by cases d <;> simp [nonB]
theorem costs_iff {n : Nat} {xs : List D} (h : xs.length = n) : CostsP n (.tup xs) ↔ (xs.filter notNon ≠ [] ∧ (xs.filter notNon).filter (fun d => !isI d 0 1000) = []) := by
  constructor
  · rintro ⟨ys, e, _, h1, x, hx, h2⟩
    cases e
    refine ⟨fun z => ?_, ?_⟩
    · have : x ∈ xs.filter notNon := by
        rw [List.mem_filter]
        refine ⟨hx, ?_⟩
        cases hn : nonB x with
        | true => exact absurd (nonB_iff.mp hn) h2
        | false => simp [notNon, hn]
      rw [z] at this
      cases this
    · rw [List.filter_eq_nil_iff]
      intro y hy
      rw [List.mem_filter] at hy
      rcases h1 y hy.1 with rfl | z
      · have := hy.2
        simp [notNon, nonB] at this
      · simp [isI_iff.mpr z]
  · rintro ⟨h1, h2⟩
    refine ⟨xs, rfl, h, fun x hx => ?_, ?_⟩
    · cases hn : nonB x with
      | true => exact .inl (nonB_iff.mp hn)
      | false =>
        rw [List.filter_eq_nil_iff] at h2
        have := h2 x (by rw [List.mem_filter]; exact ⟨hx, by simp [notNon, hn]⟩)
        simp at this
        exact .inr (isI_iff.mp this)
    · obtain ⟨x, hx⟩ := List.exists_mem_of_ne_nil _ h1
      rw [List.mem_filter] at hx
      refine ⟨x, hx.1, fun z => ?_⟩
      rw [z] at hx
      simp [notNon, nonB] at hx
end Mi.B

namespace Mi.B
open PySem PySem.Spec L2

def okShow (p : PyData) : Bool := p.showable && decide (p.depth ≤ 60) && decide (p.shown.length ≤ 1000000)
def Fine (S : Store) (d : D) : Prop := ∃ p, toR S 60 d = some p ∧ okShow p = true
theorem Fine.live {S : Store} {d : D} (h : Fine S d) : Live S d := by
  obtain ⟨p, h, _⟩ := h
  exact ⟨60, p, h⟩
theorem Fine.sub {S S' : Store} {d : D} (h : Fine S d) (s : Sub S S') : Fine S' d := by
  obtain ⟨p, h, o⟩ := h
  exact ⟨p, toR_sub s _ _ _ h, o⟩
theorem repr_at {S : Store} {d : D} {p : PyData} (h : toR S 60 d = some p) (o : okShow p = true) : reprD [d] S = .ok (.str p.shown) S := by
  unfold reprD
  simp only [h]
  unfold okShow at o
  rw [if_pos o]
theorem repr_two {S : Store} {n : Nat} {b : Bool} (h : S[n]? = some (.lst [.bl b, .bl b])) : reprD [.ref n] S = .ok (.str (PyData.list [.bool b, .bool b]).shown) S := by
  refine repr_at ?_ ?_
  · simp [toR, h, optAll]
  · cases b <;> decide +kernel
end Mi.B

namespace Mi.B
open PySem PySem.Spec L2

/-! ### draws -/
def Strm (n : Nat) (S : Store) : Prop := ∃ a b c, S[n]? = some (.lst [.int a, .int b, .int c])
def Ext (n : Nat) (S S' : Store) : Prop := Strm n S' ∧ S.length ≤ S'.length ∧ ∀ m, m < S.length → m ≠ n → S'[m]? = S[m]?
theorem Strm.lt {n : Nat} {S : Store} (h : Strm n S) : n < S.length := by
  obtain ⟨a, b, c, h⟩ := h
  rw [List.getElem?_eq_some_iff] at h; exact h.choose
theorem Ext.refl {n : Nat} {S : Store} (h : Strm n S) : Ext n S S := ⟨h, Nat.le_refl _, fun _ _ _ => rfl⟩
theorem Ext.trans {n : Nat} {A B C : Store} (h : Ext n A B) (i : Ext n B C) : Ext n A C :=
  ⟨i.1, Nat.le_trans h.2.1 i.2.1, fun m hm hn => (i.2.2 m (Nat.lt_of_lt_of_le hm h.2.1) hn).trans (h.2.2 m hm hn)⟩
theorem Ext.app {n : Nat} {S : Store} (h : Strm n S) (J : Store) : Ext n S (S ++ J) := by
  have hl := h.lt
  obtain ⟨a, b, c, h⟩ := h
  refine ⟨⟨a, b, c, by rw [List.getElem?_append_left hl]; exact h⟩, by simp, fun m hm _ => by rw [List.getElem?_append_left hm]⟩
theorem Ext.set {n : Nat} {S : Store} (h : n < S.length) (a b c : Int) : Ext n S (S.set n (.lst [.int a, .int b, .int c])) := by
  refine ⟨⟨a, b, c, by simp [h]⟩, by simp, fun m hm hn => by rw [List.getElem?_set_ne (Ne.symm hn)]⟩
theorem mod_small {x m : Int} (h : 0 < m) (h' : m ≤ 4294967296) : (x % m).natAbs.log2 < 63 := by
  have h1 := Int.emod_nonneg x (show m ≠ 0 by omega)
  have h2 := Int.emod_lt_of_pos x h
  by_cases z : (x % m).natAbs = 0
  · rw [z]; decide
  · rw [Nat.log2_lt z]
    have : (2 : Nat) ^ 63 = 9223372036854775808 := rfl
    omega
theorem mul_at {i j : Int} {S : Store} (h : i.natAbs.log2 < 63 ∨ j.natAbs.log2 < 63) : mulD (.int i) (.int j) S = .ok (.int (i * j)) S := by
  unfold mulD
  simp only
  rw [if_pos h]
theorem draw {S : Store} {n : Nat} {t : Int} (h : Strm n S) (ht : 0 < t) (hs : t.natAbs.log2 < 9000) : wpR (f_law_draw [.ref n, .int t] S) fun d S' => (∃ r, d = .int r ∧ 0 ≤ r ∧ r < t) ∧ Ext n S S' ∧ S'.length = S.length := by
  have hl := h.lt
  obtain ⟨a, b, c, h⟩ := h
  have at0 : ∀ a b c : D, atI [a, b, c] 0 = some a := fun _ _ _ => rfl
  have at1 : ∀ a b c : D, atI [a, b, c] 1 = some b := fun _ _ _ => rfl
  have at2 : ∀ a b c : D, atI [a, b, c] 2 = some c := fun _ _ _ => rfl
  have ix0 : ixN 3 0 = some 0 := rfl
  have ix2 : ixN 3 2 = some 2 := rfl
  simp only [f_law_draw, b_law_draw, wp_run, wp_seq, wp_ifS]
  simp [h, at0, ht]
  by_cases ha : 0 < a
  · rw [if_pos ha]
    simp [h, at0, ht, hs, ix0]
    exact ⟨⟨Int.emod_nonneg a (by omega), Int.emod_lt_of_pos a ht⟩, Ext.set hl _ _ _⟩
  · rw [if_neg ha]
    have hset : ∀ c : Cell, (S.set n c)[n]? = some c := fun c => by simp [hl]
    have l1 : ∀ (x : Int) (S : Store), mulD (.int 1500450271) (.int x) S = .ok (.int (1500450271 * x)) S := fun x S => mul_at (.inl (by decide +kernel))
    have l2 : ∀ (x : Int) (S : Store), mulD (.int 10007) (.int x) S = .ok (.int (10007 * x)) S := fun x S => mul_at (.inl (by decide +kernel))
    have m1 : ∀ (x y : Int) (S : Store), mulD (.int (x % 4294967279)) (.int y) S = .ok (.int (x % 4294967279 * y)) S := fun x y S => mul_at (.inl (mod_small (by decide) (by decide)))
    have m2 : ∀ (x y : Int) (S : Store), mulD (.int (x % 4294967231)) (.int y) S = .ok (.int (x % 4294967231 * y)) S := fun x y S => mul_at (.inl (mod_small (by decide) (by decide)))
    have m3 : ∀ (x y : Int) (S : Store), mulD (.int (x % 4294967197)) (.int y) S = .ok (.int (x % 4294967197 * y)) S := fun x y S => mul_at (.inl (mod_small (by decide) (by decide)))
    simp [h, at0, at2, ht, hs, ix2, at1, hset, l1, l2, m1, m2, m3]
    rw [if_pos (show Nat.log2 64 < 9000 by decide +kernel)]
    generalize (_ / 64 : Int) = v
    simp [ht]
    exact ⟨⟨Int.emod_nonneg v (by omega), Int.emod_lt_of_pos v ht⟩, Ext.set hl _ _ _⟩
theorem draw_nat {S : Store} {n : Nat} {t : Nat} (h : Strm n S) (ht : 0 < t) (hs : t < 100000) : wpR (f_law_draw [.ref n, .int t] S) fun d S' => (∃ r : Nat, d = .int r ∧ r < t) ∧ Ext n S S' ∧ S'.length = S.length := by
  refine wpR_mono (draw (t := (t : Int)) h (by omega) ?_) ?_
  · rw [Int.natAbs_natCast]
    rw [Nat.log2_lt (by omega)]
    exact Nat.lt_of_lt_of_le hs (Nat.le_trans (show 100000 ≤ 2 ^ 20 by decide) (Nat.pow_le_pow_right (by decide) (by decide)))
  · rintro d S' ⟨⟨r, rfl, h1, h2⟩, h3⟩
    exact ⟨⟨r.toNat, by rw [Int.toNat_of_nonneg h1], by omega⟩, h3⟩
/-- how a program part that draws is used: it is called with the stream, and gives a value that the rest takes -/
theorem Ext.get {n : Nat} {S S' : Store} (h : Ext n S S') {m : Nat} {c : Cell} (hm : m ≠ n) (e : S[m]? = some c) : S'[m]? = some c := by
  have hl : m < S.length := by rw [List.getElem?_eq_some_iff] at e; exact e.choose
  rw [h.2.2 m hl hm]; exact e
end Mi.B

namespace Mi.B
open PySem PySem.Spec L2

theorem Ext.appR {n : Nat} {A B : Store} (h : Ext n A B) (J : Store) : Ext n A (B ++ J) := h.trans (Ext.app h.1 J)
theorem drawT {S : Store} {n : Nat} {T : Int} (t : Nat) (hT : T = t) (h : Strm n S) (ht : 0 < t) (hs : t < 100000) : wpR (f_law_draw [.ref n, .int T] S) fun d S' => (∃ r : Nat, d = .int r ∧ r < t) ∧ Ext n S S' ∧ S'.length = S.length := by
  rw [hT]; exact draw_nat h ht hs
theorem str_app {n : Nat} {S : Store} (h : Strm n S) (J : Store) : Strm n (S ++ J) := (Ext.app h J).1
theorem request {S : Store} {n size : Nat} (h : Strm n S) (h1 : 0 < size) (h2 : size < 1000) : wpR (f_law_request [.ref n, .int size] S) fun d S' => CostsP size d ∧ Ext n S S' := by
  have hl := h.lt
  simp only [f_law_request, b_law_request, wp_run, wp_seq, wp_ifS]
  simp
  refine wpR_mono (drawT 4 rfl (str_app h _) (by decide) (by decide)) ?_
  rintro d S1 ⟨⟨r, rfl, hr⟩, x1, z1⟩
  have e1 : S1[S.length]? = some (.lst [.int 2, .int 3, .int 5, .int 1001]) := x1.get (by omega) (by simp)
  obtain ⟨top, htop, t1, t2⟩ : ∃ τ : Nat, atI [D.int 2, .int 3, .int 5, .int 1001] (r : Int) = some (.int τ) ∧ 2 ≤ τ ∧ τ ≤ 1001 := by
    have : r = 0 ∨ r = 1 ∨ r = 2 ∨ r = 3 := by omega
    rcases this with rfl | rfl | rfl | rfl
    · exact ⟨2, rfl, by decide, by decide⟩
    · exact ⟨3, rfl, by decide, by decide⟩
    · exact ⟨5, rfl, by decide, by decide⟩
    · exact ⟨1001, rfl, by decide, by decide⟩
  have y1 : Ext n S S1 := (Ext.app h _).trans x1
  simp [e1, htop]
  refine wpR_mono (drawT 4 rfl (str_app y1.1 _) (by decide) (by decide)) ?_
  rintro d S2 ⟨⟨r', rfl, hr'⟩, x2, z2⟩
  have e2 : S2[S1.length]? = some (.lst [.int 0, .int 0, .int 2, .int 3]) := x2.get (by have := y1.1.lt; omega) (by simp)
  obtain ⟨ban, hban, t3⟩ : ∃ τ : Nat, atI [D.int 0, .int 0, .int 2, .int 3] (r' : Int) = some (.int τ) ∧ τ ≤ 3 := by
    have : r' = 0 ∨ r' = 1 ∨ r' = 2 ∨ r' = 3 := by omega
    rcases this with rfl | rfl | rfl | rfl
    · exact ⟨0, rfl, by decide⟩
    · exact ⟨0, rfl, by decide⟩
    · exact ⟨2, rfl, by decide⟩
    · exact ⟨3, rfl, by decide⟩
  have y2 : Ext n S S2 := y1.trans ((Ext.app y1.1 _).trans x2)
  simp [e2, hban]
  refine wpR_mono (drawT size rfl y2.1 h1 (by omega)) ?_
  rintro d S3 ⟨⟨free, rfl, hfree⟩, x3, z3⟩
  rw [src1_nat (n := size) (S1 := S3 ++ [.lst []]) ?_ (by omega)]
  rotate_left
  · simp
  rw [wp_ok]
  have y3 : Ext n S S3 := y2.trans x3
  have hm : S3.length ≠ n := by have := y3.1.lt; omega
  refine wp_forR (fun k e S' => (∃ a b c, e = [some (.ref n), some (.int size), some (.int top), some (.int ban), some (.int free), some (.ref S3.length), a, b, c]) ∧ Ext n S S' ∧ ∃ acc, S'[S3.length]? = some (.lst acc) ∧ acc.length = k ∧ (∀ x ∈ acc, x = .non ∨ ∃ i, x = .int i ∧ 0 ≤ i ∧ i ≤ 1000) ∧ (free < k → ∃ x ∈ acc, x ≠ .non)) ⟨⟨_, _, _, rfl⟩, y3.appR _, [], by simp, rfl, by simp, by omega⟩ ?_ ?_
  · rintro k e S' hk ⟨⟨a, b, c, rfl⟩, yy, acc, ha, hal, hall, hfr⟩
    simp
    refine wpR_mono (drawT top rfl yy.1 (by omega) (by omega)) ?_
    rintro d S4 ⟨⟨v, rfl, hv⟩, x4, z4⟩
    have ha4 := x4.get hm ha
    have y4 := yy.trans x4
    have fin : ∀ (y : D) (S5 : Store) (bb : Option D), Ext n S S5 → S5[S3.length]? = some (.lst acc) → (y = .non ∨ y = .int v) → (free = k → y ≠ .non) →
        (∃ acc', (S5.set S3.length (.lst (acc ++ [y])))[S3.length]? = some (.lst acc') ∧ acc'.length = k + 1 ∧ (∀ x ∈ acc', x = .non ∨ ∃ i, x = .int i ∧ 0 ≤ i ∧ i ≤ 1000) ∧ (free < k + 1 → ∃ x ∈ acc', x ≠ .non)) ∧ Ext n S (S5.set S3.length (.lst (acc ++ [y]))) := by
      intro y S5 bb y5 h5 hy hf
      have hlt : S3.length < S5.length := by rw [List.getElem?_eq_some_iff] at h5; exact h5.choose
      refine ⟨⟨acc ++ [y], by simp [hlt], by simp [hal], ?_, ?_⟩, ?_⟩
      · intro x hx
        rcases List.mem_append.mp hx with hx | hx
        · exact hall x hx
        · rw [List.mem_singleton] at hx
          subst hx
          rcases hy with rfl | rfl
          · exact .inl rfl
          · exact .inr ⟨v, rfl, by omega, by omega⟩
      · intro hfk
        by_cases z : free = k
        · exact ⟨y, by simp, hf z⟩
        · obtain ⟨x, hx, hx'⟩ := hfr (by omega)
          exact ⟨x, List.mem_append_left _ hx, hx'⟩
      · obtain ⟨⟨s1, s2, s3, s4⟩, y6, y7⟩ := y5
        refine ⟨⟨s1, s2, s3, by rw [List.getElem?_set_ne hm]; exact s4⟩, by simpa using y6, fun m hm1 hm2 => ?_⟩
        rw [List.getElem?_set_ne (by have := y3.2.1; omega)]
        exact y7 m hm1 hm2
    have hb : wpR (match some (decide (0 < ban)) with
        | some true => (f_law_draw [D.ref n, D.int ↑ban] S4).bind fun x S1 => match eqB S1 x (D.int 0) with
          | some k => R.ok (D.bl k) S1
          | none => R.bad
        | some false => R.ok (D.bl (decide (0 < ban))) S4
        | none => R.bad) (fun d S1 => (∃ bb, d = .bl bb) ∧ Ext n S S1 ∧ S1[S3.length]? = some (.lst acc)) := by
      by_cases hb : 0 < ban
      · simp [hb]
        refine wpR_mono (drawT ban rfl y4.1 hb (by omega)) ?_
        rintro d S5 ⟨⟨v', rfl, _⟩, x5, _⟩
        simp
        exact ⟨by omega, y4.trans x5, x5.get hm ha4⟩
      · simp [hb]
        exact ⟨y4, ha4⟩
    refine wpR_mono hb ?_
    rintro d S5 ⟨⟨bb, rfl⟩, y5, h5⟩
    have hal' : acc.length < 1000000 := by omega
    have cast : ((k : Int) = (free : Int)) ↔ k = free := by omega
    simp only [h5, tru_bl, bind_ok]
    cases bb with
    | false =>
      simp only [bind_ok, h5]
      rw [if_pos hal', wp_ok]
      have := fin (.int v) S5 none y5 h5 (.inr rfl) (fun _ z => nomatch z)
      exact ⟨this.2, this.1⟩
    | true =>
      by_cases hkf : k = free
      · simp only [bind_ok, h5, cast, hkf, decide_true, Bool.not_true]
        rw [if_pos hal', wp_ok]
        have := fin (.int v) S5 none y5 h5 (.inr rfl) (fun _ z => nomatch z)
        exact ⟨this.2, by rw [hkf] at this; exact this.1⟩
      · simp only [bind_ok, h5, cast, hkf, decide_false, Bool.not_false]
        rw [if_pos hal', wp_ok]
        have := fin .non S5 none y5 h5 (.inl rfl) (fun z => absurd z.symm hkf)
        exact ⟨this.2, this.1⟩
  · rintro e S' ⟨⟨a, b, c, rfl⟩, yy, acc, ha, hal, hall, hfr⟩
    simp [ha, tupOfD]
    exact ⟨⟨acc, rfl, hal, hall, hfr hfree⟩, yy⟩
end Mi.B

namespace Mi.B
open PySem PySem.Spec L2

/-! ### the drawn switching table -/
/-- a table in the store: the list at m holds the rows, whose lists hold the entries -/
def Tab (S : Store) (m size : Nat) (f : Nat → Nat → Int) : Prop := ∃ rs : List Nat, rs.length = size ∧ S[m]? = some (.lst (rs.map D.ref)) ∧ rs.Nodup ∧ m ∉ rs ∧ ∀ i < size, ∃ q, rs[i]? = some q ∧ S[q]? = some (.lst ((List.range size).map fun j => D.int (f i j)))
/-- the least sums over ways that go over states before k, one step -/
def up (f : Nat → Nat → Int) (i j : Nat) (v : Int) : Nat → Nat → Int := fun a b => if a = i ∧ b = j then v else f a b
def Fits (size : Nat) (f : Nat → Nat → Int) : Prop := ∀ i < size, ∀ j < size, (i = j → f i j = 0) ∧ (i ≠ j → 1 ≤ f i j ∧ f i j ≤ 1000)
def Tri (size : Nat) (f : Nat → Nat → Int) (k : Nat) : Prop := ∀ i < size, ∀ j < size, f i j ≤ f i k + f k j
def fwStep (f : Nat → Nat → Int) (k i j : Nat) : Int := min (f i j) (f i k + f k j)
/-- one whole round, over the middle state k: row k and column k do not change, so the order of the steps does not matter -/
theorem fw_round {size k : Nat} {f : Nat → Nat → Int} (hf : Fits size f) (hk : k < size) (ht : ∀ l < k, Tri size f l) : Fits size (fun i j => fwStep f k i j) ∧ ∀ l < k + 1, Tri size (fun i j => fwStep f k i j) l := by
  have hkk := (hf k hk k hk).1 rfl
  have pos : ∀ i < size, ∀ j < size, 0 ≤ f i j := fun i hi j hj => by
    have := hf i hi j hj
    by_cases z : i = j
    · have := this.1 z; omega
    · have := this.2 z; omega
  refine ⟨fun i hi j hj => ⟨fun z => ?_, fun z => ?_⟩, fun l hl i hi j hj => ?_⟩
  · have h1 := (hf i hi j hj).1 z
    have h2 := pos i hi k hk
    have h3 := pos k hk j hj
    simp only [fwStep]; omega
  · have h1 := (hf i hi j hj).2 z
    have h2 := pos i hi k hk
    have h3 := pos k hk j hj
    have h4 : 1 ≤ f i k + f k j := by
      by_cases y : i = k
      · by_cases x : k = j
        · exact absurd (y.trans x) z
        · have := ((hf k hk j hj).2 x).1; omega
      · have := ((hf i hi k hk).2 y).1; omega
    simp only [fwStep]; omega
  · have hlsize : l < size := by omega
    simp only [fwStep]
    have a1 := pos i hi k hk
    have a2 := pos k hk j hj
    have a3 := pos i hi l hlsize
    have a4 := pos l hlsize j hj
    by_cases hlk : l = k
    · subst hlk
      omega
    · have t := ht l (by omega)
      have b1 := t i hi j hj
      have b2 := t i hi k hk
      have b3 := t k hk j hj
      have a5 := pos k hk l hlsize
      have a6 := pos l hlsize k hk
      have b4 := t k hk k hk
      rw [hkk] at b4
      have a7 := pos k hk k hk
      omega
end Mi.B

namespace Mi.B
open PySem PySem.Spec L2

/-- a table of r rows and c columns in the store, its lists at addresses from L to below U -/
structure TabR (L U : Nat) (S : Store) (m r c : Nat) (f : Nat → Nat → Int) (rs : List Nat) : Prop where
  len : rs.length = r
  top : S[m]? = some (.lst (rs.map D.ref))
  nd : rs.Nodup
  lo : L ≤ m
  hi : m < U
  bds : ∀ q ∈ rs, L ≤ q ∧ q < U ∧ q ≠ m
  rows : ∀ i q : Nat, rs[i]? = some q → S[q]? = some (Cell.lst ((List.range c).map fun j => D.int (f i j)))
def TabA (L U : Nat) (S : Store) (m r c : Nat) (f : Nat → Nat → Int) : Prop := ∃ rs, TabR L U S m r c f rs
def Same (L U : Nat) (S S' : Store) : Prop := ∀ a, L ≤ a → a < U → S'[a]? = S[a]?
theorem TabA.same {L U : Nat} {S S' : Store} {m r c : Nat} {f : Nat → Nat → Int} (h : TabA L U S m r c f) (s : Same L U S S') : TabA L U S' m r c f := by
  obtain ⟨rs, h⟩ := h
  refine ⟨rs, h.len, by rw [s m h.lo h.hi]; exact h.top, h.nd, h.lo, h.hi, h.bds, fun i q hq => ?_⟩
  have := h.bds q (List.mem_of_getElem? hq)
  rw [s q this.1 this.2.1]; exact h.rows i q hq
theorem Same.ext {n L U : Nat} {S S' : Store} (e : Ext n S S') (hn : n < L) (hu : U ≤ S.length) : Same L U S S' := fun a h1 h2 => e.2.2 a (by omega) (by omega)
theorem Same.set {L U k : Nat} {S : Store} {c : Cell} (h : U ≤ k) : Same L U S (S.set k c) := fun a h1 h2 => by rw [List.getElem?_set_ne (by omega)]
theorem Same.app {L U : Nat} {S J : Store} (h : U ≤ S.length) : Same L U S (S ++ J) := fun a h1 h2 => by rw [List.getElem?_append_left (by omega)]
theorem Ext.setHi {n k : Nat} {S0 S : Store} {c : Cell} (e : Ext n S0 S) (hn : n < k) (h : S0.length ≤ k) : Ext n S0 (S.set k c) := by
  obtain ⟨⟨a, b, d, x⟩, y, z⟩ := e
  refine ⟨⟨a, b, d, by rw [List.getElem?_set_ne (by omega)]; exact x⟩, by simpa using y, fun m h1 h2 => ?_⟩
  rw [List.getElem?_set_ne (by omega)]; exact z m h1 h2
theorem map_range_get {c j : Nat} (h : j < c) (g : Nat → Int) : ((List.range c).map fun j => D.int (g j))[j]? = some (.int (g j)) := by simp [h]
theorem map_range_set {c j : Nat} (g : Nat → Int) (v : Int) : ((List.range c).map fun j => D.int (g j)).set j (.int v) = (List.range c).map fun b => D.int (if b = j then v else g b) := by
  apply List.ext_getElem
  · simp
  · intro b h1 h2
    by_cases z : j = b
    · subst z; simp
    · simp [List.getElem_set, z, Ne.symm z]
theorem TabA.at {L U : Nat} {S : Store} {m r c i j : Nat} {f : Nat → Nat → Int} (h : TabA L U S m r c f) (hi : i < r) (hj : j < c) : ∃ rows q row, S[m]? = some (.lst rows) ∧ atI rows (i : Int) = some (.ref q) ∧ S[q]? = some (.lst row) ∧ atI row (j : Int) = some (.int (f i j)) ∧ ixN row.length (j : Int) = some j ∧ L ≤ q ∧
    ∀ v, TabA L U (S.set q (.lst (row.set j (.int v)))) m r c (up f i j v) := by
  obtain ⟨rs, h⟩ := h
  have hlt : i < rs.length := by rw [h.len]; exact hi
  have hq : rs[i]? = some rs[i] := List.getElem?_eq_getElem hlt
  have hr := h.rows i _ hq
  have hb := h.bds _ (List.getElem_mem hlt)
  refine ⟨_, rs[i], _, h.top, ?_, hr, ?_, ?_, hb.1, fun v => ?_⟩
  · rw [atI_nat' (by simpa using hlt)]; simp [hlt]
  · rw [atI_nat' (by simpa using hj)]; exact map_range_get hj _
  · unfold ixN
    simp
    omega
  · rw [map_range_set]
    have hql : rs[i] < S.length := by rw [List.getElem?_eq_some_iff] at hr; exact hr.choose
    refine ⟨rs, h.len, by rw [List.getElem?_set_ne hb.2.2]; exact h.top, h.nd, h.lo, h.hi, h.bds, fun a q ha => ?_⟩
    by_cases hqi : rs[i] = q
    · have : i = a := by
        have e1 : rs[i]? = rs[a]? := by rw [hq, ha, hqi]
        exact (List.getElem?_inj hlt h.nd).mp e1
      subst this
      rw [← hqi]
      simp [hql, up]
    · rw [List.getElem?_set_ne hqi, h.rows a q ha]
      have : ¬ a = i := fun z => hqi (by subst z; rw [hq] at ha; cases ha; rfl)
      simp [up, this]
theorem TabA.push {L U : Nat} {S : Store} {m r c p : Nat} {f : Nat → Nat → Int} {g : Nat → Int} (h : TabA L U S m r c f) (hp : U ≤ p) (hg : S[p]? = some (.lst ((List.range c).map fun j => D.int (g j)))) : ∃ rows, S[m]? = some (.lst rows) ∧ rows.length = r ∧ TabA L (p + 1) (S.set m (.lst (rows ++ [.ref p]))) m (r + 1) c (fun i j => if i = r then g j else f i j) := by
  obtain ⟨rs, h⟩ := h
  have hm : m < S.length := by have := h.top; rw [List.getElem?_eq_some_iff] at this; exact this.choose
  refine ⟨_, h.top, by simp [h.len], rs ++ [p], by simp [h.len], by simp [hm], ?_, h.lo, by have := h.hi; omega, ?_, ?_⟩
  · rw [List.nodup_append]
    refine ⟨h.nd, by simp, fun a ha b hb => ?_⟩
    rw [List.mem_singleton] at hb
    have := h.bds a ha
    omega
  · intro q hq
    rcases List.mem_append.mp hq with hq | hq
    · have := h.bds q hq; omega
    · rw [List.mem_singleton] at hq
      have := h.hi
      have := h.lo
      omega
  · intro i q hq
    rcases Nat.lt_or_ge i rs.length with z | z
    · rw [List.getElem?_append_left z] at hq
      have hb := h.bds q (List.mem_of_getElem? hq)
      rw [List.getElem?_set_ne (Ne.symm hb.2.2), h.rows i q hq]
      have : ¬ i = r := by rw [h.len] at z; omega
      simp [this]
    · rw [List.getElem?_append_right z] at hq
      have hi0 : i - rs.length = 0 := by
        apply Decidable.byContradiction
        intro w
        rw [List.getElem?_eq_none (by simp; omega)] at hq
        cases hq
      rw [hi0] at hq
      cases hq
      have hir : i = r := by rw [h.len] at z hi0; omega
      have := h.hi
      rw [List.getElem?_set_ne (by omega), hg]
      simp [hir]
theorem TabR.congr {L U : Nat} {S : Store} {m r c : Nat} {f g : Nat → Nat → Int} {rs : List Nat} (h : TabR L U S m r c f rs) (e : ∀ i < r, ∀ j < c, f i j = g i j) : TabR L U S m r c g rs := by
  refine ⟨h.len, h.top, h.nd, h.lo, h.hi, h.bds, fun i q hq => ?_⟩
  have hi : i < r := by rw [← h.len]; rw [List.getElem?_eq_some_iff] at hq; exact hq.choose
  rw [h.rows i q hq]
  congr 2
  apply List.map_congr_left
  intro j hj
  rw [List.mem_range] at hj
  rw [e i hi j hj]
theorem TabA.congr {L U : Nat} {S : Store} {m r c : Nat} {f g : Nat → Nat → Int} (h : TabA L U S m r c f) (e : ∀ i < r, ∀ j < c, f i j = g i j) : TabA L U S m r c g := by
  obtain ⟨rs, h⟩ := h
  exact ⟨rs, h.congr e⟩
theorem min_if (x y : Int) : (if y < x then y else x) = min x y := by
  by_cases z : y < x
  · rw [if_pos z]; omega
  · rw [if_neg z]; omega
end Mi.B

namespace Mi.B
open PySem PySem.Spec L2

def Raw (size : Nat) (k : Nat) (f : Nat → Nat → Int) : Prop := ∀ i < k, ∀ j < size, (i = j → f i j = 0) ∧ (i ≠ j → 1 ≤ f i j ∧ f i j ≤ 1000)
theorem switching {S : Store} {n size : Nat} (h : Strm n S) (h1 : 0 < size) (h2 : size < 1000) : wpR (f_law_switching [.ref n, .int size] S) fun d S' => (2 ≤ size → size ≤ 10 → TabP d) ∧ (∃ xs, d = .tup xs ∧ xs.length = size) ∧ Ext n S S' := by
  have hl := h.lt
  simp only [f_law_switching, b_law_switching, wp_run, wp_seq, wp_ifS]
  simp
  refine wpR_mono (drawT 5 rfl (str_app h _) (by decide) (by decide)) ?_
  rintro d S1 ⟨⟨r, rfl, hr⟩, x1, z1⟩
  have e1 : S1[S.length]? = some (.lst [.int 1, .int 2, .int 4, .int 9, .int 1000]) := x1.get (by omega) (by simp)
  obtain ⟨top, htop, t1, t2⟩ : ∃ τ : Nat, atI [D.int 1, .int 2, .int 4, .int 9, .int 1000] (r : Int) = some (.int τ) ∧ 1 ≤ τ ∧ τ ≤ 1000 := by
    have : r = 0 ∨ r = 1 ∨ r = 2 ∨ r = 3 ∨ r = 4 := by omega
    rcases this with rfl | rfl | rfl | rfl | rfl
    · exact ⟨1, rfl, by decide, by decide⟩
    · exact ⟨2, rfl, by decide, by decide⟩
    · exact ⟨4, rfl, by decide, by decide⟩
    · exact ⟨9, rfl, by decide, by decide⟩
    · exact ⟨1000, rfl, by decide, by decide⟩
  have y1 : Ext n S S1 := (Ext.app h _).trans x1
  simp [e1, htop]
  rw [src1_nat (n := size) (S1 := S1 ++ [.lst []]) ?_ (by omega)]
  rotate_left
  · simp
  rw [wp_ok]
  have hnL : n < S1.length := y1.1.lt
  generalize hL : S1.length = L at hnL ⊢
  have hSL : S.length ≤ L := by rw [← hL]; exact y1.2.1
  have tab0 : TabA L (L + 1) (S1 ++ [.lst []]) L 0 size (fun _ _ => 0) := ⟨[], rfl, by rw [← hL]; simp, by simp, Nat.le_refl _, by omega, by simp, by simp⟩
  refine wp_forR (fun k e S' => (∃ a b c d, e = [some (.ref n), some (.int size), some (.int top), some (.ref L), a, b, c, d]) ∧ Ext n S S' ∧ ∃ U f, U ≤ S'.length ∧ TabA L U S' L k size f ∧ Raw size k f) ⟨⟨_, _, _, _, rfl⟩, y1.appR _, L + 1, _, by simp; omega, tab0, fun i hi => by omega⟩ ?_ ?_
  · rintro k e S' hk ⟨⟨a, b, c, d, rfl⟩, yy, U, f, hU, ht, hf⟩
    obtain ⟨rows, hrows, hrl⟩ : ∃ rows, S'[L]? = some (.lst rows) ∧ rows.length = k := by
      obtain ⟨rs, q⟩ := ht
      exact ⟨_, q.top, by simp [q.len]⟩
    simp [hrows]
    rw [src1_nat (n := size) (S1 := S') ?_ (by omega)]
    rotate_left
    · simp
    rw [wp_ok]
    have hLU : L < U := by obtain ⟨rs, q⟩ := ht; exact q.hi
    refine wp_lc (fun j acc S4 => Ext n S S4 ∧ S'.length + 1 ≤ S4.length ∧ TabA L U S4 L k size f ∧ ∃ g : Nat → Int, acc = (List.range j).map (fun i => D.int (g i)) ∧ ∀ i < j, 1 ≤ g i ∧ g i ≤ 1000) ?_ (by simp) (by rw [rangeD_len]; omega) (fun _ _ _ _ => rfl) ?_ ?_
    · exact ⟨yy.appR _, by simp, ht.same (Same.app hU), fun _ => 0, by simp, fun i hi => by omega⟩
    · rintro j d acc S4 hd hacc ⟨y4, l4, t4, g, rfl, hg⟩
      simp [wipeE]
      refine wpR_mono (drawT top rfl y4.1 (by omega) (by omega)) ?_
      rintro d' S5 ⟨⟨v, rfl, hv⟩, x5, z5⟩
      simp
      have h5 := x5.get (show S'.length ≠ n by omega) hacc
      refine ⟨by simpa using h5, ?_⟩
      refine ⟨(y4.trans x5).setHi (by omega) (by omega), by first | omega | (simp; omega), ?_, fun i => if i = j then 1 + v else g i, ?_, ?_⟩
      · exact (t4.same (Same.ext x5 hnL (by omega))).same (Same.set (by omega))
      · rw [List.range_succ, List.map_append]
        congr 1
        · apply List.map_congr_left
          intro i hi
          rw [List.mem_range] at hi
          simp [show ¬ i = j by omega]
        · simp
      · intro i hi
        by_cases z : i = j
        · simp [z]; omega
        · simp [z]; exact hg i (by omega)
    · rintro acc S4 hacc ⟨y4, l4, t4, g, rfl, hg⟩
      rw [rangeD_len] at hacc hg
      obtain ⟨rows', hr', hrl', hpush⟩ := t4.push (p := S'.length) hU hacc
      have hkz : k < 1000000 := by omega
      simp [hr', hrl', hkz]
      have hlt4 : L < S4.length := by rw [List.getElem?_eq_some_iff] at hr'; exact hr'.choose
      generalize hS5 : S4.set L (.lst (rows' ++ [.ref S'.length])) = S5 at hpush ⊢
      have y5 : Ext n S S5 := by rw [← hS5]; exact y4.setHi hnL hSL
      have l5 : S'.length + 1 ≤ S5.length := by rw [← hS5]; simpa using l4
      obtain ⟨ra, q, row, q1, q2, q3, q4, q5, q6, q7⟩ := hpush.at (i := k) (j := k) (by omega) hk
      simp [q1, q2, q3, q5]
      refine ⟨y5.setHi (by omega) (by omega), S'.length + 1, by simpa using l5, _, q7 0, ?_⟩
      intro i hi j hj
      simp only [up]
      by_cases z : i = k
      · subst z
        by_cases w : j = i
        · subst w; simp
        · have := hg j hj
          simp [w, this, Ne.symm w]
      · have := hf i (by omega) j hj
        simp [z]
        exact this
  · rintro e S' ⟨⟨a, b, c, d, rfl⟩, yy, U, f, hU, ht, hf⟩
    have hL' : L < L + 1 := Nat.lt_succ_self L
    let P : Vs → Store → Prop := fun e S' => (∃ a b c d, e = [some (.ref n), some (.int size), some (.int top), some (.ref L), a, b, c, d]) ∧ Ext n S S' ∧ ∃ U f, U ≤ S'.length ∧ TabA L U S' L size size f ∧ Raw size size f
    have tail : ∀ e1 S1, P e1 S1 → wpR (src1 (argC (vr 1) argN) e1 S1) fun p S1 => wpS (forS (tgN 6) (forV (src1 (argC (vr 1) argN)) (tgN 4) (forV (src1 (argC (vr 1) argN)) (tgN 5)
          (asgS (app min2D (argC (bin ixD (bin ixD (vr 3) (vr 4)) (vr 5)) (argC (bin addD (bin ixD (bin ixD (vr 3) (vr 4)) (vr 6)) (bin ixD (bin ixD (vr 3) (vr 6)) (vr 5))) argN))) (tgI (bin ixD (vr 3) (vr 4)) (vr 5)))))
        p.snd p.fst e1 S1) (fun e1 S1 => wpR (match e1[3]? with
          | some (some d) => R.ok d S1
          | x => R.bad) fun a S_3 => wpR (match a with
            | D.tup ds => R.ok (ds, []) S_3
            | D.rol ds => R.ok (ds, []) S_3
            | D.ref n => match S_3[n]? with
              | some (Cell.lst ds) => R.ok (ds, [(n, ds)]) S_3
              | x => R.bad
            | x => R.bad) fun p S1 => wpR (lcS (tgN 7) yesB (app tupOfD (argC (vr 7) argN)) [7] p.snd (List.length S1) e1 p.fst (S1 ++ [Cell.lst []])) fun a S_4 => wpR (tupOfD [a] S_4) fun d S' =>
              (2 ≤ size → size ≤ 10 → TabP d) ∧ (∃ xs, d = D.tup xs ∧ xs.length = size) ∧ Ext n S S')
        fun d S' => (2 ≤ size → size ≤ 10 → TabP d) ∧ (∃ xs, d = D.tup xs ∧ xs.length = size) ∧ Ext n S S' := by
      rintro e1 S1 ⟨⟨a, b, c, d, rfl⟩, yy, U, f, hU, ht, hf⟩
      rw [src1_nat (n := size) (S1 := S1) ?_ (by omega)]
      rotate_left
      · simp
      rw [wp_ok]
      refine wp_forR (fun k e S' => (∃ a b c d, e = [some (.ref n), some (.int size), some (.int top), some (.ref L), a, b, c, d]) ∧ Ext n S S' ∧ U ≤ S'.length ∧ ∃ f, TabA L U S' L size size f ∧ Fits size f ∧ ∀ l < k, Tri size f l) ⟨⟨_, _, _, _, rfl⟩, yy, hU, f, ht, hf, fun l hl => by omega⟩ ?_ ?_
      · rintro k e S2 hk ⟨⟨a, b, c, d, rfl⟩, y2, hU2, f, ht, hf, htri⟩
        simp
        rw [src1_nat (n := size) (S1 := S2) ?_ (by omega)]
        rotate_left
        · simp
        rw [wp_ok]
        have hkk := (hf k hk k hk).1 rfl
        refine wp_forR (fun i e S' => (∃ a b d, e = [some (.ref n), some (.int size), some (.int top), some (.ref L), a, b, some (.int k), d]) ∧ Ext n S S' ∧ U ≤ S'.length ∧ TabA L U S' L size size (fun a b => if a < i then fwStep f k a b else f a b)) ⟨⟨_, _, _, rfl⟩, y2, hU2, by simpa using ht⟩ ?_ ?_
        · rintro i e S3 hi ⟨⟨a, b, d, rfl⟩, y3, hU3, t3⟩
          simp
          rw [src1_nat (n := size) (S1 := S3) ?_ (by omega)]
          rotate_left
          · simp
          rw [wp_ok]
          refine wp_forR (fun j e S' => (∃ b d, e = [some (.ref n), some (.int size), some (.int top), some (.ref L), some (.int i), b, some (.int k), d]) ∧ Ext n S S' ∧ U ≤ S'.length ∧ TabA L U S' L size size (fun a b => if a < i ∨ (a = i ∧ b < j) then fwStep f k a b else f a b)) ⟨⟨_, _, rfl⟩, y3, hU3, by simpa using t3⟩ ?_ ?_
          · rintro j e S4 hj ⟨⟨b, d, rfl⟩, y4, hU4, t4⟩
            obtain ⟨ra, q, row, q1, q2, q3, q4, q5, q6, q7⟩ := t4.at hi hj
            obtain ⟨ra', q', row', p1, p2, p3, p4, p5, p6, p7⟩ := t4.at hi hk
            obtain ⟨ra2, q'', row'', r1, r2, r3, r4, r5, r6, r7⟩ := t4.at hk hj
            rw [q1] at p1 r1
            cases p1
            cases r1
            rw [q2] at p2
            cases p2
            rw [q3] at p3
            cases p3
            have v1 : (if i < i ∨ (i = i ∧ j < j) then fwStep f k i j else f i j) = f i j := by simp
            have v2 : (if i < i ∨ (i = i ∧ k < j) then fwStep f k i k else f i k) = f i k := by
              have : fwStep f k i k = f i k := by simp only [fwStep]; omega
              rw [this]; simp
            have v3 : (if k < i ∨ (k = i ∧ j < j) then fwStep f k k j else f k j) = f k j := by
              have : fwStep f k k j = f k j := by simp only [fwStep]; omega
              rw [this]; simp
            rw [v1] at q4
            rw [v2] at p4
            rw [v3] at r4
            simp [q1, q2, q3, q4, q5, p4, r2, r3, r4, min2D]
            rw [min_if]
            have hfun : up (fun a b => if a < i ∨ (a = i ∧ b < j) then fwStep f k a b else f a b) i j (min (f i j) (f i k + f k j)) = fun a b => if a < i ∨ (a = i ∧ b < j + 1) then fwStep f k a b else f a b := by
              funext a b
              simp only [up]
              by_cases z1 : a = i
              · subst z1
                by_cases z2 : b = j
                · subst z2; simp [fwStep]
                · have : (b < j + 1) ↔ (b < j) := by omega
                  simp [z2, this]
              · simp [z1]
            have t5 := q7 (min (f i j) (f i k + f k j))
            rw [hfun] at t5
            exact ⟨y4.setHi (by omega) (by omega), hU4, t5⟩
          · rintro e S4 ⟨⟨b, d, rfl⟩, y4, hU4, t4⟩
            refine ⟨⟨_, _, _, rfl⟩, y4, hU4, t4.congr fun a ha b hb => ?_⟩
            have : (a < i ∨ (a = i ∧ b < size)) ↔ a < i + 1 := by omega
            simp only [this]
        · rintro e S3 ⟨⟨a, b, d, rfl⟩, y3, hU3, t3⟩
          have hr := fw_round hf hk htri
          refine ⟨⟨_, _, _, _, rfl⟩, y3, hU3, _, t3.congr fun a ha b hb => ?_, hr.1, hr.2⟩
          rw [if_pos ha]
      · rintro e S2 ⟨⟨a, b, c, d, rfl⟩, y2, hU2, f, ⟨rs, ht⟩, hf, htri⟩
        simp [ht.top]
        have hLU := ht.hi
        refine wp_lc (fun k acc S' => Ext n S S' ∧ TabR L U S' L size size f rs ∧ acc = (List.range k).map fun i => D.tup ((List.range size).map fun j => .int (f i j))) ⟨y2.appR _, ?_, by simp⟩ (by simp) (by simp [ht.len]; omega) (fun k acc S' h => chk_self h.2.1.top) ?_ ?_
        · exact ⟨ht.len, by rw [List.getElem?_append_left (by omega)]; exact ht.top, ht.nd, ht.lo, ht.hi, ht.bds, fun i q hq => by
            have := ht.bds q (List.mem_of_getElem? hq)
            rw [List.getElem?_append_left (by omega)]; exact ht.rows i q hq⟩
        · rintro k d acc S4 hd hacc ⟨y4, t4, rfl⟩
          obtain ⟨q, hq, rfl⟩ : ∃ q, rs[k]? = some q ∧ d = .ref q := by
            rw [List.getElem?_map] at hd
            cases e : rs[k]? with
            | none => rw [e] at hd; cases hd
            | some q => rw [e] at hd; cases hd; exact ⟨q, rfl, rfl⟩
          simp [wipeE, tupOfD, t4.rows k q hq]
          refine ⟨by simpa using hacc, y4.setHi (by omega) (by omega), ?_, ?_⟩
          · exact ⟨t4.len, by rw [List.getElem?_set_ne (by omega)]; exact t4.top, t4.nd, t4.lo, t4.hi, t4.bds, fun i q hq => by
              have := t4.bds q (List.mem_of_getElem? hq)
              rw [List.getElem?_set_ne (by omega)]; exact t4.rows i q hq⟩
          · rw [List.range_succ, List.map_append]; rfl
        · rintro acc S4 hacc ⟨y4, t4, rfl⟩
          simp only [List.length_map, ht.len] at hacc ⊢
          simp [tupOfD, hacc]
          refine ⟨fun s1 s2 => ?_, y4⟩
          have cl : ∀ i < size, ∀ j < size, cell ((List.range size).map fun i => D.tup ((List.range size).map fun j => .int (f i j))) i j = f i j := fun i hi j hj => by
            simp [cell, hi, hj]
          refine ⟨_, rfl, by simpa using s1, by simpa using s2, ?_, ?_⟩
          · intro i hi
            simp at hi
            refine ⟨_, by simp [hi]; rfl, _, rfl, by simp, ?_⟩
            intro j hj
            simp at hj
            have := hf i hi j hj
            exact ⟨f i j, by simp [hj], fun z => this.1 z.symm, fun z => this.2 (Ne.symm z)⟩
          · intro i hi j hj k hk
            simp at hi hj hk
            unfold TriP
            rw [cl i hi k hk, cl i hi j hj, cl j hj k hk]
            exact htri j hj i hi k hk
    simp
    refine wpR_mono (drawT 3 rfl yy.1 (by omega) (by omega)) ?_
    rintro d' S3 ⟨⟨v, rfl, hv⟩, x3, z3⟩
    have y3 := yy.trans x3
    have t3 := ht.same (Same.ext x3 hnL hU)
    have hU3 : U ≤ S3.length := by omega
    simp
    by_cases hv0 : v = 0
    · rw [if_pos hv0]
      rw [src1_nat (n := size) (S1 := S3) ?_ (by omega)]
      rotate_left
      · simp
      rw [wp_ok]
      refine wpS_mono ?_ tail (fun _ _ q => q)
      refine wp_forR (fun k => P) ⟨⟨_, _, _, _, rfl⟩, y3, U, f, hU3, t3, hf⟩ ?_ ?_
      · rintro i e S4 hi ⟨⟨a, b, c, d, rfl⟩, y4, U, f, hU4, t4, hf⟩
        simp
        rw [src1_nat (n := i) (S1 := S4) ?_ (by omega)]
        rotate_left
        · simp
        rw [wp_ok]
        refine wp_forR (fun k e S' => (∃ b c d, e = [some (.ref n), some (.int size), some (.int top), some (.ref L), some (.int i), b, c, d]) ∧ Ext n S S' ∧ U ≤ S'.length ∧ ∃ f, TabA L U S' L size size f ∧ Raw size size f) ⟨⟨_, _, _, rfl⟩, y4, hU4, f, t4, hf⟩ ?_ ?_
        · rintro j e S5 hj ⟨⟨b, c, d, rfl⟩, y5, hU5, f, t5, hf⟩
          obtain ⟨ra, q, row, q1, q2, q3, q4, q5, q6, q7⟩ := t5.at (i := j) (j := i) (by omega) hi
          obtain ⟨ra', q', row', p1, p2, p3, p4, p5, p6, p7⟩ := t5.at (i := i) (j := j) hi (by omega)
          rw [q1] at p1
          cases p1
          simp [q1, q2, q3, q4, p2, p3, p5]
          refine ⟨y5.setHi (by omega) (by omega), hU5, _, p7 (f j i), fun a ha b hb => ?_⟩
          simp only [up]
          by_cases z : a = i ∧ b = j
          · obtain ⟨rfl, rfl⟩ := z
            have := hf b (by omega) a ha
            simp
            exact ⟨fun z => by omega, fun _ => this.2 (by omega)⟩
          · rw [if_neg z]
            exact hf a ha b hb
        · rintro e S5 ⟨⟨b, c, d, rfl⟩, y5, hU5, f, t5, hf⟩
          exact ⟨⟨_, _, _, _, rfl⟩, y5, U, f, hU5, t5, hf⟩
      · intro e S4 q
        exact q
    · rw [if_neg hv0]
      exact tail _ _ ⟨⟨_, _, _, _, rfl⟩, y3, U, f, hU3, t3, hf⟩
end Mi.B

namespace Mi.B
open PySem PySem.Spec L2

theorem system {S : Store} {n size total : Nat} (h : Strm n S) (h1 : 2 ≤ size) (h2 : size ≤ 10) (h3 : 1 ≤ total) (h4 : total ≤ 8) : wpR (f_law_system [.ref n, .int size, .int total] S) fun d S' => SysP d ∧ Ext n S S' := by
  have hl := h.lt
  simp only [f_law_system, b_law_system, wp_run, wp_seq, wp_ifS]
  simp
  rw [src1_nat (n := total) (S1 := S) ?_ (by omega)]
  rotate_left
  · simp
  rw [wp_ok]
  refine wp_lc (fun k acc S' => Ext n S S' ∧ S.length < S'.length ∧ acc.length = k ∧ ∀ x ∈ acc, CostsP size x) ⟨(Ext.app h _), by simp, rfl, by simp⟩ (by simp) (by rw [rangeD_len]; omega) (fun _ _ _ _ => rfl) ?_ ?_
  · rintro k d acc S4 hd hacc ⟨y4, l4, ha, hc⟩
    simp [wipeE]
    refine wpR_mono (request y4.1 (by omega) (by omega)) ?_
    rintro r S5 ⟨hr, x5⟩
    refine ⟨x5.get (by omega) hacc, (y4.trans x5).setHi (by omega) (Nat.le_refl _), ?_, by simp [ha], ?_⟩
    · have := x5.2.1
      simp; omega
    · intro x hx
      rcases hx with hx | hx
      · exact hc x hx
      · subst hx; exact hr
  · rintro acc S4 hacc ⟨y4, l4, ha, hc⟩
    rw [rangeD_len] at ha
    refine wpR_mono (switching y4.1 (by omega) (by omega)) ?_
    rintro tb S5 ⟨htb, ⟨xs, rfl, hxl⟩, x5⟩
    have h5 := x5.get (show S.length ≠ n by omega) hacc
    simp [tupOfD, h5]
    have y5 := y4.trans x5
    refine wpR_mono (drawT size rfl y5.1 (by omega) (by omega)) ?_
    rintro d S6 ⟨⟨v, rfl, hv⟩, x6, z6⟩
    refine ⟨⟨_, _, _, xs, rfl, rfl, htb h1 h2, ⟨acc, rfl, by omega, by omega, by rw [hxl]; exact hc⟩, ?_⟩, y5.trans x6⟩
    rw [isI_iff]
    exact ⟨v, rfl, by omega, by omega⟩
end Mi.B

namespace Mi.B
open PySem PySem.Spec L2

/-! ### streams -/
theorem powers : ∃ A B C : Int, (∀ S, powD (.int 10) (.int 60) S = .ok (.int A) S) ∧ (∀ S, powD (.int A) (.int 12) S = .ok (.int B) S) ∧ (∀ S, powD (.int 10) (.int 17) S = .ok (.int C) S) ∧ 0 < B := by
  have pw : ∀ (i j : Int) (S : Store), (decide (0 ≤ j) && decide ((Builtin.Int.intBits i : Int) * j ≤ 2 ^ 27)) = true → powD (.int i) (.int j) S = .ok (.int (i ^ j.toNat)) S := fun i j S h => by
    unfold powD intD
    simp only
    rw [if_pos h]
  exact ⟨_, _, _, fun S => pw 10 60 S (by decide +kernel), fun S => pw _ 12 S (by decide +kernel), fun S => pw 10 17 S (by decide +kernel), by decide +kernel⟩
theorem stream {S : Store} {ns : List Int} {k : Nat} (hk : k < 1000) : wpR (f_law_stream [.rol (ns.map D.int), .int k] S) fun d S' => ∃ n, d = .ref n ∧ n = S.length ∧ Strm n S' ∧ ∃ c, S' = S ++ [c] := by
  obtain ⟨A, B, C, pA, pB, pC, hB⟩ := powers
  have l1 : ∀ (x : Int) (S : Store), mulD (.int 5) (.int x) S = .ok (.int (5 * x)) S := fun x S => mul_at (.inl (by decide +kernel))
  have l2 : ∀ (x : Int) (S : Store), mulD (.int 611953) (.int x) S = .ok (.int (611953 * x)) S := fun x S => mul_at (.inl (by decide +kernel))
  have l3 : ∀ (x : Int) (S : Store), mulD (.int x) (.int 9576890767) S = .ok (.int (x * 9576890767)) S := fun x S => mul_at (.inr (by decide +kernel))
  have l4 : ∀ (x : Int) (S : Store), mulD (.int 2) (.int x) S = .ok (.int (2 * x)) S := fun x S => mul_at (.inl (by decide +kernel))
  simp only [f_law_stream, b_law_stream, wp_run, wp_seq, wp_ifS]
  simp [l1, absD, pA, pB, pC, hB, l2, l3, l4, max2D, intOfD]
  by_cases h : k < ns.length
  · rw [if_pos h]
    have hat : atI (ns.map D.int) (k : Int) = some (.int ns[k]) := by rw [atI_nat' (by simpa using h)]; simp [h]
    simp [hat, absD, pA, pB, pC, hB, l2, l3, l4, max2D, intOfD]
    exact ⟨_, _, _, get_last⟩
  · rw [if_neg h]
    exact ⟨_, _, _, get_last⟩
end Mi.B

namespace Mi.B
open PySem PySem.Spec L2

/-! ### weights: how much text a value makes at most -/
def wt (n : Nat) (S : Store) (c : Nat) : Nat → D → Option Nat
  | 0, _ => none
  | _ + 1, .non => some 60
  | _ + 1, .bl _ => some 60
  | _ + 1, .int i => if i.natAbs ≤ 10 ^ 40 + c then some 60 else none
  | _ + 1, .str x => if x = "" ∨ x = "0" ∨ x = "a" then some 60 else none
  | _ + 1, .ty _ => none
  | _ + 1, .rol _ => none
  | k + 1, .tup ds => (optAll (ds.map (wt n S c k))).map fun ws => 60 + ws.sum
  | k + 1, .ref m => if m = n then none else match S[m]? with
    | some (.lst ds) => (optAll (ds.map (wt n S c k))).map fun ws => 60 + ws.sum
    | some (.dK []) => some 60
    | _ => none
theorem text_le : ∀ (ts : List PySem.Str) (k : Nat) (acc : PySem.Str), (textFrom k acc ts).length ≤ acc.length + piled ts
  | [], k, acc => Nat.le_add_right _ _
  | t :: r, k, acc => by
    have h := text_le r (k + 1) (acc ++ (if k > 0 then ", " else "" : String) ++ t)
    have e : (acc ++ (if k > 0 then ", " else "" : String) ++ t : PySem.Str).length = acc.length + (if k > 0 then 2 else 0) + t.length := by
      rw [strLen_append, strLen_append]
      split <;> rfl
    have e1 : textFrom k acc (t :: r) = textFrom (k + 1) (acc ++ (if k > 0 then ", " else "" : String) ++ t) r := rfl
    rw [e] at h
    rw [e1, piled_cons]
    have : (if k > 0 then 2 else 0 : Nat) ≤ 2 := by split <;> decide
    omega
theorem list_le (ts : List PySem.Str) : (listText ts).length ≤ piled ts + 2 := by
  unfold listText
  rw [strLen_append]
  have h := text_le ts 0 ("[" : String)
  have e1 : (("[" : String) : PySem.Str).length = 1 := rfl
  have e2 : (("]" : String) : PySem.Str).length = 1 := rfl
  rw [e1] at h
  rw [e2]
  omega
theorem tuple_le (ts : List PySem.Str) : (tupleText ts).length ≤ piled ts + 3 := by
  unfold tupleText
  rw [strLen_append, strLen_append]
  have e1 : (("(" : String) : PySem.Str).length = 1 := rfl
  have e3 : (((if ts.length == 1 then ",)" else ")" : String) : PySem.Str)).length ≤ 2 := by split <;> decide
  rw [e1]
  cases ts with
  | nil =>
    have : (PySem.Str.join ", " ([] : List PySem.Str)).length = 0 := rfl
    rw [this]; omega
  | cons t r =>
    have := join_length_add (t :: r) (by simp)
    omega
theorem log_small {i : Int} (h : i.natAbs < 10 ^ 41) : i.natAbs.log2 < 1920 := by
  by_cases z : i.natAbs = 0
  · rw [z]; decide
  · rw [Nat.log2_lt z]
    exact Nat.lt_of_lt_of_le h (Nat.le_trans (show 10 ^ 41 ≤ 2 ^ 140 by decide +kernel) (Nat.pow_le_pow_right (by decide) (by decide)))
theorem wt_all {n : Nat} {S : Store} {c k : Nat} (ih : ∀ d w, wt n S c k d = some w → ∃ p, toR S k d = some p ∧ p.showable = true ∧ p.depth ≤ k ∧ p.shown.length + 2 ≤ w) : ∀ (ds : List D) (ws : List Nat), optAll (ds.map (wt n S c k)) = some ws →
    ∃ ps, optAll (ds.map (toR S k)) = some ps ∧ PyData.showableAll ps = true ∧ PyData.depthAll ps ≤ k ∧ piled (PyData.shownAll ps) ≤ ws.sum
  | [], ws, h => by
    cases h
    exact ⟨[], rfl, rfl, by simp [PyData.depthAll], by simp [PyData.shownAll, piled]⟩
  | d :: ds, ws, h => by
    rw [List.map_cons] at h ⊢
    cases hd : wt n S c k d with
    | none => rw [hd] at h; cases h
    | some w =>
      rw [hd] at h
      unfold optAll at h
      split at h
      · rename_i us hu
        cases h
        obtain ⟨p, h1, h2, h3, h4⟩ := ih d w hd
        obtain ⟨ps, g1, g2, g3, g4⟩ := wt_all ih ds us hu
        refine ⟨p :: ps, ?_, ?_, ?_, ?_⟩
        · rw [h1]; unfold optAll; rw [g1]
        · simp [PyData.showableAll, h2, g2]
        · simp only [PyData.depthAll]; omega
        · simp only [PyData.shownAll, piled_cons, List.sum_cons]; omega
      · cases h
theorem wt_ok {n : Nat} {S : Store} {c : Nat} (hc : c ≤ 2) : ∀ (k : Nat) (d : D) (w : Nat), wt n S c k d = some w → ∃ p, toR S k d = some p ∧ p.showable = true ∧ p.depth ≤ k ∧ p.shown.length + 2 ≤ w
  | 0, d, w, h => by cases h
  | k + 1, d, w, h => by
    have lst : ∀ (ds : List D) (us : List Nat), optAll (ds.map (wt n S c k)) = some us → ∃ p, (optAll (ds.map (toR S k))).map PyData.list = some p ∧ p.showable = true ∧ p.depth ≤ k + 1 ∧ p.shown.length + 2 ≤ 60 + us.sum := fun ds us hu => by
      obtain ⟨ps, g1, g2, g3, g4⟩ := wt_all (wt_ok hc k) ds us hu
      refine ⟨.list ps, by rw [g1]; rfl, by simpa [PyData.showable] using g2, by simp only [PyData.depth]; omega, ?_⟩
      simp only [PyData.shown]
      have := list_le (PyData.shownAll ps)
      omega
    cases d with
    | non => cases h; exact ⟨_, rfl, by simp [PyData.showable], by simp [PyData.depth], by decide +kernel⟩
    | bl b => cases h; exact ⟨_, rfl, by simp [PyData.showable], by simp [PyData.depth], by cases b <;> decide +kernel⟩
    | int i =>
      unfold wt at h
      split at h
      · rename_i hi
        cases h
        have hi' : i.natAbs < 10 ^ 41 := Nat.lt_of_le_of_lt hi (Nat.lt_of_le_of_lt (Nat.add_le_add_left hc _) (by decide +kernel))
        refine ⟨_, rfl, by simpa [PyData.showable] using log_small hi', by simp [PyData.depth], ?_⟩
        have := int_text_length_le10 (k := 41) (by decide) hi'
        simp only [PyData.shown]
        rw [ofString_length]
        omega
      · cases h
    | str x =>
      unfold wt at h
      split at h
      · rename_i hx
        cases h
        refine ⟨_, rfl, ?_, by simp [PyData.depth], ?_⟩
        · rcases hx with rfl | rfl | rfl <;> decide +kernel
        · rcases hx with rfl | rfl | rfl <;> decide +kernel
      · cases h
    | ty _ => cases h
    | rol _ => cases h
    | tup ds =>
      obtain ⟨us, hu, rfl⟩ := Option.map_eq_some_iff.mp h
      obtain ⟨ps, g1, g2, g3, g4⟩ := wt_all (wt_ok hc k) ds us hu
      refine ⟨.tuple ps, Option.map_eq_some_iff.mpr ⟨ps, g1, rfl⟩, by simpa [PyData.showable] using g2, by simp only [PyData.depth]; omega, ?_⟩
      simp only [PyData.shown]
      have := tuple_le (PyData.shownAll ps)
      omega
    | ref m =>
      unfold wt at h
      split at h
      · cases h
      · split at h
        · rename_i ds hm
          obtain ⟨us, hu, rfl⟩ := Option.map_eq_some_iff.mp h
          obtain ⟨p, g1, g2⟩ := lst ds us hu
          exact ⟨p, by unfold toR; rw [hm]; exact g1, g2⟩
        · rename_i hm
          cases h
          exact ⟨.dict [], by unfold toR; rw [hm], by decide +kernel, by simp [PyData.depth, PyData.depthKv], by decide +kernel⟩
        · cases h
end Mi.B

namespace Mi.B
open PySem PySem.Spec L2

theorem wt_mono {n : Nat} {S S' : Store} {c c' : Nat} (hS : ∀ (m : Nat) (x : Cell), m ≠ n → S[m]? = some x → S'[m]? = some x) (hc : c ≤ c') : ∀ (k k' : Nat) (d : D) (w : Nat), k ≤ k' → wt n S c k d = some w → wt n S' c' k' d = some w
  | 0, k', d, w, _, h => by cases h
  | k + 1, 0, d, w, hk, h => by omega
  | k + 1, k' + 1, d, w, hk, h => by
    have ih := fun d w => wt_mono hS hc k k' d w (by omega)
    cases d with
    | int i =>
      unfold wt at h ⊢
      split at h
      · rename_i hi
        rw [if_pos (Nat.le_trans hi (Nat.add_le_add_left hc _))]; exact h
      · cases h
    | tup ds =>
      obtain ⟨us, hu, rfl⟩ := Option.map_eq_some_iff.mp h
      exact Option.map_eq_some_iff.mpr ⟨us, optAll_mono ih ds us hu, rfl⟩
    | ref m =>
      unfold wt at h ⊢
      split at h
      · cases h
      · rename_i hm
        rw [if_neg hm]
        split at h
        · rename_i ds hd
          rw [hS m _ hm hd]
          obtain ⟨us, hu, rfl⟩ := Option.map_eq_some_iff.mp h
          exact Option.map_eq_some_iff.mpr ⟨us, optAll_mono ih ds us hu, rfl⟩
        · rename_i hd
          rw [hS m _ hm hd]; exact h
        · cases h
    | _ => exact h
theorem wt_ext {n : Nat} {S S' : Store} {c k : Nat} {d : D} {w : Nat} (e : Ext n S S') (h : wt n S c k d = some w) : wt n S' c k d = some w := wt_mono (fun _ _ hm hx => e.get hm hx) (Nat.le_refl _) k k d w (Nat.le_refl _) h
theorem wt_list {n : Nat} {S : Store} {c k b : Nat} : ∀ (ds : List D), (∀ x ∈ ds, ∃ w, wt n S c k x = some w ∧ w ≤ b) → ∃ ws, optAll (ds.map (wt n S c k)) = some ws ∧ ws.sum ≤ ds.length * b
  | [], _ => ⟨[], rfl, by simp⟩
  | d :: ds, h => by
    obtain ⟨w, h1, h2⟩ := h d (List.mem_cons_self ..)
    obtain ⟨ws, g1, g2⟩ := wt_list ds fun x hx => h x (List.mem_cons_of_mem _ hx)
    refine ⟨w :: ws, ?_, ?_⟩
    · rw [List.map_cons, h1]; unfold optAll; rw [g1]
    · simp only [List.sum_cons, List.length_cons, Nat.add_mul]; omega
theorem wt_tup {n : Nat} {S : Store} {c k b : Nat} {ds : List D} (h : ∀ x ∈ ds, ∃ w, wt n S c k x = some w ∧ w ≤ b) : ∃ w, wt n S c (k + 1) (.tup ds) = some w ∧ w ≤ 60 + ds.length * b := by
  obtain ⟨ws, g1, g2⟩ := wt_list ds h
  exact ⟨60 + ws.sum, Option.map_eq_some_iff.mpr ⟨ws, g1, rfl⟩, by omega⟩
theorem wt_int {n : Nat} {S : Store} {c k : Nat} {i : Int} (h : i.natAbs ≤ 10 ^ 40) : ∃ w, wt n S c (k + 1) (.int i) = some w ∧ w ≤ 60 := by
  refine ⟨60, ?_, Nat.le_refl _⟩
  unfold wt
  rw [if_pos (Nat.le_trans h (Nat.le_add_right _ _))]
def Val (n : Nat) (S : Store) (c : Nat) (d : D) : Prop := ∃ w, wt n S c 8 d = some w ∧ w + 500 ≤ 25500 * 2 ^ c
theorem Val.fine {n : Nat} {S : Store} {c : Nat} {d : D} (h : Val n S c d) (hc : c ≤ 2) : Fine S d := by
  obtain ⟨w, h, hw⟩ := h
  obtain ⟨p, h1, h2, h3, h4⟩ := wt_ok hc 8 d w h
  have hw' : w ≤ 102000 := by
    have : 25500 * 2 ^ c ≤ 25500 * 2 ^ 2 := Nat.mul_le_mul_left _ (Nat.pow_le_pow_right (by decide) hc)
    omega
  have up : ∀ (k : Nat) (d : D) (p : PyData), toR S k d = some p → toR S (k + 1) d = some p := by
    intro k
    induction k with
    | zero => intro d p h; cases h
    | succ k ih =>
      intro d p h
      cases d with
      | tup ds =>
        obtain ⟨ps, g, rfl⟩ := Option.map_eq_some_iff.mp h
        exact Option.map_eq_some_iff.mpr ⟨ps, optAll_mono ih ds ps g, rfl⟩
      | rol ds =>
        obtain ⟨ps, g, rfl⟩ := Option.map_eq_some_iff.mp h
        exact Option.map_eq_some_iff.mpr ⟨ps, optAll_mono ih ds ps g, rfl⟩
      | ref m =>
        unfold toR at h ⊢
        split at h
        · rename_i ds hd
          obtain ⟨ps, g, rfl⟩ := Option.map_eq_some_iff.mp h
          exact Option.map_eq_some_iff.mpr ⟨ps, optAll_mono ih ds ps g, rfl⟩
        · exact h
        · cases h
      | _ => exact h
  have ups : ∀ j, toR S (8 + j) d = some p := fun j => by
    induction j with
    | zero => exact h1
    | succ j ih => exact up _ _ _ ih
  refine ⟨p, ups 52, ?_⟩
  simp [okShow, h2]
  omega
theorem Val.ext {n : Nat} {S S' : Store} {c : Nat} {d : D} (h : Val n S c d) (e : Ext n S S') : Val n S' c d := by
  obtain ⟨w, h, hw⟩ := h
  exact ⟨w, wt_ext e h, hw⟩
theorem small_nat {i : Int} (h0 : 0 ≤ i) (h : i ≤ 3000) : i.natAbs ≤ 10 ^ 40 := Nat.le_trans (show i.natAbs ≤ 3000 by omega) (by decide +kernel)
theorem wt_row {n : Nat} {S : Store} {c k : Nat} {xs : List D} (hl : xs.length ≤ 10) (h : ∀ x ∈ xs, x = .non ∨ ∃ i, x = .int i ∧ 0 ≤ i ∧ i ≤ 3000) : ∃ w, wt n S c (k + 2) (.tup xs) = some w ∧ w ≤ 660 := by
  obtain ⟨w, h1, h2⟩ := wt_tup (n := n) (S := S) (c := c) (k := k + 1) (b := 60) (ds := xs) fun x hx => by
    rcases h x hx with rfl | ⟨i, rfl, h0, h1⟩
    · exact ⟨60, rfl, Nat.le_refl _⟩
    · exact wt_int (small_nat h0 h1)
  exact ⟨w, h1, by omega⟩
/-- a triple of ten rows, eight requests, a number -/
theorem val_shape {n : Nat} {S : Store} {rows reqs : List D} {v : D} (h1 : rows.length ≤ 10) (h2 : reqs.length ≤ 8) (hr : ∀ r ∈ rows ++ reqs, ∃ xs, r = .tup xs ∧ xs.length ≤ 10 ∧ ∀ x ∈ xs, x = .non ∨ ∃ i, x = .int i ∧ 0 ≤ i ∧ i ≤ 3000) (hv : ∃ i, v = .int i ∧ 0 ≤ i ∧ i ≤ 3000) : Val n S 0 (.tup [.tup rows, .tup reqs, v]) := by
  have row : ∀ r ∈ rows ++ reqs, ∃ w, wt n S 0 6 r = some w ∧ w ≤ 660 := fun r hm => by
    obtain ⟨xs, rfl, hl, hx⟩ := hr r hm
    exact wt_row hl hx
  obtain ⟨w1, a1, b1⟩ := wt_tup (ds := rows) fun r hm => row r (List.mem_append_left _ hm)
  obtain ⟨w2, a2, b2⟩ := wt_tup (ds := reqs) fun r hm => row r (List.mem_append_right _ hm)
  obtain ⟨i, rfl, i0, i1⟩ := hv
  obtain ⟨w3, a3, b3⟩ := wt_int (n := n) (S := S) (c := 0) (k := 6) (small_nat i0 i1)
  obtain ⟨w, h3, h4⟩ := wt_tup (n := n) (S := S) (c := 0) (k := 7) (b := 6660) (ds := [.tup rows, .tup reqs, .int i]) fun x hx => by
    simp only [List.mem_cons, List.not_mem_nil, or_false] at hx
    rcases hx with rfl | rfl | rfl
    · exact ⟨w1, a1, by omega⟩
    · exact ⟨w2, a2, by omega⟩
    · exact ⟨w3, a3, by omega⟩
  refine ⟨w, h3, ?_⟩
  simp at h4 ⊢
  omega
theorem row_shape {n s : Nat} {r : D} (h : RowP n s r) : ∃ xs, r = .tup xs ∧ xs.length = n ∧ ∀ x ∈ xs, x = .non ∨ ∃ i, x = .int i ∧ 0 ≤ i ∧ i ≤ 1000 := by
  obtain ⟨xs, rfl, hl, h⟩ := h
  refine ⟨xs, rfl, hl, fun x hx => ?_⟩
  obtain ⟨j, hj, e⟩ := List.getElem_of_mem hx
  obtain ⟨i, h1, h2, h3⟩ := h j (by omega)
  rw [List.getElem?_eq_getElem hj, e] at h1
  cases h1
  refine .inr ⟨i, rfl, ?_⟩
  by_cases z : j = s
  · have := h2 z; omega
  · have := h3 z; omega
theorem val_sys {n : Nat} {S : Store} {d : D} (h : SysP d) : Val n S 0 d := by
  obtain ⟨a, b, c, xs, rfl, rfl, ⟨ys, e, h1, h2, h3, _⟩, ⟨bs, rfl, h4, h5, h6⟩, h7⟩ := h
  cases e
  obtain ⟨i, rfl, i0, i1⟩ := isI_iff.mp h7
  refine val_shape h2 h5 (fun r hr => ?_) ⟨i, rfl, i0, by omega⟩
  rcases List.mem_append.mp hr with hr | hr
  · obtain ⟨j, hj, e⟩ := List.getElem_of_mem hr
    obtain ⟨r', g1, g2⟩ := h3 j hj
    rw [List.getElem?_eq_getElem hj, e] at g1
    cases g1
    obtain ⟨zs, rfl, hl, hx⟩ := row_shape g2
    refine ⟨zs, rfl, by omega, fun x hx' => ?_⟩
    rcases hx x hx' with z | ⟨i, z, z0, z1⟩
    · exact .inl z
    · exact .inr ⟨i, z, z0, by omega⟩
  · obtain ⟨zs, rfl, hl, hx, _⟩ := h6 r hr
    refine ⟨zs, rfl, by omega, fun x hx' => ?_⟩
    rcases hx x hx' with z | ⟨i, z, z0, z1⟩
    · exact .inl z
    · exact .inr ⟨i, z, z0, by omega⟩
end Mi.B

namespace Mi.B
open PySem PySem.Spec L2

theorem unrelatedW {S : Store} {n : Nat} (h : Strm n S) : wpR (f_law_unrelated [.ref n] S) fun d S' => (∃ w, wt n S' 0 4 d = some w ∧ w ≤ 420) ∧ Ext n S S' := by
  have hl := h.lt
  obtain ⟨A, hA, hA'⟩ : ∃ A : Int, (∀ S, powD (.int 10) (.int 39) S = .ok (.int A) S) ∧ A.natAbs ≤ 10 ^ 40 := by
    refine ⟨10 ^ 39, fun S => ?_, by decide +kernel⟩
    unfold powD intD
    simp only
    rw [if_pos (by decide +kernel)]
    rfl
  simp only [f_law_unrelated, b_law_unrelated, wp_run, wp_seq, wp_ifS]
  simp [hA]
  refine wpR_mono (drawT 17 rfl (str_app h _) (by decide) (by decide)) ?_
  rintro d S1 ⟨⟨r, rfl, hr⟩, x1, z1⟩
  have y1 := (Ext.app h _).trans x1
  generalize hI : ([D.non, D.bl true, D.bl false, D.int 0, D.int 1, D.int (-1), D.int 1001, D.str "", D.str "0", D.str "a", D.tup [], D.ref S.length, D.ref (S.length + 1), D.tup [D.int 0], D.tup [D.non], D.tup [D.tup [D.int 0, D.int 1], D.tup [D.int 1, D.int 0]], D.int A] : List D) = items at x1
  have e1 : S1[S.length + 2]? = some (.lst items) := x1.get (by omega) (by rw [List.getElem?_append_right (by omega)]; simp)
  have g1 : S1[S.length]? = some (.lst []) := x1.get (by omega) (by rw [List.getElem?_append_right (by omega)]; simp)
  have g2 : S1[S.length + 1]? = some (.dK []) := x1.get (by omega) (by rw [List.getElem?_append_right (by omega)]; simp)
  have n1 : ¬ S.length = n := by omega
  have n2 : ¬ S.length + 1 = n := by omega
  obtain ⟨wA, a1, a2⟩ := wt_int (n := n) (S := S1) (c := 0) (k := 3) hA'
  have all : ∀ y ∈ items, ∃ w, wt n S1 0 4 y = some w ∧ w ≤ 420 := by
    intro y hy
    rw [← hI] at hy
    simp only [List.mem_cons, List.not_mem_nil, or_false] at hy
    rcases hy with rfl | rfl | rfl | rfl | rfl | rfl | rfl | rfl | rfl | rfl | rfl | rfl | rfl | rfl | rfl | rfl | rfl
    all_goals first
      | exact ⟨wA, a1, by omega⟩
      | (refine ⟨60, ?_, by decide⟩; simp [wt, optAll, g1, g2, n1, n2]; done)
      | (refine ⟨120, ?_, by decide⟩; simp [wt, optAll, g1, g2, n1, n2]; done)
      | (refine ⟨420, ?_, by decide⟩; simp [wt, optAll, g1, g2, n1, n2]; done)
  have hlen : items.length = 17 := by rw [← hI]; rfl
  have hat : atI items (r : Int) = some items[r] := by rw [atI_nat' (by omega), List.getElem?_eq_getElem]
  simp [e1, hat]
  exact ⟨all _ (List.getElem_mem _), y1⟩
theorem sIx_mid {len d j : Nat} (h : j ≤ len) : HT.sIx len d (some (j : Int)) = j := by
  rw [HT.sIx_nat]
  omega
theorem cut_to {xs : List D} {j : Nat} (h : j ≤ xs.length) : cutD xs none (some (j : Int)) = xs.take j := by
  unfold cutD
  rw [sIx_mid h]
  simp [HT.sIx]
theorem cut_from {xs : List D} {j : Nat} {z : Int} (hz : z = (j : Int)) (h : j ≤ xs.length) : cutD xs (some z) none = xs.drop j := by
  unfold cutD
  rw [hz, sIx_mid h]
  simp [HT.sIx]
  exact List.take_of_length_le (by simp)
theorem sl_to {xs : List D} {j : Nat} {S : Store} (h : j ≤ xs.length) : slD (.tup xs) none (some (j : Int)) S = .ok (.tup (xs.take j)) S := by
  show R.ok (D.tup (cutD xs none (some (j : Int)))) S = _
  rw [cut_to h]
theorem sl_from {xs : List D} {j : Nat} {z : Int} {S : Store} (hz : z = (j : Int)) (h : j ≤ xs.length) : slD (.tup xs) (some z) none S = .ok (.tup (xs.drop j)) S := by
  show R.ok (D.tup (cutD xs (some z) none)) S = _
  rw [cut_from hz h]
end Mi.B

namespace Mi.B
open PySem PySem.Spec L2

def Wl (n : Nat) (S : Store) (c k : Nat) (ds : List D) (s : Nat) : Prop := ∃ ws, optAll (ds.map (wt n S c k)) = some ws ∧ ws.sum = s
section
variable {n : Nat} {S : Store} {c k : Nat}
theorem Wl.nil : Wl n S c k [] 0 := ⟨[], rfl, rfl⟩
theorem Wl.cons {d : D} {ds : List D} {w s : Nat} (h : wt n S c k d = some w) (t : Wl n S c k ds s) : Wl n S c k (d :: ds) (w + s) := by
  obtain ⟨ws, g1, g2⟩ := t
  refine ⟨w :: ws, ?_, by simp [g2]⟩
  rw [List.map_cons, h]; unfold optAll; rw [g1]
theorem Wl.inv {d : D} {ds : List D} {s : Nat} (t : Wl n S c k (d :: ds) s) : ∃ w s', wt n S c k d = some w ∧ Wl n S c k ds s' ∧ s = w + s' := by
  obtain ⟨ws, g1, g2⟩ := t
  rw [List.map_cons] at g1
  cases hd : wt n S c k d with
  | none => rw [hd] at g1; cases g1
  | some w =>
    rw [hd] at g1
    unfold optAll at g1
    split at g1
    · rename_i us hu
      cases g1
      exact ⟨w, us.sum, rfl, ⟨us, hu, rfl⟩, by rw [← g2]; simp⟩
    · cases g1
theorem Wl.append : ∀ {a b : List D} {s t : Nat}, Wl n S c k a s → Wl n S c k b t → Wl n S c k (a ++ b) (s + t)
  | [], b, s, t, h, g => by
    obtain ⟨ws, h1, h2⟩ := h
    cases h1
    have : s = 0 := by rw [← h2]; rfl
    rw [this, Nat.zero_add]; exact g
  | d :: a, b, s, t, h, g => by
    obtain ⟨w, s', h1, h2, rfl⟩ := h.inv
    rw [Nat.add_assoc]
    exact (h2.append g).cons h1
theorem Wl.split : ∀ {a b : List D} {s : Nat}, Wl n S c k (a ++ b) s → ∃ s1 s2, Wl n S c k a s1 ∧ Wl n S c k b s2 ∧ s = s1 + s2
  | [], b, s, h => ⟨0, s, .nil, h, by omega⟩
  | d :: a, b, s, h => by
    obtain ⟨w, s', h1, h2, rfl⟩ := h.inv
    obtain ⟨s1, s2, g1, g2, rfl⟩ := Wl.split h2
    exact ⟨w + s1, s2, g1.cons h1, g2, by omega⟩
theorem Wl.reverse : ∀ {a : List D} {s : Nat}, Wl n S c k a s → Wl n S c k a.reverse s
  | [], s, h => h
  | d :: a, s, h => by
    obtain ⟨w, s', h1, h2, rfl⟩ := h.inv
    rw [List.reverse_cons]
    have := h2.reverse.append (Wl.nil.cons h1)
    rw [show w + s' = s' + (w + 0) by omega]; exact this
theorem wt_ge : ∀ {d : D} {w : Nat}, wt n S c k d = some w → 60 ≤ w := by
  intro d w h
  cases k with
  | zero => cases h
  | succ k =>
    cases d with
    | int i => unfold wt at h; split at h <;> cases h; exact Nat.le_refl _
    | str x => unfold wt at h; split at h <;> cases h; exact Nat.le_refl _
    | tup ds => obtain ⟨us, _, rfl⟩ := Option.map_eq_some_iff.mp h; omega
    | ref m =>
      unfold wt at h
      split at h
      · cases h
      · split at h
        · obtain ⟨us, _, rfl⟩ := Option.map_eq_some_iff.mp h; omega
        · cases h; exact Nat.le_refl _
        · cases h
    | ty _ => cases h
    | rol _ => cases h
    | non => cases h; exact Nat.le_refl _
    | bl _ => cases h; exact Nat.le_refl _
theorem Wl.len : ∀ {a : List D} {s : Nat}, Wl n S c k a s → 60 * a.length ≤ s
  | [], s, h => by simp
  | d :: a, s, h => by
    obtain ⟨w, s', h1, h2, rfl⟩ := h.inv
    have := wt_ge h1
    have := h2.len
    simp only [List.length_cons]; omega
theorem wt_of_Wl {ds : List D} {s : Nat} (h : Wl n S c k ds s) : wt n S c (k + 1) (.tup ds) = some (60 + s) := by
  obtain ⟨ws, g1, rfl⟩ := h
  exact Option.map_eq_some_iff.mpr ⟨ws, g1, rfl⟩
theorem Wl_of_wt {ds : List D} {w : Nat} (h : wt n S c (k + 1) (.tup ds) = some w) : ∃ s, Wl n S c k ds s ∧ w = 60 + s := by
  obtain ⟨us, hu, rfl⟩ := Option.map_eq_some_iff.mp h
  exact ⟨us.sum, ⟨us, hu, rfl⟩, rfl⟩
theorem Wl.mono {S' : Store} {c' k' : Nat} {ds : List D} {s : Nat} (e : Ext n S S') (hc : c ≤ c') (hk : k ≤ k') (h : Wl n S c k ds s) : Wl n S' c' k' ds s := by
  obtain ⟨ws, g1, g2⟩ := h
  exact ⟨ws, optAll_mono (fun d w z => wt_mono (fun _ _ hm hx => e.get hm hx) hc k k' d w hk z) ds ws g1, g2⟩
theorem Wl.take {a : List D} {s j : Nat} (h : Wl n S c k a s) : ∃ s1 s2, Wl n S c k (a.take j) s1 ∧ Wl n S c k (a.drop j) s2 ∧ s = s1 + s2 := by
  rw [← List.take_append_drop j a] at h
  exact h.split
end
theorem eqB_unit {S : Store} {ds : List D} : eqB S (.tup ds) (.tup []) = some (decide (ds.length = 0)) := rfl
end Mi.B

namespace Mi.B
open PySem PySem.Spec L2

theorem sl_drop {xs : List D} {j : Nat} {z : Int} {S : Store} (hz : z = (j : Int)) : slD (.tup xs) (some z) none S = .ok (.tup (xs.drop j)) S := by
  show R.ok (D.tup (cutD xs (some z) none)) S = _
  have : cutD xs (some z) none = xs.drop j := by
    unfold cutD
    rw [hz, HT.sIx_nat, HT.sIx_none]
    rcases Nat.le_total j xs.length with h | h
    · rw [Nat.min_eq_left h]; exact List.take_of_length_le (by simp)
    · rw [Nat.min_eq_right h, List.drop_eq_nil_of_le h]; simp
  rw [this]
theorem sl_mid {xs : List D} {j : Nat} {z y : Int} (hz : z = (j : Int)) (hy : y = (j : Int) + 1) : ∃ m, ∀ S : Store, slD (.tup xs) (some z) (some y) S = .ok (.tup ((xs.drop j).take m)) S := by
  refine ⟨HT.sIx xs.length xs.length (some y) - HT.sIx xs.length 0 (some z), fun S => ?_⟩
  show R.ok (D.tup (cutD xs (some z) (some y))) S = _
  unfold cutD
  rw [show HT.sIx xs.length 0 (some z) = min j xs.length by rw [hz, HT.sIx_nat]]
  rcases Nat.le_total j xs.length with h | h
  · rw [Nat.min_eq_left h]
  · rw [Nat.min_eq_right h, List.drop_eq_nil_of_le h, List.drop_eq_nil_of_le (Nat.le_refl _)]
theorem dmg : ∀ (fu deep : Nat) {S : Store} {n c k w : Nat} {d : D}, deep < fu → Strm n S → 5 + deep ≤ k → wt n S c k d = some w → w ≤ 1000000 →
    wpR (f_law_damaged fu [.ref n, d, .int deep] S) fun d' S' => (∃ w', wt n S' (c + 1) k d' = some w' ∧ w' ≤ 2 * w + 420) ∧ Ext n S S'
  | 0, deep, S, n, c, k, w, d, hf, _, _, _, _ => by omega
  | fu + 1, deep, S, n, c, k, w, d, hf, hs, hk, hw, hz => by
    have unr : ∀ S1, Ext n S S1 → wpR (f_law_unrelated [.ref n] S1) fun d' S' => (∃ w', wt n S' (c + 1) k d' = some w' ∧ w' ≤ 2 * w + 420) ∧ Ext n S S' := fun S1 x1 => by
      refine wpR_mono (unrelatedW x1.1) ?_
      rintro d' S' ⟨⟨w', h1, h2⟩, x2⟩
      exact ⟨⟨w', wt_mono (fun _ _ _ h => h) (Nat.zero_le _) 4 k d' w' (by omega) h1, by omega⟩, x1.trans x2⟩
    unfold f_law_damaged
    simp only [b_law_damaged, wp_run, wp_seq, wp_ifS]
    simp
    refine wpR_mono (drawT 8 rfl hs (by decide) (by decide)) ?_
    rintro dw S1 ⟨⟨way, rfl, hway⟩, x1, _⟩
    have addT : ∀ (x y : List D) (S : Store), x.length + y.length ≤ 1000000 → addD (.tup x) (.tup y) S = .ok (.tup (x ++ y)) S := fun x y S h => by
      rw [add_tup, if_pos h]
    cases d with
    | tup ds =>
      obtain ⟨k, rfl⟩ : ∃ k', k = k' + 1 := ⟨k - 1, by omega⟩
      obtain ⟨s, hl, rfl⟩ := Wl_of_wt hw
      have hlen := hl.len
      simp [isiT, eqB_unit]
      have hB : wpR (match !decide (ds = []) with
          | true => match decide (0 < deep) with
            | true => R.ok (decide ((way : Int) < 5)) S1
            | false => R.ok false S1
          | false => R.ok false S1) (fun b S' => S' = S1 ∧ (b = true → ds ≠ [] ∧ 0 < deep)) := by
        by_cases h1 : ds = []
        · simp [h1]
        · by_cases h2 : 0 < deep
          · simp [h1, h2]
          · simp [h1, h2]
      refine wpR_mono hB ?_
      rintro b S2 ⟨rfl, hb⟩
      cases b with
      | true =>
        obtain ⟨hne, hd⟩ := hb rfl
        rw [if_pos rfl]
        refine wpR_mono (drawT ds.length rfl x1.1 (List.length_pos_iff.mpr hne) (by omega)) ?_
        rintro dj S3 ⟨⟨j, rfl, hj⟩, x3, _⟩
        have x13 := x1.trans x3
        have hat : atI ds (j : Int) = some ds[j] := by rw [atI_nat' hj, List.getElem?_eq_getElem hj]
        obtain ⟨s1, s2, t1, t2, hs12⟩ := hl.take (j := j)
        rw [List.drop_eq_getElem_cons hj] at t2
        obtain ⟨wy, s3, hy, t3, hs23⟩ := t2.inv
        have cd : (deep : Int) - 1 = ((deep - 1 : Nat) : Int) := by omega
        simp only [wp_ok, sl_to (show j ≤ ds.length by omega), ix_tup_ap, hat, cd]
        refine wpR_mono (dmg fu (deep - 1) (by omega) x13.1 (show 5 + (deep - 1) ≤ k by omega) (wt_ext x13 hy) (by omega)) ?_
        rintro y' S4 ⟨⟨wy', h1, h2⟩, x4⟩
        have x14 := x13.trans x4
        have l1 : (ds.take j).length ≤ ds.length := by simp; omega
        have l2 : (ds.drop (j + 1)).length ≤ ds.length := by simp
        rw [addT _ _ _ (by simp; omega), wp_ok, add_int, wp_ok]
        simp only [wp_ok]
        rw [sl_drop (j := j + 1) (by omega), wp_ok, addT _ _ _ (by simp; omega), wp_ok]
        have e1 := (t1.mono x14 (Nat.le_succ c) (Nat.le_refl k)).append (Wl.nil.cons h1)
        have e2 := e1.append (t3.mono x14 (Nat.le_succ c) (Nat.le_refl k))
        exact ⟨⟨_, wt_of_Wl e2, by omega⟩, x14⟩
      | false =>
        rw [if_neg (by decide)]
        refine wpR_mono (drawT (ds.length + 1) (by omega) x1.1 (by omega) (by omega)) ?_
        rintro dj S3 ⟨⟨j, rfl, hj⟩, x3, _⟩
        have x13 := x1.trans x3
        simp only [wp_ok, lstOfD, add_int]
        obtain ⟨m, hm⟩ : ∃ m, ∀ S, slD (.tup ds) (some (j : Int)) (some ((j : Int) + 1)) S = .ok (.tup ((ds.drop j).take m)) S := sl_mid (j := j) rfl rfl
        simp only [wp_ok, sl_to (show j ≤ ds.length by omega), sl_drop (show (j : Int) = (j : Nat) from rfl), sl_drop (show (j : Int) + 1 = ((j + 1 : Nat) : Int) by omega), hm]
        have lt1 : (ds.take j).length ≤ ds.length := by simp; omega
        have lt2 : (ds.drop (j + 1)).length ≤ ds.length := by simp
        have lt3 : ((ds.drop j).take m).length ≤ ds.length := by simp; omega
        have lt4 : (ds.drop j).length ≤ ds.length := by simp
        rw [addT _ _ _ (by omega), wp_ok, addT _ _ _ (by omega), wp_ok, addT _ _ _ (by rw [List.length_append]; omega), wp_ok]
        have hn3 : n < S3.length := x13.1.lt
        refine wpR_mono (unrelatedW (str_app (str_app x13.1 _) _)) ?_
        rintro o S4 ⟨⟨wo, o1, o2⟩, x4⟩
        rw [if_pos (by omega), wp_ok, addT _ _ _ (by simp; omega), wp_ok, addT _ _ _ (by rw [List.length_append]; simp; omega), wp_ok]
        generalize hfour : ([D.ref S3.length, D.tup (ds.take j ++ ds.drop (j + 1)), D.tup (ds.take j ++ (ds.drop j).take m ++ ds.drop j), D.tup ds.reverse] : List D) = four at x4 ⊢
        generalize htwo : ([D.tup (ds ++ [o]), D.tup (ds.take j ++ [o] ++ ds.drop (j + 1))] : List D) = two
        have g1 : S4[(S3 ++ [Cell.lst ds]).length]? = some (.lst four) := x4.get (by simp; omega) get_last
        have g2 : S4[S3.length]? = some (.lst ds) := x4.get (by omega) (by rw [List.getElem?_append_left (by simp)]; exact get_last)
        have g3 : (S4 ++ [Cell.lst two])[(S3 ++ [Cell.lst ds]).length]? = some (.lst four) := (Sub.app S4 _).1 _ _ g1
        have g4 : (S4 ++ [Cell.lst two])[S4.length]? = some (.lst two) := get_last
        have hadd : addD (.ref (S3 ++ [Cell.lst ds]).length) (.ref S4.length) (S4 ++ [Cell.lst two]) = .ok (.ref (S4 ++ [Cell.lst two]).length) (S4 ++ [Cell.lst two] ++ [.lst (four ++ two)]) := by
          unfold addD
          simp only [g3, g4]
          rw [if_pos (by rw [← hfour, ← htwo]; simp)]
        rw [hadd, wp_ok]
        have x04 : Ext n S S4 := x13.trans (((Ext.app x13.1 _).trans (Ext.app (str_app x13.1 _) _)).trans x4)
        have xT : Ext n S4 (S4 ++ [Cell.lst two] ++ [.lst (four ++ two)]) := (Ext.app x4.1 _).trans (Ext.app (str_app x4.1 _) _)
        refine wpR_mono (drawT 6 rfl xT.1 (by decide) (by decide)) ?_
        rintro dr S5 ⟨⟨r, rfl, hr⟩, x5, _⟩
        have x45 := xT.trans x5
        have xx : Ext n S S5 := x04.trans x45
        have g5 : S5[(S4 ++ [Cell.lst two]).length]? = some (.lst (four ++ two)) := x5.get (by have := x4.1.lt; simp; omega) get_last
        have g6 : S5[S3.length]? = some (.lst ds) := x45.get (by omega) g2
        have hl' : Wl n S5 (c + 1) k ds s := hl.mono xx (Nat.le_succ c) (Nat.le_refl k)
        have ho : wt n S5 (c + 1) k o = some wo := wt_mono (fun _ _ hm hx => x45.get hm hx) (Nat.zero_le _) 4 k o wo (by omega) o1
        obtain ⟨s1, s2, t1, t2, e12⟩ := hl'.take (j := j)
        obtain ⟨s3, s4, t3, t4, e34⟩ := hl'.take (j := j + 1)
        obtain ⟨s5, s6, t5, _, e56⟩ := t2.take (j := m)
        have hs4 : s4 ≤ s := by omega
        have all : ∀ y ∈ four ++ two, ∃ w', wt n S5 (c + 1) (k + 1) y = some w' ∧ w' ≤ 2 * (60 + s) + 420 := by
          intro y hy
          rw [← hfour, ← htwo] at hy
          simp only [List.mem_append, List.mem_cons, List.not_mem_nil, or_false] at hy
          rcases hy with (rfl | rfl | rfl | rfl) | (rfl | rfl)
          · obtain ⟨ws, w1, w2⟩ := hl'
            refine ⟨60 + s, ?_, by omega⟩
            unfold wt
            rw [if_neg (by omega), g6]
            simp only [w1, ← w2]
            rfl
          · exact ⟨_, wt_of_Wl (t1.append t4), by omega⟩
          · exact ⟨_, wt_of_Wl ((t1.append t5).append t2), by omega⟩
          · exact ⟨_, wt_of_Wl hl'.reverse, by omega⟩
          · exact ⟨_, wt_of_Wl (hl'.append (Wl.nil.cons ho)), by omega⟩
          · exact ⟨_, wt_of_Wl ((t1.append (Wl.nil.cons ho)).append t4), by omega⟩
        have hr6 : r < (four ++ two).length := by rw [← hfour, ← htwo]; exact hr
        have hat : atI (four ++ two) (r : Int) = some (four ++ two)[r] := by rw [atI_nat' hr6, List.getElem?_eq_getElem hr6]
        rw [ix_ref_ap, g5]
        simp only [hat, wp_ok]
        exact ⟨all _ (List.getElem_mem _), xx⟩
    | int i =>
      simp [isiT]
      by_cases h6 : (way : Int) < 6
      · simp [h6]
        cases k with
        | zero => cases hw
        | succ k =>
          unfold wt at hw
          split at hw
          · rename_i hi
            cases hw
            have hw6 : way = 0 ∨ way = 1 ∨ way = 2 ∨ way = 3 ∨ way = 4 ∨ way = 5 := by omega
            have ii : ∀ z : Int, z.natAbs ≤ i.natAbs + 1 ∨ z.natAbs ≤ 3000 → wt n (S1 ++ [Cell.lst [D.int (i + 1), D.int (i - 1), D.non, D.int 1000, D.int 1001, D.int 0]]) (c + 1) (k + 1) (.int z) = some 60 := fun z hz => by
              unfold wt
              rw [if_pos]
              have : 3000 ≤ 10 ^ 40 := by decide +kernel
              omega
            have x2 := x1.appR [Cell.lst [D.int (i + 1), D.int (i - 1), D.non, D.int 1000, D.int 1001, D.int 0]]
            have at0 : ∀ (v : Nat) (y : D), [D.int (i + 1), D.int (i - 1), D.non, D.int 1000, D.int 1001, D.int 0][v]? = some y → atI [D.int (i + 1), D.int (i - 1), D.non, D.int 1000, D.int 1001, D.int 0] (v : Int) = some y := fun v y h => by
              rw [atI_nat' (by rw [List.getElem?_eq_some_iff] at h; exact h.choose), h]
            rcases hw6 with rfl | rfl | rfl | rfl | rfl | rfl
            · rw [at0 0 _ rfl]; simp only [wp_ok]; exact ⟨⟨60, ii _ (by omega), by omega⟩, x2⟩
            · rw [at0 1 _ rfl]; simp only [wp_ok]; exact ⟨⟨60, ii _ (by omega), by omega⟩, x2⟩
            · rw [at0 2 _ rfl]; simp only [wp_ok]; exact ⟨⟨60, rfl, by omega⟩, x2⟩
            · rw [at0 3 _ rfl]; simp only [wp_ok]; exact ⟨⟨60, ii _ (by omega), by omega⟩, x2⟩
            · rw [at0 4 _ rfl]; simp only [wp_ok]; exact ⟨⟨60, ii _ (by omega), by omega⟩, x2⟩
            · rw [at0 5 _ rfl]; simp only [wp_ok]; exact ⟨⟨60, ii _ (by omega), by omega⟩, x2⟩
          · cases hw
      · simp [h6]
        exact unr S1 x1
    | ref m =>
      have ht : ∃ t, tnOf (.ref m) S1 = some t ∧ (t = .lst ∨ t = .dct) := by
        cases k with
        | zero => cases hw
        | succ k =>
          unfold wt at hw
          split at hw
          · cases hw
          · rename_i hm
            split at hw
            · rename_i ds hd
              exact ⟨.lst, by show (match (S1[m]? : Option Cell) with | some (.lst _) => some Tn.lst | some (.dK _) => some .dct | some (.dT _) => some .dct | _ => none) = _; rw [x1.get hm hd], .inl rfl⟩
            · rename_i hd
              exact ⟨.dct, by show (match (S1[m]? : Option Cell) with | some (.lst _) => some Tn.lst | some (.dK _) => some .dct | some (.dT _) => some .dct | _ => none) = _; rw [x1.get hm hd], .inr rfl⟩
            · cases hw
      obtain ⟨t, ht, rfl | rfl⟩ := ht <;> · simp [isiT, ht]; exact unr S1 x1
    | ty _ => cases k <;> cases hw
    | rol _ => cases k <;> cases hw
    | _ => simp [isiT]; exact unr S1 x1
theorem unrelated {S : Store} {n : Nat} (h : Strm n S) : wpR (f_law_unrelated [.ref n] S) fun d S' => Val n S' 0 d ∧ Ext n S S' := by
  refine wpR_mono (unrelatedW h) ?_
  rintro d S' ⟨⟨w, h1, h2⟩, x⟩
  exact ⟨⟨w, wt_mono (fun _ _ _ h => h) (Nat.le_refl _) 4 8 d w (by decide) h1, by omega⟩, x⟩
theorem damaged {S : Store} {n c : Nat} {d : D} (h : Strm n S) (v : Val n S c d) (hc : c ≤ 1) : wpR (f_law_damaged 5 [.ref n, d, .int 3] S) fun d' S' => Val n S' (c + 1) d' ∧ Ext n S S' := by
  obtain ⟨w, h1, h2⟩ := v
  have hw : w ≤ 1000000 := by
    have : 25500 * 2 ^ c ≤ 25500 * 2 ^ 1 := Nat.mul_le_mul_left _ (Nat.pow_le_pow_right (by decide) hc)
    omega
  refine wpR_mono (dmg 5 3 (by decide) h (by decide) h1 hw) ?_
  rintro d' S' ⟨⟨w', h3, h4⟩, x⟩
  refine ⟨⟨w', h3, ?_⟩, x⟩
  have : 25500 * 2 ^ (c + 1) = 2 * (25500 * 2 ^ c) := by rw [Nat.pow_succ]; omega
  omega
end Mi.B

namespace Mi.B
open PySem PySem.Spec L2

/-! ### stores that only grow -/
def Gr (S S' : Store) : Prop := ∃ J, S' = S ++ J
theorem Gr.refl (S : Store) : Gr S S := ⟨[], by simp⟩
theorem Gr.trans {A B C : Store} (h : Gr A B) (i : Gr B C) : Gr A C := by
  obtain ⟨J, rfl⟩ := h
  obtain ⟨J', rfl⟩ := i
  exact ⟨J ++ J', by simp⟩
theorem Gr.app (S J : Store) : Gr S (S ++ J) := ⟨J, rfl⟩
theorem Gr.appR {S T : Store} (h : Gr S T) (J : Store) : Gr S (T ++ J) := h.trans (Gr.app T J)
theorem Gr.len {S S' : Store} (h : Gr S S') : S.length ≤ S'.length := by
  obtain ⟨J, rfl⟩ := h; simp
theorem Gr.get {S S' : Store} (h : Gr S S') {m : Nat} {c : Cell} (e : S[m]? = some c) : S'[m]? = some c := by
  obtain ⟨J, rfl⟩ := h
  have hm : m < S.length := by rw [List.getElem?_eq_some_iff] at e; exact e.choose
  rw [List.getElem?_append_left hm]; exact e
theorem Gr.sub {S S' : Store} (h : Gr S S') : Sub S S' := by
  obtain ⟨J, rfl⟩ := h; exact Sub.app S J
theorem Gr.ext {n : Nat} {S S' : Store} (h : Gr S S') (s : Strm n S) : Ext n S S' := by
  obtain ⟨J, rfl⟩ := h; exact Ext.app s J
theorem Gr.strm {n : Nat} {S S' : Store} (h : Gr S S') (s : Strm n S) : Strm n S' := (h.ext s).1
theorem Gr.live {S S' : Store} {d : D} (h : Gr S S') (l : Live S d) : Live S' d := l.sub h.sub
theorem Gr.fine {S S' : Store} {d : D} (h : Gr S S') (l : Fine S d) : Fine S' d := l.sub h.sub
theorem Gr.last (S : Store) (c : Cell) (J : Store) : (S ++ c :: J)[S.length]? = some c := by simp

/-! ### a comprehension whose parts only grow the store -/
theorem wp_lcP {t : MT} {tt : MB} {el : ME} {vs : List Nat} {gs : Gs} {e : Vs} {Q : D → Store → Prop} {ds : List D} {S : Store} (f : D → Option D) (hz : ds.length ≤ 1000000) (hc : ∀ S', Gr S S' → chk gs S' = true)
    (step : ∀ d S1, d ∈ ds → Gr S S1 → wpR (t d (wipeE e vs) S1) fun e1 S2 => wpR (tt e1 S2) fun b S3 => match b with
      | true => wpR (el e1 S3) fun y S4 => Gr S1 S4 ∧ f d = some y
      | false => Gr S1 S3 ∧ f d = none)
    (fin : ∀ J, Q (.ref S.length) (S ++ .lst (ds.filterMap f) :: J)) : wpR (lcS t tt el vs gs S.length e ds (S ++ [.lst []])) Q := by
  refine wp_lc (fun k acc S' => (∃ J, S' = S ++ .lst acc :: J) ∧ acc = (ds.take k).filterMap f) ⟨⟨[], rfl⟩, rfl⟩ get_last hz (fun k acc S' h => by obtain ⟨⟨J, rfl⟩, _⟩ := h; exact hc _ (Gr.app S _)) ?_ ?_
  · rintro k d acc S' hd hs ⟨⟨J, rfl⟩, ha⟩
    refine wpR_mono (step d _ (List.mem_of_getElem? hd) (Gr.app S _)) fun e1 S2 q => wpR_mono q fun b S3 q => ?_
    have tk : ds.take (k + 1) = ds.take k ++ [d] := by rw [List.take_add_one, hd]; rfl
    cases b with
    | true =>
      refine wpR_mono q fun y S4 q => ?_
      obtain ⟨g, hy⟩ := q
      refine ⟨g.get hs, ?_, ?_⟩
      · obtain ⟨J', rfl⟩ := g
        refine ⟨J ++ J', ?_⟩
        rw [List.append_assoc, List.set_append_right _ _ (Nat.le_refl _)]
        simp
      · rw [tk, List.filterMap_append, ← ha]; simp [hy]
    | false =>
      obtain ⟨g, hy⟩ := q
      refine ⟨g.get hs, ?_, ?_⟩
      · obtain ⟨J', rfl⟩ := g
        exact ⟨J ++ J', by simp⟩
      · rw [tk, List.filterMap_append, ← ha]; simp [hy]
  · rintro acc S' hs ⟨⟨J, rfl⟩, ha⟩
    rw [List.take_length] at ha
    subst ha
    exact fin J
/-- .. that keeps all -/
theorem wp_lcM {t : MT} {el : ME} {vs : List Nat} {gs : Gs} {e : Vs} {Q : D → Store → Prop} {ds : List D} {S : Store} (f : D → D) (hz : ds.length ≤ 1000000) (hc : ∀ S', Gr S S' → chk gs S' = true)
    (step : ∀ d S1, d ∈ ds → Gr S S1 → wpR (t d (wipeE e vs) S1) fun e1 S2 => wpR (el e1 S2) fun y S4 => Gr S1 S4 ∧ y = f d)
    (fin : ∀ J, Q (.ref S.length) (S ++ .lst (ds.map f) :: J)) : wpR (lcS t yesB el vs gs S.length e ds (S ++ [.lst []])) Q := by
  refine wp_lcP (fun d => some (f d)) hz hc (fun d S1 h g => wpR_mono (step d S1 h g) fun e1 S2 q => ?_) ?_
  · rw [yesB_ap, wp_ok]
    exact wpR_mono q fun y S4 ⟨g, e⟩ => ⟨g, by rw [e]⟩
  · rw [List.filterMap_eq_map']; exact fin
end Mi.B

namespace Mi.B
open PySem PySem.Spec L2

/-! ### systems as functions -/
def tabl (n : Nat) (g : Nat → D) : List D := (List.range n).map g
@[simp] theorem tabl_len (n : Nat) (g : Nat → D) : (tabl n g).length = n := by simp [tabl]
theorem tabl_get {n i : Nat} {g : Nat → D} (h : i < n) : (tabl n g)[i]? = some (g i) := by simp [tabl, h]
theorem tabl_at {n i : Nat} {g : Nat → D} (h : i < n) : atI (tabl n g) (i : Int) = some (g i) := by
  rw [atI_nat' (by simpa using h), tabl_get h]
theorem tabl_mem {n : Nat} {g : Nat → D} {d : D} (h : d ∈ tabl n g) : ∃ i, i < n ∧ d = g i := by
  simp [tabl] at h
  obtain ⟨i, hi, e⟩ := h
  exact ⟨i, hi, e.symm⟩
theorem tabl_of {n : Nat} {xs : List D} (hl : xs.length = n) {g : Nat → D} (h : ∀ i < n, xs[i]? = some (g i)) : xs = tabl n g := by
  apply List.ext_getElem?
  intro i
  rcases Nat.lt_or_ge i n with z | z
  · rw [h i z, tabl_get z]
  · rw [List.getElem?_eq_none (by omega), List.getElem?_eq_none (by simp; omega)]
def optD : Option Int → D
  | none => .non
  | some i => .int i
structure SysF where
  n : Nat
  m : Nat
  sw : Nat → Nat → Int
  rc : Nat → Nat → Option Int
  st : Nat
def SysF.rowD (s : SysF) (i : Nat) : D := .tup (tabl s.n fun j => .int (s.sw i j))
def SysF.tabD (s : SysF) : D := .tup (tabl s.n s.rowD)
def SysF.reqD (s : SysF) (r : Nat) : D := .tup (tabl s.n fun i => optD (s.rc r i))
def SysF.reqsD (s : SysF) : D := .tup (tabl s.m s.reqD)
def SysF.d (s : SysF) : D := .tup [s.tabD, s.reqsD, .int s.st]
structure SysF.Ok (s : SysF) : Prop where
  n2 : 2 ≤ s.n
  n10 : s.n ≤ 10
  m1 : 1 ≤ s.m
  m8 : s.m ≤ 8
  st : s.st < s.n
  diag : ∀ i < s.n, s.sw i i = 0
  pos : ∀ i < s.n, ∀ j < s.n, i ≠ j → 1 ≤ s.sw i j
  le : ∀ i < s.n, ∀ j < s.n, s.sw i j ≤ 1000
  tri : ∀ i < s.n, ∀ j < s.n, ∀ k < s.n, s.sw i k ≤ s.sw i j + s.sw j k
  rc : ∀ r < s.m, ∀ i < s.n, ∀ c, s.rc r i = some c → 0 ≤ c ∧ c ≤ 1000
  some_ : ∀ r < s.m, ∃ i < s.n, (s.rc r i).isSome
theorem SysF.Ok.nonneg {s : SysF} (h : s.Ok) : ∀ i < s.n, ∀ j < s.n, 0 ≤ s.sw i j := fun i hi j hj => by
  by_cases e : i = j
  · subst e; rw [h.diag i hi]; exact Int.le_refl _
  · have := h.pos i hi j hj e; omega
theorem cell_tab (s : SysF) {i j : Nat} (hi : i < s.n) (hj : j < s.n) : cell (tabl s.n s.rowD) i j = s.sw i j := by
  unfold cell
  rw [tabl_get hi]
  simp only [SysF.rowD, tabl_get hj]
def cellO (xs : List D) (r i : Nat) : Option Int := match xs[r]? with
  | some (.tup ys) => match ys[i]? with
    | some (.int c) => some c
    | _ => none
  | _ => none
theorem SysP.get {d : D} (h : SysP d) : ∃ s : SysF, s.Ok ∧ d = s.d := by
  obtain ⟨a, b, c, xs, rfl, rfl, ⟨xs', hx', h2, h10, hrow, htri⟩, ⟨ys, rfl, g1, g8, hreq⟩, hc⟩ := h
  cases hx'
  obtain ⟨k, rfl, k0, k1⟩ := isI_iff.mp hc
  obtain ⟨z, rfl⟩ : ∃ z : Nat, k = z := ⟨k.toNat, by omega⟩
  let s : SysF := ⟨xs.length, ys.length, cell xs, cellO ys, z⟩
  have rows : ∀ i < xs.length, xs[i]? = some (s.rowD i) ∧ ∀ j < xs.length, (i = j → cell xs i j = 0) ∧ (i ≠ j → 1 ≤ cell xs i j ∧ cell xs i j ≤ 1000) := fun i hi => by
    obtain ⟨r, e1, zs, rfl, hl, hz⟩ := hrow i hi
    obtain ⟨ws, e2, hl2, hw⟩ := row_cell (n := xs.length) ⟨_, e1, zs, rfl, hl, hz⟩
    rw [e1] at e2; cases e2
    refine ⟨?_, fun j hj => ?_⟩
    · rw [e1, tabl_of (g := fun j => .int (s.sw i j)) hl (fun j hj => hw j hj)]; rfl
    · obtain ⟨v, ev, v0, v1⟩ := hz j hj
      rw [hw j hj] at ev; cases ev
      exact ⟨fun e => v0 e.symm, fun e => v1 (fun q => e q.symm)⟩
  have reqs : ∀ r < ys.length, ys[r]? = some (s.reqD r) ∧ (∀ i < xs.length, ∀ c, cellO ys r i = some c → 0 ≤ c ∧ c ≤ 1000) ∧ ∃ i < xs.length, (cellO ys r i).isSome := fun r hr => by
    obtain ⟨zs, e1, hl, hz, x, hx, hx'⟩ := hreq ys[r] (List.getElem_mem hr)
    have e0 : ys[r]? = some (.tup zs) := by rw [List.getElem?_eq_getElem hr, e1]
    have at_ : ∀ i < xs.length, zs[i]? = some (optD (cellO ys r i)) ∧ ∀ c, cellO ys r i = some c → 0 ≤ c ∧ c ≤ 1000 := fun i hi => by
      have hm : zs[i]? = some zs[i] := List.getElem?_eq_getElem _
      have hc : cellO ys r i = match zs[i]? with
        | some (.int c) => some c
        | _ => none := by unfold cellO; rw [e0]
      rcases hz zs[i] (List.getElem_mem _) with q | ⟨v, q, v0, v1⟩
      · rw [hm, q] at hc
        rw [hm, q, hc]
        exact ⟨rfl, fun c hc => nomatch hc⟩
      · rw [hm, q] at hc
        rw [hm, q, hc]
        exact ⟨rfl, fun c hc => by cases hc; exact ⟨v0, v1⟩⟩
    refine ⟨?_, fun i hi => (at_ i hi).2, ?_⟩
    · rw [e0, tabl_of (g := fun i => optD (s.rc r i)) hl (fun i hi => (at_ i hi).1)]; rfl
    · obtain ⟨i, hi⟩ := List.mem_iff_getElem?.mp hx
      have hi' : i < xs.length := by rw [List.getElem?_eq_some_iff] at hi; rw [← hl]; exact hi.choose
      refine ⟨i, hi', ?_⟩
      have := (at_ i hi').1
      rw [hi] at this
      cases hco : cellO ys r i with
      | none => rw [hco] at this; cases this; exact absurd rfl hx'
      | some c => rfl
  refine ⟨s, ⟨h2, h10, g1, g8, by show z < xs.length; omega, fun i hi => ((rows i hi).2 i hi).1 rfl, fun i hi j hj e => (((rows i hi).2 j hj).2 e).1, fun i hi j hj => ?_, fun i hi j hj k hk => htri i hi j hj k hk, fun r hr i hi c hc => (reqs r hr).2.1 i hi c hc, fun r hr => (reqs r hr).2.2⟩, ?_⟩
  · by_cases e : i = j
    · show cell xs i j ≤ 1000
      rw [((rows i hi).2 j hj).1 e]; decide
    · exact (((rows i hi).2 j hj).2 e).2
  · show D.tup [.tup xs, .tup ys, .int z] = .tup [.tup (tabl xs.length s.rowD), .tup (tabl ys.length s.reqD), .int z]
    rw [← tabl_of rfl (fun i hi => (rows i hi).1), ← tabl_of rfl (fun i hi => (reqs i hi).1)]
theorem SysF.Ok.sys {s : SysF} (h : s.Ok) : SysP s.d := by
  refine ⟨_, _, _, tabl s.n s.rowD, rfl, rfl, ⟨_, rfl, ?_⟩, ⟨_, rfl, ?_⟩, ?_⟩
  · rw [tabl_len]
    refine ⟨h.n2, h.n10, fun i hi => ⟨_, tabl_get hi, _, rfl, by simp, fun j hj => ⟨_, tabl_get hj, fun e => ?_, fun e => ⟨h.pos i hi j hj (fun q => e q.symm), h.le i hi j hj⟩⟩⟩, fun i hi j hj k hk => ?_⟩
    · subst e; exact h.diag _ hi
    · show cell _ i k ≤ cell _ i j + cell _ j k
      rw [cell_tab s hi hk, cell_tab s hi hj, cell_tab s hj hk]
      exact h.tri i hi j hj k hk
  · rw [tabl_len]
    refine ⟨h.m1, h.m8, fun x hx => ?_⟩
    obtain ⟨r, hr, rfl⟩ := tabl_mem hx
    refine ⟨_, rfl, by simp, fun x hx => ?_, ?_⟩
    · obtain ⟨i, hi, rfl⟩ := tabl_mem hx
      cases hc : s.rc r i with
      | none => exact .inl rfl
      | some c => exact .inr ⟨c, rfl, h.rc r hr i hi c hc⟩
    · obtain ⟨i, hi, hs⟩ := h.some_ r hr
      refine ⟨optD (s.rc r i), List.mem_iff_getElem?.mpr ⟨i, tabl_get hi⟩, ?_⟩
      cases hc : s.rc r i with
      | none => rw [hc] at hs; cases hs
      | some c => exact fun z => nomatch z
  · rw [tabl_len, isI_iff]
    exact ⟨_, rfl, by omega, by have := h.st; omega⟩
end Mi.B

namespace Mi.B
open PySem PySem.Spec L2

/-! ### what is read of a system -/
variable {s : SysF} {S : Store}
@[simp] theorem ix_d0 : ixD s.d (.int 0) S = .ok s.tabD S := rfl
@[simp] theorem ix_d1 : ixD s.d (.int 1) S = .ok s.reqsD S := rfl
@[simp] theorem ix_d2 : ixD s.d (.int 2) S = .ok (.int s.st) S := rfl
@[simp] theorem len_tabD : lenD [s.tabD] S = .ok (.int s.n) S := by simp [SysF.tabD]
@[simp] theorem len_reqsD : lenD [s.reqsD] S = .ok (.int s.m) S := by simp [SysF.reqsD]
theorem ix_tupl {n i : Nat} {g : Nat → D} (h : i < n) : ixD (.tup (tabl n g)) (.int i) S = .ok (g i) S := by
  rw [ix_tup_ap, tabl_at h]
theorem ix_tabD {i : Nat} (h : i < s.n) : ixD s.tabD (.int i) S = .ok (s.rowD i) S := ix_tupl h
theorem ix_rowD {i j : Nat} (h : j < s.n) : ixD (s.rowD i) (.int j) S = .ok (.int (s.sw i j)) S := ix_tupl h
theorem ix_reqsD {r : Nat} (h : r < s.m) : ixD s.reqsD (.int r) S = .ok (s.reqD r) S := ix_tupl h
theorem ix_reqD {r i : Nat} (h : i < s.n) : ixD (s.reqD r) (.int i) S = .ok (optD (s.rc r i)) S := ix_tupl h
def seqD (q : List Nat) : D := .tup (q.map fun (i : Nat) => .int i)
def intsD (q : List Int) : D := .tup (q.map D.int)
@[simp] theorem len_seqD (q : List Nat) : lenD [seqD q] S = .ok (.int q.length) S := by simp [seqD]
@[simp] theorem len_intsD (q : List Int) : lenD [intsD q] S = .ok (.int q.length) S := by simp [intsD]

/-! ### plain data is live -/
def shal : Nat → D → Bool
  | 0, _ => false
  | k + 1, d => match d with
    | .tup ds => ds.all (shal k)
    | .non => true
    | .bl _ => true
    | .int _ => true
    | .str _ => true
    | _ => false
theorem optAll_some {α : Type} {f : D → Option α} : ∀ {ds : List D}, (∀ d ∈ ds, ∃ p, f d = some p) → ∃ ps, optAll (ds.map f) = some ps
  | [], _ => ⟨[], rfl⟩
  | d :: ds, h => by
    obtain ⟨p, hp⟩ := h d List.mem_cons_self
    obtain ⟨ps, hps⟩ := optAll_some (ds := ds) fun x hx => h x (List.mem_cons_of_mem _ hx)
    exact ⟨p :: ps, by simp only [List.map_cons, optAll, hp, hps]⟩
theorem shal_live : ∀ (k : Nat) (d : D), shal k d = true → ∃ p, toR S k d = some p
  | 0, _, h => by cases h
  | k + 1, d, h => by
    cases d with
    | tup ds =>
      obtain ⟨ps, hp⟩ := optAll_some (f := toR S k) (ds := ds) fun x hx => shal_live k x (List.all_eq_true.mp h x hx)
      exact ⟨.tuple ps, by unfold toR; simp only [hp]; rfl⟩
    | non => exact ⟨_, rfl⟩
    | bl b => exact ⟨_, rfl⟩
    | int b => exact ⟨_, rfl⟩
    | str b => exact ⟨_, rfl⟩
    | _ => cases h
theorem live_of {k : Nat} {d : D} (h : shal k d = true) : Live S d := by
  obtain ⟨p, hp⟩ := shal_live (S := S) k d h
  exact ⟨k, p, hp⟩
theorem live_int (i : Int) : Live S (.int i) := live_of (k := 1) rfl
theorem live_seq (q : List Nat) : Live S (seqD q) := live_of (k := 2) (by
  show (List.map _ q).all (shal 1) = true
  rw [List.all_eq_true]; intro x hx; simp at hx; obtain ⟨i, _, rfl⟩ := hx; rfl)
theorem live_ints (q : List Int) : Live S (intsD q) := live_of (k := 2) (by
  show (List.map _ q).all (shal 1) = true
  rw [List.all_eq_true]; intro x hx; simp at hx; obtain ⟨i, _, rfl⟩ := hx; rfl)
theorem shal_tabl {n k : Nat} {g : Nat → D} (h : ∀ i < n, shal k (g i) = true) : shal (k + 1) (.tup (tabl n g)) = true := by
  show (tabl n g).all (shal k) = true
  rw [List.all_eq_true]; intro x hx
  obtain ⟨i, hi, rfl⟩ := tabl_mem hx
  exact h i hi
theorem live_sys : Live S s.d := live_of (k := 4) (by
  show ([s.tabD, s.reqsD, .int s.st] : List D).all (shal 3) = true
  have h1 : shal 3 s.tabD = true := shal_tabl fun i _ => shal_tabl fun j _ => rfl
  have h2 : shal 3 s.reqsD = true := shal_tabl fun i _ => shal_tabl fun j _ => by cases s.rc i j <;> rfl
  rw [List.all_cons, List.all_cons, List.all_cons, h1, h2]; rfl)

/-! ### the program's questions -/
theorem is_system_at (h : s.Ok) : f_is_system [s.d] S = .ok (.bl true) S := by
  rcases is_system_says (S := S) (live_sys (s := s)) with ⟨e, _⟩ | ⟨_, q⟩
  · exact e
  · exact absurd h.sys q
@[simp] theorem check_system_at (h : s.Ok) : f_check_system [s.d] S = .ok .non S := by
  simp only [f_check_system, b_check_system]
  rw [runB_ap]
  simp [ifS_ap, is_system_at h, nxS_ap, exS_ok]
theorem fits_state_at {d : D} (h : Live S d) : f_fits_state [s.d, d] S = .ok (.bl (isI d 0 (s.n - 1))) S := by
  obtain ⟨t, ht⟩ := h.tn
  simp only [f_fits_state, b_fits_state]
  rw [runB_ap]
  simp [retS_ap, exS_ok, is_integer_from_eq ht]
theorem fits_request_at {d : D} (h : Live S d) : f_fits_request [s.d, d] S = .ok (.bl (isI d 0 (s.m - 1))) S := by
  obtain ⟨t, ht⟩ := h.tn
  simp only [f_fits_request, b_fits_request]
  rw [runB_ap]
  simp [retS_ap, exS_ok, is_integer_from_eq ht]
theorem isI_nat {d : D} {m : Nat} : isI d 0 ((m : Int) - 1) = true ↔ ∃ i : Nat, d = .int i ∧ i < m := by
  rw [isI_iff]
  constructor
  · rintro ⟨i, rfl, h0, h1⟩
    exact ⟨i.toNat, by rw [Int.toNat_of_nonneg h0], by omega⟩
  · rintro ⟨i, rfl, h⟩
    exact ⟨i, rfl, by omega, by omega⟩
def TupP (m : Nat) (d : D) : Prop := ∃ q : List Nat, d = seqD q ∧ ∀ r ∈ q, r < m
theorem tupP_tup {m : Nat} {xs : List D} : TupP m (.tup xs) ↔ ∀ x ∈ xs, isI x 0 ((m : Int) - 1) = true := by
  constructor
  · rintro ⟨q, e, h⟩ x hx
    cases e
    simp at hx
    obtain ⟨i, hi, rfl⟩ := hx
    exact isI_nat.mpr ⟨i, rfl, h i hi⟩
  · intro h
    induction xs with
    | nil => exact ⟨[], rfl, by simp⟩
    | cons x xs ih =>
      obtain ⟨q, e, hq⟩ := ih fun y hy => h y (List.mem_cons_of_mem _ hy)
      obtain ⟨i, rfl, hi⟩ := isI_nat.mp (h x List.mem_cons_self)
      injection e with e
      exact ⟨i :: q, by simp [seqD, e], by simpa using ⟨hi, hq⟩⟩
theorem fits_request_tuple_says {d : D} (h : Live S d) : Says (f_fits_request_tuple [s.d, d] S) S (TupP s.m d) := by
  obtain ⟨t, ht⟩ := h.tn
  refine .of ?_
  simp only [f_fits_request_tuple, b_fits_request_tuple, wp_run, wp_seq, wp_ifS]
  have no : (∀ xs, d ≠ .tup xs) → ¬ TupP s.m d := fun z ⟨q, e, _⟩ => z _ e
  cases d with
  | tup xs =>
    rw [tupP_tup]
    simp [isiT]
    refine wp_forL (fun k e S' => S' = S ∧ (∃ a, e = [some s.d, some (.tup xs), a]) ∧ ∀ i < k, ∀ r, xs[i]? = some r → isI r 0 ((s.m : Int) - 1) = true) ⟨rfl, ⟨_, rfl⟩, fun j h => by omega⟩ (fun _ _ _ _ => rfl) ?_ ?_
    · rintro k y e S' hy ⟨rfl, ⟨a, rfl⟩, hi⟩
      simp [fits_request_at (s := s) (h.tup y (List.mem_of_getElem? hy))]
      by_cases z : isI y 0 ((s.m : Int) - 1) = true
      · simp [z]
        intro i hik r hr
        rcases Nat.lt_or_ge i k with w | w
        · exact hi i w r hr
        · rw [show i = k by omega, hy] at hr; cases hr; exact z
      · simp only [Bool.not_eq_true] at z
        simp [z]
        exact ⟨y, List.mem_of_getElem? hy, z⟩
    · rintro e S' ⟨rfl, ⟨a, rfl⟩, hi⟩
      simp
      intro x hx
      obtain ⟨j, hj, e⟩ := List.getElem_of_mem hx
      exact hi j hj x (by rw [← e]; exact List.getElem?_eq_getElem hj)
  | ref m =>
    have := no (fun _ z => nomatch z)
    rcases tn_ref ht with rfl | rfl <;> simp [ht, isiT, this]
  | _ =>
    have := no (fun _ z => nomatch z)
    cases ht <;> simp [isiT, this]
def QP (m : Nat) (d : D) : Prop := ∃ q : List Nat, d = seqD q ∧ (∀ r ∈ q, r < m) ∧ q.length ≤ 400
theorem fits_sequence_says {d : D} (h : Live S d) : Says (f_fits_sequence [s.d, d] S) S (QP s.m d) := by
  refine .of ?_
  simp only [f_fits_sequence, b_fits_sequence, wp_run, wp_seq, wp_ifS]
  rcases fits_request_tuple_says (s := s) h with ⟨e, q, rfl, hq⟩ | ⟨e, hp⟩
  · simp [e]
    by_cases z : q.length ≤ 400
    · have : (q.length : Int) ≤ 400 := by omega
      have : QP s.m (seqD q) := ⟨q, rfl, hq, z⟩
      simp [*]
    · have : ¬ ((q.length : Int) ≤ 400) := by omega
      have : ¬ QP s.m (seqD q) := by
        rintro ⟨q', e', _, h'⟩
        simp only [seqD, D.tup.injEq] at e'
        have := congrArg List.length e'
        simp at this
        omega
      simp [*]
      omega
  · simp [e]
    rintro ⟨q, rfl, hq, _⟩
    exact hp ⟨q, rfl, hq⟩
theorem fits_sequence_at {q : List Nat} (h : ∀ r ∈ q, r < s.m) (hl : q.length ≤ 400) : f_fits_sequence [s.d, seqD q] S = .ok (.bl true) S := by
  rcases fits_sequence_says (s := s) (S := S) (live_seq q) with ⟨e, _⟩ | ⟨_, n⟩
  · exact e
  · exact absurd ⟨q, rfl, h, hl⟩ n
theorem check_sequence_at {q : List Nat} (h : ∀ r ∈ q, r < s.m) (hl : q.length ≤ 400) : f_check_sequence [s.d, seqD q] S = .ok .non S := by
  simp only [f_check_sequence, b_check_sequence]
  rw [runB_ap]
  simp [ifS_ap, fits_sequence_at h hl, nxS_ap, exS_ok]
end Mi.B

namespace Mi.B
open PySem PySem.Spec L2
variable {s : SysF} {S : Store}

/-! ### schedules -/
def natD (i : Nat) : D := .int i
theorem seqD_eq (q : List Nat) : seqD q = .tup (q.map natD) := rfl
theorem zipD_map (q t : List Nat) : zipD (q.map natD) (t.map natD) = (q.zip t).map fun p => .tup [natD p.1, natD p.2] := by
  induction q generalizing t with
  | nil => rfl
  | cons a q ih =>
    cases t with
    | nil => rfl
    | cons b t => simp only [List.map_cons, zipD, List.zip_cons_cons, ih]
def SchP (s : SysF) (q : List Nat) (d : D) : Prop := ∃ t : List Nat, d = seqD t ∧ t.length = q.length ∧ ∀ p ∈ q.zip t, p.2 < s.n ∧ (s.rc p.1 p.2).isSome
theorem isB_opt (o : Option Int) : isB (optD o) .non = some o.isNone := by cases o <;> rfl
theorem srcZ_tup {ms : ML} {e : Vs} {S S' : Store} {xs ys : List D} (h : ms e S = .ok [.tup xs, .tup ys] S') : srcZ ms e S = .ok (zipD xs ys, []) S' := by
  unfold srcZ; rw [h]; rfl
theorem isT_len {d : D} {n : Nat} : isT d (n : Int) = true ↔ ∃ xs, d = .tup xs ∧ xs.length = n := by
  rw [isT_iff]
  constructor
  · rintro ⟨xs, e, h⟩; exact ⟨xs, e, by omega⟩
  · rintro ⟨xs, e, h⟩; exact ⟨xs, e, by omega⟩
/-- item by item -/
def okSt (s : SysF) (r : Nat) (x : D) : Bool := match x with
  | .int i => decide (0 ≤ i) && decide (i < s.n) && (s.rc r i.toNat).isSome
  | _ => false
theorem okSt_iff {r : Nat} {x : D} : okSt s r x = true ↔ ∃ i : Nat, x = natD i ∧ i < s.n ∧ (s.rc r i).isSome := by
  constructor
  · intro h
    cases x with
    | int i =>
      simp only [okSt, Bool.and_eq_true, decide_eq_true_eq] at h
      exact ⟨i.toNat, by rw [natD, Int.toNat_of_nonneg h.1.1], by omega, h.2⟩
    | _ => cases h
  · rintro ⟨i, rfl, h, g⟩
    simp only [okSt, natD, Bool.and_eq_true, decide_eq_true_eq]
    exact ⟨⟨by omega, by omega⟩, by simpa using g⟩
theorem schP_iff {q : List Nat} : ∀ {xs : List D}, xs.length = q.length → (SchP s q (.tup xs) ↔ ∀ (i r : Nat) (x : D), q[i]? = some r → xs[i]? = some x → okSt s r x = true) := by
  induction q with
  | nil =>
    intro xs h
    cases xs with
    | nil => exact ⟨fun _ i r x h => (by cases h), fun _ => ⟨[], rfl, rfl, by simp⟩⟩
    | cons _ _ => cases h
  | cons r q ih =>
    intro xs h
    cases xs with
    | nil => cases h
    | cons x xs =>
      have hl : xs.length = q.length := by simpa using h
      constructor
      · rintro ⟨t, e, hl2, ht⟩ i r' x' hr hx
        cases t with
        | nil => cases hl2
        | cons a t =>
          simp only [seqD, List.map_cons, D.tup.injEq, List.cons.injEq] at e
          obtain ⟨rfl, rfl⟩ := e
          cases i with
          | zero =>
            cases hr; cases hx
            have := ht (r, a) (by simp)
            exact okSt_iff.mpr ⟨a, rfl, this⟩
          | succ i =>
            exact (ih hl).mp ⟨t, rfl, by simpa using hl2, fun p hp => ht p (by simp [hp])⟩ i r' x' (by simpa using hr) (by simpa using hx)
      · intro hh
        obtain ⟨a, rfl, ha⟩ := okSt_iff.mp (hh 0 r x rfl rfl)
        obtain ⟨t, e, hl2, ht⟩ := (ih hl).mpr fun i r' x' hr hx => hh (i + 1) r' x' (by simpa using hr) (by simpa using hx)
        simp only [seqD, D.tup.injEq] at e
        refine ⟨a :: t, by simp [seqD, e, natD], by simpa using hl2, ?_⟩
        intro p hp
        simp only [List.zip_cons_cons, List.mem_cons] at hp
        rcases hp with rfl | hp
        · exact ha
        · exact ht p hp
theorem fits_schedule_says {q : List Nat} (hq : ∀ r ∈ q, r < s.m) {d : D} (h : Live S d) : Says (f_fits_schedule [s.d, seqD q, d] S) S (SchP s q d) := by
  obtain ⟨t, ht⟩ := h.tn
  refine .of ?_
  simp only [f_fits_schedule, b_fits_schedule, wp_run, wp_seq, wp_ifS]
  simp [is_tuple_of_eq ht]
  by_cases hT : isT d (q.length : Int) = true
  · obtain ⟨xs, rfl, hl⟩ := isT_len.mp hT
    simp [hT]
    rw [srcZ_tup (xs := q.map natD) (ys := xs) (S' := S) (by simp; rfl), wp_ok]
    have hzl : (zipD (q.map natD) xs).length = q.length := by rw [zipD_len]; simp [hl]
    refine wp_forL (fun k e S' => S' = S ∧ (∃ a b, e = [some s.d, some (seqD q), some (.tup xs), a, b]) ∧ ∀ (i r : Nat) (x : D), i < k → q[i]? = some r → xs[i]? = some x → okSt s r x = true) ⟨rfl, ⟨_, _, rfl⟩, fun i r x h => by omega⟩ (fun _ _ _ _ => rfl) ?_ ?_
    · rintro k y e S' hy ⟨rfl, ⟨a, b, rfl⟩, hi⟩
      have hk : k < q.length := by rw [← hzl]; rw [List.getElem?_eq_some_iff] at hy; exact hy.choose
      have e1 : q[k]? = some q[k] := List.getElem?_eq_getElem hk
      have e2 : xs[k]? = some (xs[k]'(by omega)) := List.getElem?_eq_getElem _
      have e3 := zipD_get (q.map natD) xs k (natD q[k]) (xs[k]'(by omega)) (by simp [e1]) e2
      rw [hy] at e3; cases e3
      have hr : q[k] < s.m := hq _ (List.getElem_mem hk)
      have lx : Live S' (xs[k]'(by omega)) := h.tup _ (List.getElem_mem _)
      generalize hx : (xs[k]'(by omega)) = x at *
      generalize hrr : q[k] = r at *
      simp [fits_state_at (s := s) lx, natD, ix_reqsD hr]
      have key : okSt s r x = true → ∀ (i r : Nat) (x : D), i < k + 1 → q[i]? = some r → xs[i]? = some x → okSt s r x = true := fun z i r' x' hik hr' hx' => by
        rcases Nat.lt_or_ge i k with w | w
        · exact hi i r' x' w hr' hx'
        · have e0 : i = k := by omega
          subst e0
          rw [e1] at hr'; cases hr'
          rw [e2] at hx'; cases hx'
          exact z
      have no : okSt s r x = false → ¬ SchP s q (.tup xs) := fun z w => by
        have := (schP_iff hl).mp w k r x e1 e2
        rw [z] at this; cases this
      by_cases z : isI x 0 ((s.n : Int) - 1) = true
      · obtain ⟨i, rfl, hi'⟩ := isI_nat.mp z
        simp [z, ix_reqD hi', isB_opt]
        cases ho : s.rc r i with
        | none =>
          have : okSt s r (.int i) = false := by simp [okSt, ho]
          simp [no this]
        | some c =>
          have : okSt s r (.int i) = true := okSt_iff.mpr ⟨i, rfl, hi', by rw [ho]; rfl⟩
          simp
          exact key this
      · have : okSt s r x = false := by
          cases hb : okSt s r x with
          | false => rfl
          | true =>
            obtain ⟨i, rfl, h1, _⟩ := okSt_iff.mp hb
            exact absurd (isI_nat.mpr ⟨i, rfl, h1⟩) z
        simp only [Bool.not_eq_true] at z
        simp [z, no this]
    · rintro e S' ⟨rfl, ⟨a, b, rfl⟩, hi⟩
      have : SchP s q (.tup xs) := (schP_iff hl).mpr fun i r x hr hx => by
        refine hi i r x ?_ hr hx
        rw [hzl]
        rw [List.getElem?_eq_some_iff] at hr; exact hr.choose
      simp [this]
  · have : ¬ SchP s q d := by
      rintro ⟨t, rfl, hl, _⟩
      exact hT (isT_len.mpr ⟨_, rfl, by simp [hl]⟩)
    simp only [Bool.not_eq_true] at hT
    simp [hT, this]

/-! ### costs -/
def SysF.rv (s : SysF) (r i : Nat) : Int := (s.rc r i).getD 0
def costF (s : SysF) : Nat → List Nat → List Nat → Int
  | i, r :: q, t :: ts => (s.sw i t + s.rv r t) + costF s t q ts
  | _, _, _ => 0
theorem optD_some {o : Option Int} (h : o.isSome) : optD o = .int (o.getD 0) := by cases o with
  | none => cases h
  | some c => rfl
def CostI (s : SysF) (q t : List Nat) (S : Store) (ds : List D) (e : Vs) (S' : Store) : Prop := S' = S ∧ ∃ (q' t' : List Nat) (i : Nat) (x y : Option D) (tot : Int), ds = (q'.zip t').map (fun p => .tup [natD p.1, natD p.2]) ∧ (∀ r ∈ q', r < s.m) ∧ t'.length = q'.length ∧ (∀ p ∈ q'.zip t', p.2 < s.n ∧ (s.rc p.1 p.2).isSome) ∧ i < s.n ∧
      e = [some (.tup [s.tabD, s.reqsD, .int s.st]), some (seqD q), some (seqD t), some s.tabD, some s.reqsD, some (.int i), some (.int tot), x, y] ∧ tot + costF s i q' t' = costF s s.st q t
theorem zip_nil {q' t' : List Nat} {f : Nat × Nat → D} (h : [] = (q'.zip t').map f) : q' = [] ∨ t' = [] := by
  cases q' with
  | nil => exact .inl rfl
  | cons _ _ => cases t' with
    | nil => exact .inr rfl
    | cons _ _ => simp at h
theorem costF_nil {i : Nat} {q' t' : List Nat} (h : q' = [] ∨ t' = []) : costF s i q' t' = 0 := by
  rcases h with rfl | rfl
  · cases t' <;> rfl
  · cases q' <;> rfl
theorem cost_of_schedule_at {q t : List Nat} (hq : ∀ r ∈ q, r < s.m) (hl : t.length = q.length) (ht : ∀ p ∈ q.zip t, p.2 < s.n ∧ (s.rc p.1 p.2).isSome) (hst : s.st < s.n) : f_cost_of_schedule [s.d, seqD q, seqD t] S = .ok (.int (costF s s.st q t)) S := by
  suffices h : wpR (f_cost_of_schedule [s.d, seqD q, seqD t] S) fun d S' => d = .int (costF s s.st q t) ∧ S' = S by
    obtain ⟨d, S', e, rfl, rfl⟩ := wpR_ex h
    exact e
  simp only [f_cost_of_schedule, b_cost_of_schedule, wp_run, wp_seq, wp_ifS]
  simp [SysF.d]
  rw [srcZ_tup (xs := q.map natD) (ys := t.map natD) (S' := S) (by simp; exact ⟨rfl, rfl⟩), wp_ok, zipD_map]
  simp only
  refine wp_for (CostI s q t S) (fun _ _ _ _ => rfl) ?_ ?_ _ _ _ ⟨rfl, q, t, s.st, none, none, 0, rfl, hq, hl, ht, hst, rfl, by omega⟩
  · rintro d ds e S' ⟨rfl, q', t', i, x, y, tot, hds, hq', hl', ht', hi, rfl, hc⟩
    cases q' with
    | nil => simp at hds
    | cons r q' =>
      cases t' with
      | nil => simp at hl'
      | cons a t' =>
        simp only [List.zip_cons_cons, List.map_cons, List.cons.injEq] at hds
        obtain ⟨rfl, rfl⟩ := hds
        obtain ⟨ha, hs⟩ := ht' (r, a) (by simp)
        have hr := hq' r (by simp)
        simp [natD, ix_tabD hi, ix_rowD ha, ix_reqsD hr, ix_reqD ha, optD_some hs, addI]
        refine ⟨rfl, q', t', a, _, _, _, rfl, fun r hr => hq' r (by simp [hr]), by simpa using hl', fun p hp => ht' p (by simp [hp]), ha, rfl, ?_⟩
        simp only [costF, SysF.rv] at hc
        omega
  · rintro e S' ⟨rfl, q', t', i, x, y, tot, hds, hq', hl', ht', hi, rfl, hc⟩
    have hz := costF_nil (s := s) (i := i) (zip_nil hds)
    simp
    omega
theorem schedule_cost_at (hs : s.Ok) {q t : List Nat} (hq : ∀ r ∈ q, r < s.m) (hq4 : q.length ≤ 400) (hl : t.length = q.length) (ht : ∀ p ∈ q.zip t, p.2 < s.n ∧ (s.rc p.1 p.2).isSome) : f_schedule_cost [s.d, seqD q, seqD t] S = .ok (.int (costF s s.st q t)) S := by
  have hf : f_fits_schedule [s.d, seqD q, seqD t] S = .ok (.bl true) S := by
    rcases fits_schedule_says (S := S) hq (live_seq t) with ⟨e, _⟩ | ⟨_, n⟩
    · exact e
    · exact absurd ⟨t, rfl, hl, ht⟩ n
  simp only [f_schedule_cost, b_schedule_cost]
  rw [runB_ap]
  simp [seqS_ap, exprS_ap, ifS_ap, retS_ap, nxS_ap, exS_ok, check_system_at hs, check_sequence_at hq hq4, hf, cost_of_schedule_at hq hl ht hs.st]
end Mi.B

namespace Mi.B
open PySem PySem.Spec L2
variable {s : SysF} {S : Store}

/-! ### weights at one store -/
def Wt (S : Store) (k b : Nat) (d : D) : Prop := ∃ w, wt S.length S 0 k d = some w ∧ w ≤ b
theorem Wt.le {k b c : Nat} {d : D} (h : Wt S k b d) (hb : b ≤ c) : Wt S k c d := by
  obtain ⟨w, h, i⟩ := h; exact ⟨w, h, by omega⟩
theorem Wt.up {k j b : Nat} {d : D} (h : Wt S k b d) (hk : k ≤ j) : Wt S j b d := by
  obtain ⟨w, h, i⟩ := h; exact ⟨w, wt_mono (fun _ _ _ e => e) (Nat.le_refl _) k j d w hk h, i⟩
theorem Wt.non {k : Nat} : Wt S (k + 1) 60 .non := ⟨60, rfl, Nat.le_refl _⟩
theorem Wt.bl {k : Nat} (b : Bool) : Wt S (k + 1) 60 (.bl b) := ⟨60, rfl, Nat.le_refl _⟩
theorem Wt.int {k : Nat} {i : Int} (h : i.natAbs ≤ 10 ^ 40) : Wt S (k + 1) 60 (.int i) := wt_int h
theorem small_le {i : Int} {b : Nat} (h : i.natAbs ≤ b) (hb : b ≤ 1000000000000) : i.natAbs ≤ 10 ^ 40 := Nat.le_trans h (Nat.le_trans hb (by decide +kernel))
theorem Wt.small {k : Nat} {i : Int} (h0 : -1000000000 ≤ i) (h1 : i ≤ 1000000000) : Wt S (k + 1) 60 (.int i) := .int (small_le (b := 1000000000) (by omega) (by decide))
theorem Wt.opt {k : Nat} {o : Option Int} (h : ∀ c, o = some c → 0 ≤ c ∧ c ≤ 1000) : Wt S (k + 1) 60 (optD o) := by
  cases o with
  | none => exact .non
  | some c => have := h c rfl; exact .small (by omega) (by omega)
theorem Wt.tup {k b : Nat} {ds : List D} (h : ∀ x ∈ ds, Wt S k b x) : Wt S (k + 1) (60 + ds.length * b) (.tup ds) := wt_tup h
theorem Wt.tupL {k b l : Nat} {ds : List D} (h : ∀ x ∈ ds, Wt S k b x) (hl : ds.length ≤ l) : Wt S (k + 1) (60 + l * b) (.tup ds) := (Wt.tup h).le (Nat.add_le_add_left (Nat.mul_le_mul_right _ hl) _)
theorem Wt.lst {k b m : Nat} {ds : List D} (e : S[m]? = some (.lst ds)) (h : ∀ x ∈ ds, Wt S k b x) : Wt S (k + 1) (60 + ds.length * b) (.ref m) := by
  obtain ⟨ws, g1, g2⟩ := wt_list ds h
  have hm : m ≠ S.length := by
    rw [List.getElem?_eq_some_iff] at e
    exact Nat.ne_of_lt e.choose
  refine ⟨60 + ws.sum, ?_, by omega⟩
  unfold wt
  rw [if_neg hm, e]
  exact Option.map_eq_some_iff.mpr ⟨ws, g1, rfl⟩
theorem toR_up : ∀ (k : Nat) (d : D) (p : PyData), toR S k d = some p → toR S (k + 1) d = some p := by
  intro k
  induction k with
  | zero => intro d p h; cases h
  | succ k ih =>
    intro d p h
    cases d with
    | tup ds =>
      obtain ⟨ps, g, rfl⟩ := Option.map_eq_some_iff.mp h
      exact Option.map_eq_some_iff.mpr ⟨ps, optAll_mono ih ds ps g, rfl⟩
    | rol ds =>
      obtain ⟨ps, g, rfl⟩ := Option.map_eq_some_iff.mp h
      exact Option.map_eq_some_iff.mpr ⟨ps, optAll_mono ih ds ps g, rfl⟩
    | ref m =>
      unfold toR at h ⊢
      split at h
      · rename_i ds hd
        obtain ⟨ps, g, rfl⟩ := Option.map_eq_some_iff.mp h
        exact Option.map_eq_some_iff.mpr ⟨ps, optAll_mono ih ds ps g, rfl⟩
      · exact h
      · cases h
    | _ => exact h
theorem toR_le {k j : Nat} {d : D} {p : PyData} (hk : k ≤ j) (h : toR S k d = some p) : toR S j d = some p := by
  induction hk with
  | refl => exact h
  | step _ ih => exact toR_up _ _ _ ih
theorem Wt.fine {k b : Nat} {d : D} (h : Wt S k b d) (hk : k ≤ 60) (hb : b ≤ 1000000) : Fine S d := by
  obtain ⟨w, h, hw⟩ := h
  obtain ⟨p, h1, h2, h3, h4⟩ := wt_ok (by decide) k d w h
  refine ⟨p, toR_le hk h1, ?_⟩
  simp [okShow, h2]
  omega
/-! ### what repr says -/
theorem repr_same {d d' : D} (f : Fine S d) (e : toR S 60 d' = toR S 60 d) : ∃ x, reprD [d] S = .ok (.str x) S ∧ reprD [d'] S = .ok (.str x) S := by
  obtain ⟨p, h, o⟩ := f
  exact ⟨p.shown, repr_at h o, repr_at (e.trans h) o⟩
theorem repr_lists {m m' : Nat} {ds : List D} (f : Fine S (.ref m)) (h : S[m]? = some (.lst ds)) (h' : S[m']? = some (.lst ds)) : ∃ x, reprD [.ref m] S = .ok (.str x) S ∧ reprD [.ref m'] S = .ok (.str x) S :=
  repr_same f (by unfold toR; rw [h, h'])
theorem shal_toR : ∀ (k : Nat) (d : D) (S S' : Store), shal k d = true → toR S k d = toR S' k d
  | 0, _, _, _, h => by cases h
  | k + 1, d, S, S', h => by
    cases d with
    | tup ds =>
      have : ds.map (toR S k) = ds.map (toR S' k) := List.map_congr_left fun x hx => shal_toR k x S S' (List.all_eq_true.mp h x hx)
      unfold toR; rw [this]
    | non => rfl
    | bl b => rfl
    | int b => rfl
    | str b => rfl
    | _ => cases h
theorem repr_pure {k : Nat} {d : D} (h : shal k d = true) (hk : k ≤ 60) (f : Fine [] d) : ∃ x, ∀ S, reprD [d] S = .ok (.str x) S := by
  obtain ⟨p, e, o⟩ := f
  obtain ⟨p', e'⟩ := shal_live (S := []) k d h
  have := toR_le hk e'
  rw [this] at e; cases e
  exact ⟨p.shown, fun S => repr_at (toR_le hk ((shal_toR k d S [] h).trans e')) o⟩
theorem shal_up : ∀ (k : Nat) (d : D), shal k d = true → shal (k + 1) d = true
  | 0, _, h => by cases h
  | k + 1, d, h => by
    cases d with
    | tup ds =>
      show ds.all (shal (k + 1)) = true
      rw [List.all_eq_true]
      exact fun x hx => shal_up k x (List.all_eq_true.mp h x hx)
    | non => rfl
    | bl b => rfl
    | int b => rfl
    | str b => rfl
    | _ => cases h
theorem shal_sys : shal 4 s.d = true := by
  show ([s.tabD, s.reqsD, .int s.st] : List D).all (shal 3) = true
  have h1 : shal 3 s.tabD = true := shal_tabl fun i _ => shal_tabl fun j _ => rfl
  have h2 : shal 3 s.reqsD = true := shal_tabl fun i _ => shal_tabl fun j _ => by cases s.rc i j <;> rfl
  rw [List.all_cons, List.all_cons, List.all_cons, h1, h2]; rfl
theorem shal_seq {k : Nat} (q : List Nat) : shal (k + 2) (seqD q) = true := by
  show (List.map _ q).all (shal (k + 1)) = true
  rw [List.all_eq_true]; intro x hx; simp at hx; obtain ⟨i, _, rfl⟩ := hx; rfl
theorem shal_ints {k : Nat} (q : List Int) : shal (k + 2) (intsD q) = true := by
  show (List.map _ q).all (shal (k + 1)) = true
  rw [List.all_eq_true]; intro x hx; simp at hx; obtain ⟨i, _, rfl⟩ := hx; rfl
theorem Wt.tabl {n k b l : Nat} {g : Nat → D} (h : ∀ i < n, Wt S k b (g i)) (hl : n ≤ l) : Wt S (k + 1) (60 + l * b) (.tup (tabl n g)) :=
  Wt.tupL (fun x hx => by obtain ⟨i, hi, rfl⟩ := tabl_mem hx; exact h i hi) (by simpa using hl)
theorem Wt.sys (h : s.Ok) : Wt S 4 20040 s.d := by
  have h1 : Wt S 3 6660 s.tabD := Wt.tabl (l := 10) (b := 660) (fun i hi => Wt.tabl (l := 10) (b := 60) (fun j hj => .small (by have := h.nonneg i hi j hj; omega) (by have := h.le i hi j hj; omega)) h.n10) h.n10
  have h2 : Wt S 3 6660 s.reqsD := (Wt.tabl (l := 8) (b := 660) (fun r hr => Wt.tabl (l := 10) (b := 60) (fun i hi => .opt fun c hc => h.rc r hr i hi c hc) h.n10) h.m8).le (by decide)
  refine (Wt.tup (b := 6660) fun x hx => ?_ : Wt S 4 _ (.tup [s.tabD, s.reqsD, .int s.st])).le (Nat.le_of_eq rfl)
  simp only [List.mem_cons, List.not_mem_nil, or_false] at hx
  rcases hx with rfl | rfl | rfl
  · exact h1
  · exact h2
  · have := h.st; have := h.n10
    exact (Wt.small (by omega) (by omega) : Wt S 3 60 _).le (by decide)
theorem repr_sys (h : s.Ok) : ∃ x, ∀ S, reprD [s.d] S = .ok (.str x) S := repr_pure shal_sys (by decide) ((Wt.sys h).fine (by decide) (by decide))
theorem Wt.seq {q : List Nat} (h : ∀ r ∈ q, r < 1000000) : Wt S 2 (60 + q.length * 60) (seqD q) := by
  have := Wt.tup (S := S) (k := 1) (b := 60) (ds := q.map natD) fun x hx => by
    simp at hx; obtain ⟨i, hi, rfl⟩ := hx
    have := h i hi
    exact .small (by omega) (by omega)
  rw [List.length_map] at this; exact this
theorem Wt.ints {q : List Int} (h : ∀ i ∈ q, i.natAbs ≤ 10 ^ 40) : Wt S 2 (60 + q.length * 60) (intsD q) := by
  have := Wt.tup (S := S) (k := 1) (b := 60) (ds := q.map D.int) fun x hx => by
    simp at hx; obtain ⟨i, hi, rfl⟩ := hx
    exact .int (h i hi)
  rw [List.length_map] at this; exact this

/-! ### the states that are allowed -/
def SysF.al (s : SysF) (r : Nat) : List Nat := (List.range s.n).filter fun i => (s.rc r i).isSome
theorem SysF.al_mem {r i : Nat} : i ∈ s.al r ↔ i < s.n ∧ (s.rc r i).isSome := by simp [SysF.al]
theorem SysF.Ok.al_ne (h : s.Ok) {r : Nat} (hr : r < s.m) : s.al r ≠ [] := by
  obtain ⟨i, hi, e⟩ := h.some_ r hr
  intro z
  have : i ∈ s.al r := SysF.al_mem.mpr ⟨hi, e⟩
  rw [z] at this; cases this
theorem SysF.al_len {r : Nat} : (s.al r).length ≤ s.n := by
  have := List.length_filter_le (fun i => (s.rc r i).isSome) (List.range s.n)
  simpa [SysF.al] using this
theorem enumD_tabl (n : Nat) (g : Nat → D) : enumD 0 (tabl n g) = tabl n fun i => .tup [natD i, g i] := by
  refine tabl_of (by rw [enumD_len]; simp) fun i hi => ?_
  rw [enumD_get 0 _ i _ (tabl_get hi), Nat.zero_add]; rfl
/-- a comprehension whose parts leave the store as it is -/
theorem wp_lcX {t : MT} {tt : MB} {el : ME} {vs : List Nat} {gs : Gs} {e : Vs} {Q : D → Store → Prop} {ds : List D} {S : Store} (f : D → Option D) (hz : ds.length ≤ 1000000) (hc : ∀ S', Gr S S' → chk gs S' = true)
    (step : ∀ d S1, d ∈ ds → Gr S S1 → wpR (t d (wipeE e vs) S1) fun e1 S2 => wpR (tt e1 S2) fun b S3 => match b with
      | true => wpR (el e1 S3) fun y S4 => S4 = S1 ∧ f d = some y
      | false => S3 = S1 ∧ f d = none)
    (fin : Q (.ref S.length) (S ++ [.lst (ds.filterMap f)])) : wpR (lcS t tt el vs gs S.length e ds (S ++ [.lst []])) Q := by
  refine wp_lc (fun k acc S' => S' = S ++ [.lst acc] ∧ acc = (ds.take k).filterMap f) ⟨rfl, rfl⟩ get_last hz (fun k acc S' h => by obtain ⟨rfl, _⟩ := h; exact hc _ (Gr.app S _)) ?_ ?_
  · rintro k d acc S' hd hs ⟨rfl, ha⟩
    refine wpR_mono (step d _ (List.mem_of_getElem? hd) (Gr.app S _)) fun e1 S2 q => wpR_mono q fun b S3 q => ?_
    have tk : ds.take (k + 1) = ds.take k ++ [d] := by rw [List.take_add_one, hd]; rfl
    cases b with
    | true =>
      refine wpR_mono q fun y S4 q => ?_
      obtain ⟨rfl, hy⟩ := q
      refine ⟨hs, set_last, ?_⟩
      rw [tk, List.filterMap_append, ← ha]; simp [hy]
    | false =>
      obtain ⟨rfl, hy⟩ := q
      refine ⟨hs, rfl, ?_⟩
      rw [tk, List.filterMap_append, ← ha]; simp [hy]
  · rintro acc S' hs ⟨rfl, ha⟩
    rw [List.take_length] at ha
    subst ha
    exact fin
theorem allowed_at {r : Nat} (hr : r < s.m) (hn : s.n ≤ 1000) : f_law_allowed [s.d, .int r] S = .ok (.ref S.length) (S ++ [.lst ((s.al r).map natD)]) := by
  suffices h : wpR (f_law_allowed [s.d, .int r] S) fun d S' => d = .ref S.length ∧ S' = S ++ [.lst ((s.al r).map natD)] by
    obtain ⟨d, S', e, rfl, rfl⟩ := wpR_ex h
    exact e
  simp only [f_law_allowed, b_law_allowed, wp_run, wp_seq, wp_ifS]
  simp [ix_reqsD hr, SysF.reqD, enumD_tabl]
  refine wp_lcX (fun d => match d with
    | .tup [i, .int _] => some i
    | _ => none) (by simp; omega) (fun _ _ => rfl) ?_ ?_
  · intro d S1 hd _
    obtain ⟨i, hi, rfl⟩ := tabl_mem hd
    simp [wipeE, isB_opt]
    cases s.rc r i <;> simp [optD]
  · refine ⟨rfl, ?_⟩
    congr 3
    simp only [tabl, SysF.al, List.filterMap_map]
    induction List.range s.n with
    | nil => rfl
    | cons a as ih =>
      simp only [List.filterMap_cons, List.filter_cons, Function.comp]
      cases s.rc r a with
      | none => simpa [optD] using ih
      | some c => simpa [optD] using ih
end Mi.B

namespace Mi.B
open PySem PySem.Spec L2
variable {s : SysF} {S : Store} {n : Nat}

/-- a comprehension whose parts draw -/
theorem wp_lcD {t : MT} {el : ME} {vs : List Nat} {e : Vs} {Q : D → Store → Prop} {ds : List D} (hn : Strm n S) (P : D → Prop) (hz : ds.length ≤ 1000000)
    (step : ∀ d S1, d ∈ ds → Ext n S S1 → wpR (t d (wipeE e vs) S1) fun e1 S2 => wpR (el e1 S2) fun y S3 => Ext n S1 S3 ∧ P y)
    (fin : ∀ acc S', Ext n S S' → S'[S.length]? = some (.lst acc) → acc.length = ds.length → (∀ y ∈ acc, P y) → Q (.ref S.length) S') : wpR (lcS t yesB el vs [] S.length e ds (S ++ [.lst []])) Q := by
  have hl := hn.lt
  refine wp_lc (fun k acc S' => Ext n S S' ∧ S.length < S'.length ∧ acc.length = k ∧ ∀ y ∈ acc, P y) ⟨Ext.app hn _, by simp, rfl, by simp⟩ get_last hz (fun _ _ _ _ => rfl) ?_ ?_
  · rintro k d acc S1 hd hs ⟨y, hlt, ha, hp⟩
    refine wpR_mono (step d S1 (List.mem_of_getElem? hd) y) fun e1 S2 q => ?_
    rw [yesB_ap, wp_ok]
    refine wpR_mono q fun v S3 q => ?_
    obtain ⟨x, hv⟩ := q
    refine ⟨x.get (by omega) hs, (y.trans x).setHi (by omega) (Nat.le_refl _), ?_, by simp [ha], ?_⟩
    · have := x.2.1; simp; omega
    · intro z hz
      rcases List.mem_append.mp hz with hz | hz
      · exact hp z hz
      · rw [List.mem_singleton] at hz; subst hz; exact hv
  · rintro acc S' hs ⟨y, hlt, ha, hp⟩
    exact fin acc S' y hs ha hp
theorem nats_of {xs : List D} {m : Nat} (h : ∀ y ∈ xs, ∃ r : Nat, y = .int r ∧ r < m) : ∃ q : List Nat, xs = q.map natD ∧ ∀ r ∈ q, r < m := by
  induction xs with
  | nil => exact ⟨[], rfl, by simp⟩
  | cons x xs ih =>
    obtain ⟨r, rfl, hr⟩ := h x List.mem_cons_self
    obtain ⟨q, rfl, hq⟩ := ih fun y hy => h y (List.mem_cons_of_mem _ hy)
    exact ⟨r :: q, rfl, by simpa using ⟨hr, hq⟩⟩
theorem sequence (hs : s.Ok) (h : Strm n S) {l : Nat} (hl : l < 100000) : wpR (f_law_sequence [.ref n, s.d, .int l] S) fun d S' => ∃ q : List Nat, d = seqD q ∧ q.length = l ∧ (∀ r ∈ q, r < s.m) ∧ Ext n S S' := by
  simp only [f_law_sequence, b_law_sequence, wp_run, wp_seq, wp_ifS]
  simp
  rw [src1_nat (n := l) (S1 := S) ?_ (by omega)]
  rotate_left
  · simp
  rw [wp_ok]
  refine wp_lcD h (fun y => ∃ r : Nat, y = .int r ∧ r < s.m) (by rw [rangeD_len]; omega) ?_ ?_
  · rintro d S1 hd y
    simp [wipeE]
    refine wpR_mono (drawT s.m rfl y.1 (by have := hs.m1; omega) (by have := hs.m8; omega)) ?_
    rintro d S2 ⟨hr, x, _⟩
    exact ⟨x, hr⟩
  · rintro acc S' y ha hal hp
    obtain ⟨q, rfl, hq⟩ := nats_of hp
    simp [tupOfD, ha]
    rw [rangeD_len] at hal
    exact ⟨q, rfl, by simpa using hal, hq, y⟩
/-- the drawn systems -/
theorem systemF (h : Strm n S) {size total : Nat} (h1 : 2 ≤ size) (h2 : size ≤ 10) (h3 : 1 ≤ total) (h4 : total ≤ 8) : wpR (f_law_system [.ref n, .int size, .int total] S) fun d S' => (∃ s : SysF, s.Ok ∧ d = s.d) ∧ Ext n S S' :=
  wpR_mono (system h h1 h2 h3 h4) fun _ _ q => ⟨q.1.get, q.2⟩
theorem step_cost_at {i j r : Nat} (hi : i < s.n) (hj : j < s.n) (hr : r < s.m) (hs : (s.rc r j).isSome) : f_law_step_cost [s.d, .int i, .int j, .int r] S = .ok (.int (s.sw i j + s.rv r j)) S := by
  simp only [f_law_step_cost, b_law_step_cost]
  rw [runB_ap]
  simp [retS_ap, exS_ok, ix_tabD hi, ix_rowD hj, ix_reqsD hr, ix_reqD hj, optD_some hs]
  rfl
theorem costF_bound (hs : s.Ok) : ∀ {q t : List Nat} {i : Nat}, (∀ r ∈ q, r < s.m) → (∀ p ∈ q.zip t, p.2 < s.n ∧ (s.rc p.1 p.2).isSome) → i < s.n → 0 ≤ costF s i q t ∧ costF s i q t ≤ 2000 * q.length
  | [], t, i, _, _, _ => by cases t <;> simp [costF]
  | r :: q, [], i, _, _, _ => by simp only [costF, List.length_cons]; omega
  | r :: q, a :: t, i, hq, ht, hi => by
    obtain ⟨ha, hb⟩ := ht (r, a) (by simp)
    have hr := hq r (by simp)
    have ih := costF_bound hs (q := q) (t := t) (i := a) (fun r hr => hq r (by simp [hr])) (fun p hp => ht p (by simp [hp])) ha
    have h1 := hs.nonneg i hi a ha
    have h2 := hs.le i hi a ha
    obtain ⟨c, hc⟩ := Option.isSome_iff_exists.mp hb
    have h3 := hs.rc r hr a ha c hc
    have h4 : s.rv r a = c := by show (s.rc r a).getD 0 = c; simp at hc; rw [hc]; rfl
    simp only [costF, List.length_cons, h4]
    omega
end Mi.B

namespace Mi.B
open PySem PySem.Spec L2
variable {s : SysF} {S : Store} {n : Nat}

theorem toR_ints {k : Nat} : ∀ (is : List Int), optAll ((is.map D.int).map (toR S (k + 1))) = some (is.map PyData.int)
  | [] => rfl
  | i :: is => by
    have e : toR S (k + 1) (D.int i) = some (.int i) := rfl
    rw [List.map_cons, List.map_cons, e]
    unfold optAll
    rw [toR_ints is]; rfl
theorem repr_intl {m : Nat} {is : List Int} (h : S[m]? = some (.lst (is.map D.int))) (hb : ∀ i ∈ is, i.natAbs ≤ 10 ^ 40) (hl : is.length ≤ 10000) : reprD [.ref m] S = .ok (.str (PyData.list (is.map PyData.int)).shown) S := by
  have w : Wt S 2 (60 + is.length * 60) (.ref m) := by
    have := Wt.lst (k := 1) (b := 60) h fun x hx => by
      simp at hx; obtain ⟨i, hi, rfl⟩ := hx; exact .int (hb i hi)
    rw [List.length_map] at this; exact this
  obtain ⟨p, e, o⟩ := w.fine (by decide) (by omega)
  have e' : toR S 60 (.ref m) = some (.list (is.map PyData.int)) := by
    unfold toR; rw [h]; simp only [toR_ints]; rfl
  rw [e'] at e; cases e
  exact repr_at e' o
theorem sl_seq_to {q : List Nat} {j : Nat} (h : j ≤ q.length) : slD (seqD q) none (some (j : Int)) S = .ok (seqD (q.take j)) S := by
  rw [seqD_eq, sl_to (by simpa using h), ← List.map_take]; rfl
theorem sl_seq_from {q : List Nat} {j : Nat} (h : j ≤ q.length) : slD (seqD q) (some (j : Int)) none S = .ok (seqD (q.drop j)) S := by
  rw [seqD_eq, sl_from rfl (by simpa using h), ← List.map_drop]; rfl
theorem costF_st {k : Nat} : ∀ {q t : List Nat} {i : Nat}, costF { s with st := k } i q t = costF s i q t
  | [], t, i => by cases t <;> rfl
  | r :: q, [], i => rfl
  | r :: q, a :: t, i => by
    simp only [costF]
    rw [costF_st (q := q) (t := t)]
    rfl
def midF (i : Nat) (t : List Nat) (j : Nat) : Nat := if j = 0 then i else t.getD (j - 1) 0
theorem costF_cut : ∀ {q t : List Nat} {i j : Nat}, j ≤ q.length → t.length = q.length → costF s i q t = costF s i (q.take j) (t.take j) + costF s (midF i t j) (q.drop j) (t.drop j)
  | q, t, i, 0, _, _ => by
    have : costF s i (q.take 0) (t.take 0) = 0 := rfl
    rw [this, List.drop_zero, List.drop_zero, Int.zero_add]; rfl
  | [], t, i, j + 1, h, _ => by simp at h
  | r :: q, [], i, j + 1, _, h => by simp at h
  | r :: q, a :: t, i, j + 1, h, hl => by
    have ih := costF_cut (q := q) (t := t) (i := a) (j := j) (by simpa using h) (by simpa using hl)
    have hm : midF a t j = midF i (a :: t) (j + 1) := by
      unfold midF
      cases j with
      | zero => rfl
      | succ j => simp
    simp only [costF, List.take_succ_cons, List.drop_succ_cons]
    rw [ih, hm]
    omega
theorem mem_zip_take {q t : List Nat} {j : Nat} {p : Nat × Nat} (h : p ∈ (q.take j).zip (t.take j)) : p ∈ q.zip t := by
  have e : (q.take j).zip (t.take j) = (q.zip t).take j := by simp only [List.zip, List.take_zipWith]
  rw [e] at h; exact List.mem_of_mem_take h
theorem mem_zip_drop {q t : List Nat} {j : Nat} {p : Nat × Nat} (h : p ∈ (q.drop j).zip (t.drop j)) : p ∈ q.zip t := by
  have e : (q.drop j).zip (t.drop j) = (q.zip t).drop j := by simp only [List.zip, List.drop_zipWith]
  rw [e] at h; exact List.mem_of_mem_drop h
theorem SysF.Ok.start (h : s.Ok) {k : Nat} (hk : k < s.n) : ({ s with st := k } : SysF).Ok := ⟨h.n2, h.n10, h.m1, h.m8, hk, h.diag, h.pos, h.le, h.tri, h.rc, h.some_⟩
end Mi.B

namespace Mi.B
open PySem PySem.Spec L2
variable {s : SysF} {S : Store} {n : Nat}

/-! ### == of data -/
theorem optAll_len {α : Type} : ∀ {xs : List (Option α)} {ys : List α}, optAll xs = some ys → ys.length = xs.length
  | [], ys, h => by cases h; rfl
  | x :: xs, ys, h => by
    obtain ⟨y, zs, rfl, h2, rfl⟩ := optAll_cons h
    simp [optAll_len h2]
theorem eqvAll_len : ∀ {xs ys : List PyData}, xs.length ≠ ys.length → PyData.eqvAll xs ys = false
  | [], [], h => absurd rfl h
  | [], _ :: _, _ => by simp only [PyData.eqvAll]
  | _ :: _, [], _ => by simp only [PyData.eqvAll]
  | x :: xs, y :: ys, h => by
    simp only [PyData.eqvAll]
    rw [eqvAll_len (xs := xs) (ys := ys) (by simpa using h), Bool.and_false]
theorem lstOf_toP {k : Nat} {x : D} {p : PyData} {xs : List D} (h : lstOf S x = some xs) (hp : toP S (k + 1) x = some p) : ∃ ps, p = .list ps ∧ ps.length = xs.length := by
  unfold lstOf at h
  split at h
  · cases h
    obtain ⟨ps, g, rfl⟩ := Option.map_eq_some_iff.mp hp
    exact ⟨ps, rfl, by simpa using optAll_len g⟩
  · rename_i m
    split at h
    · rename_i ds hm
      cases h
      unfold toP at hp
      rw [hm] at hp
      obtain ⟨ps, g, rfl⟩ := Option.map_eq_some_iff.mp hp
      exact ⟨ps, rfl, by simpa using optAll_len g⟩
    · cases h
  · cases h
theorem tup_toP {k : Nat} {p : PyData} {xs : List D} (hp : toP S (k + 1) (.tup xs) = some p) : ∃ ps, p = .tuple ps ∧ ps.length = xs.length := by
  obtain ⟨ps, g, rfl⟩ := Option.map_eq_some_iff.mp hp
  exact ⟨ps, rfl, by simpa using optAll_len g⟩
theorem lenB_eqv {k : Nat} {x y : D} {p q : PyData} {b : Bool} (h : lenB S x y = some b) (hp : toP S (k + 1) x = some p) (hq : toP S (k + 1) y = some q) : b = PyData.eqv p q := by
  unfold lenB at h
  split at h
  · cases h
    obtain ⟨ps, rfl, l1⟩ := tup_toP hp
    obtain ⟨qs, rfl, l2⟩ := tup_toP hq
    have : qs = [] := List.eq_nil_of_length_eq_zero l2
    subst this
    rw [← l1]
    cases ps with
    | nil => simp [PyData.eqv, PyData.eqvAll]
    | cons a as => simp [PyData.eqv, PyData.eqvAll]
  · cases h
    obtain ⟨ps, rfl, l1⟩ := tup_toP hp
    obtain ⟨qs, rfl, l2⟩ := tup_toP hq
    have : ps = [] := List.eq_nil_of_length_eq_zero l1
    subst this
    rw [← l2]
    cases qs with
    | nil => simp [PyData.eqv, PyData.eqvAll]
    | cons a as => simp [PyData.eqv, PyData.eqvAll]
  · split at h
    · rename_i xs ys h1 h2
      split at h
      · cases h
      · rename_i hne
        cases h
        obtain ⟨ps, rfl, l1⟩ := lstOf_toP h1 hp
        obtain ⟨qs, rfl, l2⟩ := lstOf_toP h2 hq
        simp only [PyData.eqv]
        rw [eqvAll_len (by omega)]
    · cases h
theorem eqB_of {x y : D} {p q : PyData} (hp : toP S 62 x = some p) (hq : toP S 62 y = some q) (sp : SeqAt.shaped p = true) (sq : SeqAt.shaped q = true) : eqB S x y = some (PyData.eqv p q) := by
  unfold eqB
  split
  · cases hp; cases hq; simp only [PyData.eqv]; congr 1
  · cases hp; cases hq; simp only [PyData.eqv]; congr 1
  · cases hp; cases hq; simp only [PyData.eqv]; congr 1
  · cases hp; cases hq; simp only [PyData.eqv]
  · cases h : lenB S x y with
    | some b => exact congrArg some (lenB_eqv (k := 61) h hp hq)
    | none => simp only [hp, hq, sp, sq, Bool.and_self, if_true]
/-! ints -/
theorem toP_ints {k : Nat} : ∀ (is : List Int), optAll ((is.map D.int).map (toP S (k + 1))) = some (is.map PyData.int)
  | [] => rfl
  | i :: is => by
    have e : toP S (k + 1) (D.int i) = some (.int i) := rfl
    rw [List.map_cons, List.map_cons, e]
    unfold optAll
    rw [toP_ints is]; rfl
theorem canLay_ints : ∀ (is : List Int), PyData.canLayAll0 (is.map PyData.int) = true
  | [] => by simp [PyData.canLayAll0]
  | i :: is => by simp [PyData.canLayAll0, PyData.canLay0, canLay_ints is]
theorem depth_ints : ∀ (is : List Int), PyData.depthAll (is.map PyData.int) ≤ 1
  | [] => by simp [PyData.depthAll]
  | i :: is => by have := depth_ints is; simp [PyData.depthAll, PyData.depth]; omega
theorem shaped_listI (is : List Int) : SeqAt.shaped (.list (is.map PyData.int)) = true := by
  have := depth_ints is
  simp only [SeqAt.shaped, PyData.canLay0, canLay_ints, PyData.depth, Bool.true_and, decide_eq_true_eq]
  exact decide_eq_true (by omega)
theorem shaped_tupI (is : List Int) : SeqAt.shaped (.tuple (is.map PyData.int)) = true := by
  have := depth_ints is
  simp only [SeqAt.shaped, PyData.canLay0, canLay_ints, PyData.depth, Bool.true_and, decide_eq_true_eq]
  exact decide_eq_true (by omega)
theorem eqv_ints : ∀ (is js : List Int), PyData.eqvAll (is.map PyData.int) (js.map PyData.int) = decide (is = js)
  | [], [] => by simp [PyData.eqvAll]
  | [], j :: js => by simp [PyData.eqvAll]
  | i :: is, [] => by simp [PyData.eqvAll]
  | i :: is, j :: js => by
    simp only [List.map_cons, PyData.eqvAll, eqv_ints is js, PyData.eqv]
    by_cases z : i = j
    · subst z; simp
    · simp [z]
theorem eqB_intl {m m' : Nat} {is js : List Int} (h : S[m]? = some (.lst (is.map D.int))) (h' : S[m']? = some (.lst (js.map D.int))) : eqB S (.ref m) (.ref m') = some (decide (is = js)) := by
  have a : ∀ {m : Nat} {is : List Int}, S[m]? = some (.lst (is.map D.int)) → toP S 62 (.ref m) = some (.list (is.map PyData.int)) := fun {m is} h => by
    unfold toP; rw [h]; simp only [toP_ints]; rfl
  rw [eqB_of (a h) (a h') (shaped_listI is) (shaped_listI js)]
  simp only [PyData.eqv, eqv_ints]
theorem eqB_ints {is js : List Int} : eqB S (intsD is) (intsD js) = some (decide (is = js)) := by
  have a : ∀ {is : List Int}, toP S 62 (intsD is) = some (.tuple (is.map PyData.int)) := fun {is} => by
    unfold intsD toP; simp only [toP_ints]; rfl
  rw [eqB_of a a (shaped_tupI is) (shaped_tupI js)]
  simp only [PyData.eqv, eqv_ints]

/-! ### systems that are written out -/
def okB (s : SysF) : Bool := decide (2 ≤ s.n) && decide (s.n ≤ 10) && decide (1 ≤ s.m) && decide (s.m ≤ 8) && decide (s.st < s.n) &&
  ((List.range s.n).all fun i => (List.range s.n).all fun j => (if i = j then decide (s.sw i j = 0) else decide (1 ≤ s.sw i j)) && decide (s.sw i j ≤ 1000) && (List.range s.n).all fun k => decide (s.sw i k ≤ s.sw i j + s.sw j k)) &&
  ((List.range s.m).all fun r => ((List.range s.n).all fun i => match s.rc r i with
    | none => true
    | some c => decide (0 ≤ c) && decide (c ≤ 1000)) && (List.range s.n).any fun i => (s.rc r i).isSome)
theorem okB_ok {s : SysF} (h : okB s = true) : s.Ok := by
  simp only [okB, Bool.and_eq_true, decide_eq_true_eq, List.all_eq_true, List.any_eq_true, List.mem_range] at h
  obtain ⟨⟨⟨⟨⟨⟨h1, h2⟩, h3⟩, h4⟩, h5⟩, h6⟩, h7⟩ := h
  refine ⟨h1, h2, h3, h4, h5, fun i hi => ?_, fun i hi j hj e => ?_, fun i hi j hj => ((h6 i hi j hj).1).2, fun i hi j hj k hk => (h6 i hi j hj).2 k hk, fun r hr i hi c hc => ?_, fun r hr => ?_⟩
  · have := (h6 i hi i hi).1.1
    simpa using this
  · have := (h6 i hi j hj).1.1
    simpa [e] using this
  · have := (h7 r hr).1 i hi
    rw [hc] at this
    simpa using this
  · exact (h7 r hr).2
def sysL (tab : List (List Int)) (req : List (List (Option Int))) (st : Nat) : SysF := ⟨tab.length, req.length, fun i j => (tab.getD i []).getD j 0, fun r i => (req.getD r []).getD i none, st⟩
/-- how many turns the laws make -/
theorem turns (c : Int) (hc : 1 ≤ c) (hc2 : c ≤ 100) (l : Nat) : ∃ m : Nat, (if 1 < (if (l : Int) < c then (l : Int) else c) then (if (l : Int) < c then (l : Int) else c) else 1) = (m : Int) ∧ 1 ≤ m ∧ (m : Int) ≤ c := by
  by_cases z : (l : Int) < c
  · rw [if_pos z]
    by_cases y : 1 < (l : Int)
    · rw [if_pos y]; exact ⟨l, rfl, by omega, by omega⟩
    · rw [if_neg y]; exact ⟨1, rfl, by decide, by omega⟩
  · rw [if_neg z]
    by_cases y : 1 < c
    · rw [if_pos y]; exact ⟨c.toNat, by omega, by omega, by omega⟩
    · rw [if_neg y]; exact ⟨1, rfl, by decide, by omega⟩
end Mi.B

namespace Mi.B
open PySem PySem.Spec L2
variable {s : SysF} {S : Store} {n : Nat}

/-- a bool that says p -/
def Is (d : D) (p : Prop) : Prop := ∃ b, d = .bl b ∧ (b = true ↔ p)
theorem Is.mk {p : Prop} {b : Bool} (h : b = true ↔ p) : Is (.bl b) p := ⟨b, rfl, h⟩
theorem Is.mkD {p q : Prop} [Decidable q] (h : q ↔ p) : Is (.bl (decide q)) p := ⟨_, rfl, by rw [decide_eq_true_eq]; exact h⟩
theorem Is.no {p : Prop} (h : ¬ p) : Is (.bl false) p := ⟨_, rfl, by simp [h]⟩
theorem Is.yes {p : Prop} (h : p) : Is (.bl true) p := ⟨_, rfl, by simp [h]⟩
theorem Is.eq {d d' : D} {p : Prop} (h : Is d p) (h' : Is d' p) : d = d' := by
  obtain ⟨b, rfl, hb⟩ := h
  obtain ⟨c, rfl, hc⟩ := h'
  congr 1
  cases b <;> cases c <;> simp_all
theorem _root_.Mi.Says.is {r : R D} {S : Store} {p : Prop} (h : Says r S p) : ∃ b : Bool, r = .ok (.bl b) S ∧ (b = true ↔ p) := by
  rcases h with ⟨e, h⟩ | ⟨e, h⟩
  · exact ⟨true, e, by simp [h]⟩
  · exact ⟨false, e, by simp [h]⟩
theorem Gr.set {S S' : Store} (h : Gr S S') {k : Nat} {c : Cell} (hk : S.length ≤ k) : Gr S (S'.set k c) := by
  obtain ⟨J, rfl⟩ := h
  rw [List.set_append_right _ _ hk]
  exact ⟨_, rfl⟩
theorem Gr.lt {S S' : Store} (h : Gr S S') {m : Nat} (hm : m < S.length) : m < S'.length := Nat.lt_of_lt_of_le hm h.len
theorem get_lt {S : Store} {m : Nat} {c : Cell} (h : S[m]? = some c) : m < S.length := by rw [List.getElem?_eq_some_iff] at h; exact h.choose
theorem set_get {S : Store} {m : Nat} {c c' : Cell} (h : S[m]? = some c) : (S.set m c')[m]? = some c' := List.getElem?_set_self (get_lt h)
@[simp] theorem extV_ap {a b : ME} {e : Vs} {S : Store} : extV a b e S = (a e S).bind fun x S1 => match x with
  | .ref n => match S1[n]? with
    | some (.lst _) => (b e S1).bind fun y S2 => match y with
      | .ref m => match S2[n]?, S2[m]? with
        | some (.lst ds), some (.lst es) => if ds.length + es.length ≤ 1000000 then .ok .non (S2.set n (.lst (ds ++ es))) else .bad
        | _, _ => .bad
      | _ => .bad
    | _ => .bad
  | _ => .bad := id rfl
theorem src2_at {ms : ML} {e : Vs} {S S' : Store} {lo hi : Int} (h : ms e S = .ok [.int lo, .int hi] S') (h1 : -1000000 ≤ lo) (h2 : lo ≤ 1000000) (h3 : -1000000 ≤ hi) (h4 : hi ≤ 1000000) : src2 ms e S = .ok (rangeD lo (hi - lo).toNat, []) S' := by
  unfold src2
  rw [h]
  show (if hi < 1000000000 ∧ -1000000000 < hi ∧ lo < 1000000000 ∧ -1000000000 < lo then R.ok (rangeD lo (hi - lo).toNat, ([] : Gs)) S' else .bad) = _
  rw [if_pos ⟨by omega, by omega, by omega, by omega⟩]
/-! ### data that has nothing to do with the stream -/
def Wn (n : Nat) (S : Store) (k : Nat) (d : D) : Prop := ∃ w, wt n S 0 k d = some w
theorem Wn.ext {S S' : Store} {k : Nat} {d : D} (h : Wn n S k d) (e : Ext n S S') : Wn n S' k d := by
  obtain ⟨w, h⟩ := h; exact ⟨w, wt_ext e h⟩
theorem Wn.live {S : Store} {k : Nat} {d : D} (h : Wn n S k d) : Live S d := by
  obtain ⟨w, h⟩ := h
  obtain ⟨p, h1, _⟩ := wt_ok (by decide) k d w h
  exact ⟨k, p, h1⟩
theorem Wn.up {S : Store} {k j : Nat} {d : D} (h : Wn n S k d) (hk : k ≤ j) : Wn n S j d := by
  obtain ⟨w, h⟩ := h; exact ⟨w, wt_mono (fun _ _ _ e => e) (Nat.le_refl _) k j d w hk h⟩
theorem Wn.tup {S : Store} {k : Nat} {ds : List D} (h : ∀ x ∈ ds, Wn n S k x) : Wn n S (k + 1) (.tup ds) := by
  obtain ⟨ws, e⟩ := optAll_some (f := wt n S 0 k) h
  exact ⟨60 + ws.sum, Option.map_eq_some_iff.mpr ⟨ws, e, rfl⟩⟩
theorem Wn.lst {S : Store} {k m : Nat} {ds : List D} (hm : m ≠ n) (e : S[m]? = some (.lst ds)) (h : ∀ x ∈ ds, Wn n S k x) : Wn n S (k + 1) (.ref m) := by
  obtain ⟨ws, g⟩ := optAll_some (f := wt n S 0 k) h
  refine ⟨60 + ws.sum, ?_⟩
  unfold wt
  rw [if_neg hm, e]
  exact Option.map_eq_some_iff.mpr ⟨ws, g, rfl⟩
theorem Wn.dict {S : Store} {k m : Nat} (hm : m ≠ n) (e : S[m]? = some (.dK [])) : Wn n S (k + 1) (.ref m) := ⟨60, by unfold wt; rw [if_neg hm, e]⟩
theorem Wn.non {S : Store} {k : Nat} : Wn n S (k + 1) .non := ⟨60, rfl⟩
theorem Wn.bl {S : Store} {k : Nat} (b : Bool) : Wn n S (k + 1) (.bl b) := ⟨60, rfl⟩
theorem Wn.int {S : Store} {k : Nat} {i : Int} (h : i.natAbs ≤ 10 ^ 40) : Wn n S (k + 1) (.int i) := by
  obtain ⟨w, h, _⟩ := wt_int (n := n) (S := S) (c := 0) (k := k) h; exact ⟨w, h⟩
theorem Wn.small {S : Store} {k : Nat} {i : Int} (h0 : -1000000000 ≤ i) (h1 : i ≤ 1000000000) : Wn n S (k + 1) (.int i) := .int (small_le (b := 1000000000) (by omega) (by decide))
theorem Wn.str {S : Store} {k : Nat} {x : Str} (h : x = "" ∨ x = "0" ∨ x = "a") : Wn n S (k + 1) (.str x) := ⟨60, by unfold wt; rw [if_pos h]⟩
theorem Wn.seq {S : Store} {k : Nat} {q : List Nat} (h : ∀ r ∈ q, r < 1000000) : Wn n S (k + 2) (seqD q) := Wn.tup fun x hx => by
  simp at hx; obtain ⟨i, hi, rfl⟩ := hx
  have := h i hi
  exact .small (by omega) (by omega)
theorem is_schedule_says (hs : s.Ok) {q : List Nat} (hq : ∀ r ∈ q, r < s.m) (hl : q.length ≤ 400) {d : D} (h : Live S d) : Says (f_is_schedule [s.d, seqD q, d] S) S (SchP s q d) := by
  have e : f_is_schedule [s.d, seqD q, d] S = f_fits_schedule [s.d, seqD q, d] S := by
    have r : ∀ r : R D, (match exS r [some s.d, some (seqD q), some d] (fun d S1 => RS.rt d S1) with
      | .rt d S1 => R.ok d S1
      | .nx _ S1 => R.ok .non S1
      | .exc x _ S1 => R.exc x S1
      | _ => R.bad) = r := fun r => by cases r <;> rfl
    simp only [f_is_schedule, b_is_schedule]
    rw [runB_ap]
    simp only [seqS_ap, exprS_ap, retS_ap, callV_ap, argC_ap, argN_ap, vr_ap, bind_ok, exS_ok, check_system_at hs, check_sequence_at hq hl, List.map_cons, List.map_nil, List.replicate, List.append_nil, List.getElem?_cons_zero, List.getElem?_cons_succ]
    exact r _
  rw [e]
  exact fits_schedule_says hq h
theorem flat_nats : ∀ l : List Nat, optAll ((l.map natD).map flatO) = some (l.map fun (i : Nat) => V.int i)
  | [] => rfl
  | a :: l => by simp only [List.map_cons, optAll, natD, flatO, flat_nats l]
theorem inV_nats (i : Int) : ∀ l : List Nat, inV (V.int i) (l.map fun (i : Nat) => V.int i) = decide (0 ≤ i ∧ i.toNat ∈ l)
  | [] => by simp [inV]
  | a :: l => by
    have : inV (V.int i) ((a :: l).map fun (i : Nat) => V.int i) = (((a : Int) == i) || inV (V.int i) (l.map fun (i : Nat) => V.int i)) := rfl
    rw [this, inV_nats i l]
    by_cases z : (a : Int) = i
    · subst z; simp
    · have z' : ((a : Int) == i) = false := beq_eq_false_iff_ne.mpr z
      rw [z', Bool.false_or]
      congr 1
      refine propext ⟨fun h => ⟨h.1, List.mem_cons_of_mem _ h.2⟩, fun h => ⟨h.1, ?_⟩⟩
      rcases List.mem_cons.mp h.2 with e | e
      · exact absurd (by omega) z
      · exact e
theorem in_nats {i : Int} {m : Nat} {l : List Nat} (h : S[m]? = some (.lst (l.map natD))) : inB S (.int i) (.ref m) = some (decide (0 ≤ i ∧ i.toNat ∈ l)) := by
  have e1 : seqO S (.ref m) = some (false, l.map natD) := by simp [seqO, h]
  simp only [inB, flatO, e1, flat_nats l, inV_nats]
theorem atI_last {α : Type} {xs : List α} (h : xs ≠ []) : atI xs (-1) = some (xs.getLast h) := by
  have hl : 0 < xs.length := List.length_pos_iff.mpr h
  have e : ixN xs.length (-1) = some (xs.length - 1) := by
    unfold ixN
    rw [if_neg (by decide), if_pos (by omega)]
    congr 1
    omega
  unfold atI
  rw [e]
  show xs[xs.length - 1]? = _
  rw [List.getElem?_eq_getElem (by omega), List.getLast_eq_getElem]
theorem repr_bl (b : Bool) : ∃ x, ∀ S, reprD [.bl b] S = .ok (.str x) S := repr_pure (k := 1) rfl (by decide) ((Wt.bl (k := 0) b).fine (by decide) (by decide))
theorem schP_ints {q : List Nat} {is : List Int} : SchP s q (intsD is) ↔ is.length = q.length ∧ ∀ p ∈ q.zip is, 0 ≤ p.2 ∧ p.2.toNat ∈ s.al p.1 := by
  constructor
  · rintro ⟨t, e, hl, ht⟩
    simp only [intsD, seqD, D.tup.injEq] at e
    have e' : is = t.map fun (i : Nat) => (i : Int) := by
      have := congrArg (List.map fun d => match d with | D.int i => i | _ => 0) e
      simpa [List.map_map, Function.comp_def] using this
    subst e'
    refine ⟨by simpa using hl, fun p hp => ?_⟩
    rw [List.zip_map_right] at hp
    simp only [List.mem_map] at hp
    obtain ⟨⟨r, i⟩, hp, rfl⟩ := hp
    simp
    exact SysF.al_mem.mpr (ht _ hp)
  · rintro ⟨hl, h⟩
    have hn : ∀ i ∈ is, 0 ≤ i := fun i hi => by
      obtain ⟨k, hk, e⟩ := List.getElem_of_mem hi
      have hkq : k < q.length := by omega
      have := (q.zip is)[k]'(by simp; omega)
      have hm : (q[k], is[k]) ∈ q.zip is := by
        rw [List.mem_iff_getElem?]
        exact ⟨k, by simp [List.getElem?_zip_eq_some, hk, hkq]⟩
      have := (h _ hm).1
      rw [← e]; exact this
    refine ⟨is.map Int.toNat, ?_, by simpa using hl, fun p hp => ?_⟩
    · simp only [intsD, seqD, List.map_map, D.tup.injEq]
      exact List.map_congr_left fun i hi => by have := hn i hi; simp; omega
    · rw [List.zip_map_right] at hp
      simp only [List.mem_map] at hp
      obtain ⟨⟨r, i⟩, hp, rfl⟩ := hp
      exact SysF.al_mem.mp (h _ hp).2
end Mi.B

namespace Mi.B
open PySem PySem.Spec L2
variable {s : SysF} {S : Store} {n : Nat}

/-! ### work functions -/
def minL : List Int → Int
  | [] => 0
  | a :: as => minI a as
theorem minL_le {l : List Int} : ∀ x ∈ l, minL l ≤ x := by
  cases l with
  | nil => intro x h; cases h
  | cons a as =>
    obtain ⟨h1, h2, _⟩ := minI_le as a
    intro x hx
    rcases List.mem_cons.mp hx with rfl | hx
    · exact h1
    · exact h2 x hx
theorem minL_mem {l : List Int} (h : l ≠ []) : minL l ∈ l := by
  cases l with
  | nil => exact absurd rfl h
  | cons a as =>
    obtain ⟨_, _, h3⟩ := minI_le as a
    rcases h3 with h3 | h3
    · exact List.mem_cons.mpr (.inl h3)
    · exact List.mem_cons_of_mem _ h3
theorem minL_is {l : List Int} {m : Int} (hm : m ∈ l) (h : ∀ x ∈ l, m ≤ x) : minL l = m := by
  have h1 := minL_le m hm
  have h2 := h _ (minL_mem (fun e => by rw [e] at hm; cases hm))
  omega
theorem min1_lst {m : Nat} {is : List Int} (h : S[m]? = some (.lst (is.map D.int))) (hne : is ≠ []) : min1D [.ref m] S = .ok (.int (minL is)) S := by
  have : intsO S (.ref m) = some (false, is) := by simp only [intsO, seqO, h, intO_all]
  cases is with
  | nil => exact absurd rfl hne
  | cons a as => simp only [min1D, this]; rfl
theorem min1_tup {is : List Int} (hne : is ≠ []) : min1D [intsD is] S = .ok (.int (minL is)) S := by
  have : intsO S (intsD is) = some (true, is) := by simp only [intsO, intsD, seqO, intO_all]
  cases is with
  | nil => exact absurd rfl hne
  | cons a as => simp only [min1D, this]; rfl
def fl (n : Nat) (f : Nat → Int) : List Int := (List.range n).map f
@[simp] theorem fl_len (n : Nat) (f : Nat → Int) : (fl n f).length = n := by simp [fl]
def wD (s : SysF) (f : Nat → Int) : D := intsD (fl s.n f)
theorem wD_tabl (f : Nat → Int) : wD s f = .tup (tabl s.n fun i => .int (f i)) := by
  simp [wD, intsD, fl, tabl]
theorem wD_row (i : Nat) : s.rowD i = wD s (s.sw i) := by rw [wD_tabl]; rfl
theorem fl_congr {n : Nat} {f g : Nat → Int} (h : ∀ i < n, f i = g i) : fl n f = fl n g := List.map_congr_left fun i hi => h i (List.mem_range.mp hi)
theorem wD_congr {f g : Nat → Int} (h : ∀ i < s.n, f i = g i) : wD s f = wD s g := by rw [wD, wD, fl_congr h]
theorem ix_wD {f : Nat → Int} {i : Nat} (h : i < s.n) : ixD (wD s f) (.int i) S = .ok (.int (f i)) S := by rw [wD_tabl]; exact ix_tupl h
@[simp] theorem len_wD {f : Nat → Int} : lenD [wD s f] S = .ok (.int s.n) S := by simp [wD]
theorem rangeD0 (n : Nat) : rangeD 0 n = tabl n natD := by simp [rangeD, tabl, natD]
theorem tabl_ints (n : Nat) (f : Nat → Int) : (tabl n fun i => .int (f i)) = (fl n f).map D.int := by simp [tabl, fl]
def SysF.nw (s : SysF) (f : Nat → Int) (r t : Nat) : Int := minL ((s.al r).map fun i => f i + s.rv r i + s.sw i t)
theorem begin_work_at (hs : s.Ok) : f_begin_work [s.d] S = .ok (wD s (s.sw s.st)) S := by
  simp only [f_begin_work, b_begin_work]
  rw [runB_ap]
  simp [seqS_ap, asgS_ap, retS_ap, exS_ok, SysF.d, ix_tabD hs.st, wD_row]
theorem al_filter (r : Nat) : (tabl s.n natD).filterMap (fun d => match d with
    | .int i => if (s.rc r i.toNat).isSome then some d else none
    | _ => none) = (s.al r).map natD := by
  simp only [tabl, SysF.al, List.filterMap_map]
  induction List.range s.n with
  | nil => rfl
  | cons a as ih =>
    simp only [List.filterMap_cons, List.filter_cons, Function.comp, natD, Int.toNat_natCast] at *
    by_cases h : (s.rc r a).isSome = true
    · rw [if_pos h, if_pos h, List.map_cons, ← ih]; rfl
    · rw [if_neg h, if_neg h, ← ih]
def srv (s : SysF) (f : Nat → Int) (r : Nat) (i : Nat) : D := .tup [.int (f i + s.rv r i), s.rowD i]
theorem filterMap_some {α β : Type} (f : α → β) (l : List α) : l.filterMap (fun x => some (f x)) = l.map f := by
  induction l with
  | nil => rfl
  | cons a l ih => simp [ih]
theorem advance_work_at (hs : s.Ok) {f : Nat → Int} {r : Nat} (hr : r < s.m) : wpR (f_advance_work [s.d, wD s f, .int r] S) fun d S' => d = wD s (s.nw f r) ∧ Gr S S' := by
  have hn10 := hs.n10
  simp only [f_advance_work, b_advance_work, wp_run, wp_seq, wp_ifS]
  simp [SysF.d, ix_reqsD hr]
  rw [src1_nat (n := s.n) (S1 := S) (by simp [SysF.reqD]) (by omega), wp_ok, rangeD0]
  refine wp_lcX (fun d => match d with
    | .int i => if (s.rc r i.toNat).isSome then some d else none
    | _ => none) (by simp; omega) (fun _ _ => rfl) ?_ ?_
  · intro d S1 hd _
    obtain ⟨i, hi, rfl⟩ := tabl_mem hd
    simp [wipeE, natD, ix_reqD hi, isB_opt]
    cases s.rc r i <;> simp
  rw [al_filter]
  have h1 : (S ++ [.lst ((s.al r).map natD)])[S.length]? = some (.lst ((s.al r).map natD)) := get_last
  have g1 := Gr.app S [.lst ((s.al r).map natD)]
  generalize S ++ [.lst ((s.al r).map natD)] = S1 at *
  simp [h1]
  refine wp_lcX (fun d => match d with
    | .int i => some (srv s f r i.toNat)
    | _ => none) (by simp; have := s.al_len (r := r); omega) (fun S' g => chk_self (g.get h1)) ?_ ?_
  · intro d S2 hd _
    simp at hd
    obtain ⟨i, hi, rfl⟩ := hd
    obtain ⟨hi, ho⟩ := SysF.al_mem.mp hi
    simp [wipeE, natD, ix_wD hi, ix_reqD hi, optD_some ho, ix_tabD hi, srv, SysF.rv]
  have e2 : ((s.al r).map natD).filterMap (fun d => match d with
    | .int i => some (srv s f r i.toNat)
    | _ => none) = (s.al r).map (srv s f r) := by
    induction s.al r with
    | nil => rfl
    | cons a l ih => simp only [List.map_cons, List.filterMap_cons, natD, Int.toNat_natCast] at *; rw [ih]
  rw [e2]
  have h2 : (S1 ++ [.lst ((s.al r).map (srv s f r))])[S1.length]? = some (.lst ((s.al r).map (srv s f r))) := get_last
  have g2 := g1.appR [.lst ((s.al r).map (srv s f r))]
  generalize S1 ++ [.lst ((s.al r).map (srv s f r))] = S2 at *
  rw [src1_nat (n := s.n) (S1 := S2) (by simp) (by omega), wp_ok, rangeD0]
  refine wp_lcM (fun d => match d with
    | .int t => .int (s.nw f r t.toNat)
    | _ => .non) (by simp; omega) (fun _ _ => rfl) ?_ ?_
  · intro d S3 hd g3
    obtain ⟨t, ht, rfl⟩ := tabl_mem hd
    have h3 := g3.get h2
    simp [wipeE, natD, h3]
    refine wp_lcX (fun d => match d with
      | .tup [.int c, .tup row] => (atI row (t : Int)).bind fun x => match x with
        | .int y => some (.int (c + y))
        | _ => none
      | _ => none) (by simp; have := s.al_len (r := r); omega) (fun S' g => chk_self (g.get h3)) ?_ ?_
    · intro d S4 hd _
      simp at hd
      obtain ⟨i, hi, rfl⟩ := hd
      obtain ⟨hi, ho⟩ := SysF.al_mem.mp hi
      have hx : atI (tabl s.n fun j => D.int (s.sw i j)) (t : Int) = some (.int (s.sw i t)) := tabl_at ht
      simp [wipeE, srv, ix_rowD ht]
      simp [SysF.rowD, hx]
    · have e3 : ((s.al r).map (srv s f r)).filterMap (fun d => match d with
          | .tup [.int c, .tup row] => (atI row (t : Int)).bind fun x => match x with
            | .int y => some (.int (c + y))
            | _ => none
          | _ => none) = ((s.al r).map fun i => f i + s.rv r i + s.sw i t).map D.int := by
        induction s.al r with
        | nil => rfl
        | cons a l ih =>
          have hx : atI (tabl s.n fun j => D.int (s.sw a j)) (t : Int) = some (.int (s.sw a t)) := tabl_at ht
          simp only [List.map_cons, List.filterMap_cons] at *
          rw [ih]
          simp [srv, SysF.rowD, hx]
      rw [e3]
      have hne : ((s.al r).map fun i => f i + s.rv r i + s.sw i t) ≠ [] := by simpa using hs.al_ne hr
      rw [min1_lst get_last hne, wp_ok]
      exact ⟨Gr.app _ _, rfl⟩
  · intro J
    have e4 : (tabl s.n natD).map (fun d => match d with
        | .int t => D.int (s.nw f r t.toNat)
        | _ => .non) = (fl s.n (s.nw f r)).map D.int := by
      simp [tabl, fl, natD]
    rw [e4]
    have h5 := Gr.last S2 (Cell.lst ((fl s.n (s.nw f r)).map D.int)) J
    have g5 := g2.trans (Gr.app S2 (Cell.lst ((fl s.n (s.nw f r)).map D.int) :: J))
    generalize S2 ++ Cell.lst ((fl s.n (s.nw f r)).map D.int) :: J = S5 at *
    simp only [tupOfD, h5, wp_ok]
    exact ⟨rfl, g5⟩
end Mi.B

namespace Mi.B
open PySem PySem.Spec L2
variable {s : SysF} {S : Store} {n : Nat}

theorem law_first_work_at (hs : s.Ok) : f_law_first_work [s.d] S = .ok (wD s (s.sw s.st)) S := by
  simp only [f_law_first_work, b_law_first_work]
  rw [runB_ap]
  simp [retS_ap, exS_ok, ix_tabD hs.st, wD_row, wD, intsD, tupOfD]
def sm (s : SysF) (f : Nat → Int) (r t i : Nat) : Int := f i + s.rv r i + s.sw i t
def NO (s : SysF) (f : Nat → Int) (r : Nat) (S : Store) (k : Nat) (e : Vs) (S' : Store) : Prop := Gr S S' ∧ S'[S.length]? = some (.lst ((fl k (s.nw f r)).map D.int)) ∧ ∃ a b c d, e = [some s.d, some (wD s f), some (.int r), some (.ref S.length), a, b, c, d]
def NI (s : SysF) (f : Nat → Int) (r t p q : Nat) (L : List D) (S : Store) (j : Nat) (e : Vs) (S' : Store) : Prop := Gr S S' ∧ S'[S.length]? = some (.lst L) ∧ S'[p]? = some (.lst ((((s.al r).take j).map (sm s f r t)).map D.int)) ∧ S'[q]? = some (.lst ((s.al r).map natD)) ∧
  ∃ c d, e = [some s.d, some (wD s f), some (.int r), some (.ref S.length), some (.int t), some (.ref p), c, d]
theorem law_next_work_at (hs : s.Ok) {f : Nat → Int} {r : Nat} (hr : r < s.m) : wpR (f_law_next_work [s.d, wD s f, .int r] S) fun d S' => d = wD s (s.nw f r) ∧ Gr S S' := by
  have hn10 := hs.n10
  simp only [f_law_next_work, b_law_next_work, wp_run, wp_seq, wp_ifS]
  simp
  rw [src1_nat (n := s.n) (S1 := S ++ [.lst []]) (by simp) (by omega), wp_ok]
  refine wp_forR (NO s f r S) ⟨Gr.app _ _, by simp [fl], _, _, _, _, rfl⟩ ?_ ?_
  · rintro t e S1 ht ⟨g1, h1, a, b, c, d, rfl⟩
    have hlt := get_lt h1
    simp [allowed_at hr (by omega)]
    have e1 : S1 ++ [Cell.lst [], .lst ((s.al r).map natD)] = (S1 ++ [.lst []]) ++ [.lst ((s.al r).map natD)] := by simp
    have e2 : S1.length + 1 = (S1 ++ [Cell.lst []]).length := by simp
    rw [e1, e2]
    have k1 := ((Gr.app S1 [.lst []]).appR [.lst ((s.al r).map natD)]).get h1
    have k2 : ((S1 ++ [Cell.lst []]) ++ [.lst ((s.al r).map natD)])[S1.length]? = some (.lst []) := (Gr.app _ _).get get_last
    have k3 : ((S1 ++ [Cell.lst []]) ++ [.lst ((s.al r).map natD)])[(S1 ++ [Cell.lst []]).length]? = some (.lst ((s.al r).map natD)) := get_last
    have g2 := (g1.appR [.lst []]).appR [.lst ((s.al r).map natD)]
    have hq : (S1 ++ [Cell.lst []]).length = S1.length + 1 := by simp
    generalize (S1 ++ [Cell.lst []]).length = q at *
    generalize (S1 ++ [Cell.lst []]) ++ [.lst ((s.al r).map natD)] = S2 at *
    refine wp_forL (NI s f r t S1.length q ((fl t (s.nw f r)).map D.int) S) ⟨g2, k1, by simpa using k2, k3, _, _, rfl⟩ (fun j e S' h => chk_self h.2.2.2.1) ?_ ?_
    · rintro j d e S3 hj ⟨g3, m1, m2, m3, c, d', rfl⟩
      have hjl : j < (s.al r).length := by
        have := (List.getElem?_eq_some_iff.mp hj).1
        simpa using this
      obtain ⟨i, hi⟩ : ∃ i, (s.al r)[j]? = some i := ⟨_, List.getElem?_eq_getElem hjl⟩
      have hd : d = natD i := by
        rw [List.getElem?_map, hi] at hj; simpa using hj.symm
      subst hd
      obtain ⟨hin, ho⟩ := SysF.al_mem.mp (List.mem_of_getElem? hi)
      have hal := s.al_len (r := r)
      simp [natD, ix_wD hin, ix_reqsD hr, ix_reqD hin, optD_some ho, ix_tabD hin, ix_rowD ht, m2]
      rw [if_pos (by omega), wp_ok]
      refine ⟨g3.set g1.len, ?_, ?_, ?_, _, _, rfl⟩
      · rw [List.getElem?_set_ne (by omega)]; exact m1
      · rw [set_get m2]
        rw [List.take_add_one, hi]
        simp [sm, SysF.rv]
      · rw [List.getElem?_set_ne (by omega)]; exact m3
    · rintro e S3 ⟨g3, m1, m2, m3, c, d', rfl⟩
      have hln : ((s.al r).map natD).length = (s.al r).length := by simp
      rw [hln, List.take_length] at m2
      have hne : (s.al r).map (sm s f r t) ≠ [] := by simpa using hs.al_ne hr
      simp [m1]
      rw [min1_lst m2 hne, wp_ok]
      simp [m1]
      rw [if_pos (by omega), wp_ok]
      refine ⟨g3.set (Nat.le_refl _), ?_, _, _, _, _, rfl⟩
      rw [set_get m1]
      simp [fl, List.range_succ, SysF.nw]
      rfl
  · rintro e S1 ⟨g1, h1, a, b, c, d, rfl⟩
    simp [h1, tupOfD]
    exact ⟨rfl, g1⟩
/-! the program's questions -/
def WorkF (s : SysF) (f : Nat → Int) : Prop := (∀ i < s.n, 0 ≤ f i) ∧ ∀ i < s.n, ∀ j < s.n, f j ≤ f i + s.sw i j
theorem fits_request_nat {r : Nat} (hr : r < s.m) : f_fits_request [s.d, .int r] S = .ok (.bl true) S := by
  rw [fits_request_at (live_int _), isI_nat.mpr ⟨r, rfl, hr⟩]
theorem check_request_at {r : Nat} (hr : r < s.m) : f_check_request [s.d, .int r] S = .ok .non S := by
  simp only [f_check_request, b_check_request]
  rw [runB_ap]
  simp [ifS_ap, fits_request_nat hr, nxS_ap, exS_ok]
def WorkP (s : SysF) (d : D) : Prop := ∃ f, d = wD s f ∧ WorkF s f
theorem wD_get {xs : List D} {f : Nat → Int} (h : D.tup xs = wD s f) {i : Nat} (hi : i < s.n) : xs[i]? = some (.int (f i)) := by
  rw [wD_tabl] at h
  injection h with h
  rw [h, tabl_get hi]
def geti (xs : List D) (i : Nat) : Int := match xs[i]? with
  | some (.int v) => v
  | _ => 0
theorem wD_of {xs : List D} (hl : xs.length = s.n) (h : ∀ i < s.n, ∃ v, xs[i]? = some (.int v) ∧ 0 ≤ v) : D.tup xs = wD s (geti xs) ∧ ∀ i < s.n, 0 ≤ geti xs i := by
  have key : ∀ i < s.n, xs[i]? = some (.int (geti xs i)) ∧ 0 ≤ geti xs i := fun i hi => by
    obtain ⟨v, e, hv⟩ := h i hi
    have : geti xs i = v := by unfold geti; rw [e]
    rw [this]; exact ⟨e, hv⟩
  refine ⟨?_, fun i hi => (key i hi).2⟩
  rw [wD_tabl]
  exact congrArg D.tup (tabl_of hl fun i hi => (key i hi).1)
theorem wD_inj {f g : Nat → Int} (h : wD s f = wD s g) : ∀ i < s.n, f i = g i := fun i hi => by
  rw [wD_tabl, wD_tabl] at h
  injection h with h
  have := congrArg (fun l : List D => l[i]?) h
  simp only [tabl_get hi] at this
  injection this with this
  injection this
theorem WorkP.of {f : Nat → Int} (h : WorkP s (wD s f)) : WorkF s f := by
  obtain ⟨g, e, h1, h2⟩ := h
  have eq := wD_inj e
  exact ⟨fun i hi => by rw [eq i hi]; exact h1 i hi, fun i hi j hj => by rw [eq i hi, eq j hj]; exact h2 i hi j hj⟩
theorem fits_work_says (hs : s.Ok) {d : D} (h : Live S d) : Says (f_fits_work [s.d, d] S) S (WorkP s d) := by
  have hn10 := hs.n10
  obtain ⟨t, ht⟩ := h.tn
  refine .of ?_
  simp only [f_fits_work, b_fits_work, wp_run, wp_seq, wp_ifS]
  simp [is_tuple_of_eq ht]
  by_cases hT : isT d (s.n : Int) = true
  · obtain ⟨xs, rfl, hl⟩ := isT_len.mp hT
    simp [hT]
    refine wp_forL (fun k e S' => S' = S ∧ (∃ a b c, e = [some s.d, some (.tup xs), some s.tabD, some (.int s.n), a, b, c]) ∧ ∀ i < k, ∀ x, xs[i]? = some x → ∃ v, x = .int v ∧ 0 ≤ v) ⟨rfl, ⟨_, _, _, rfl⟩, fun i h => by omega⟩ (fun _ _ _ _ => rfl) ?_ ?_
    · rintro k y e S' hy ⟨rfl, ⟨a, b, c, rfl⟩, hi⟩
      obtain ⟨ty, hty⟩ := (h.tup y (List.mem_of_getElem? hy)).tn
      have no : (¬ ∃ v, y = .int v ∧ 0 ≤ v) → ¬ WorkP s (.tup xs) := by
        rintro z ⟨f, e, hf, _⟩
        have hk : k < s.n := by rw [← hl]; exact (List.getElem?_eq_some_iff.mp hy).1
        have := wD_get e hk
        rw [hy] at this
        cases this
        exact z ⟨_, rfl, hf k hk⟩
      simp [is_integer_eq hty]
      rcases tn_int hty with ⟨rfl, v, rfl⟩ | ⟨hne, hno⟩
      · by_cases z : v < 0
        · have := no (by rintro ⟨v', e, h'⟩; cases e; omega)
          simp [z, this]
        · simp [z]
          intro i hik x hx
          rcases Nat.lt_or_ge i k with w | w
          · exact hi i w x hx
          · rw [show i = k by omega, hy] at hx
            cases hx
            exact ⟨v, rfl, by omega⟩
      · have := no (by rintro ⟨v', e, h'⟩; exact hno v' e)
        simp [hne, this]
    · rintro e S' ⟨rfl, ⟨a, b, c, rfl⟩, hi⟩
      obtain ⟨hw, hpos⟩ := wD_of hl fun i hi' => by
        have hx : xs[i]? = some xs[i] := List.getElem?_eq_getElem (by omega)
        obtain ⟨v, e, hv⟩ := hi i (by omega) _ hx
        exact ⟨v, by rw [hx, e], hv⟩
      generalize geti xs = f at *
      rw [hw]
      have no : ∀ i < s.n, ∀ j < s.n, ¬ (f j ≤ f i + s.sw i j) → ¬ WorkP s (wD s f) := by
        rintro i hi j hj z ⟨g, e, _, hg⟩
        have eq := wD_inj e
        have := hg i hi j hj
        rw [← eq i hi, ← eq j hj] at this
        exact z this
      rw [src1_nat (n := s.n) (S1 := S') (by simp) (by omega)]
      simp only [wp_ok]
      refine wp_forR (fun k e S'' => S'' = S' ∧ (∃ a b c, e = [some s.d, some (wD s f), some s.tabD, some (.int s.n), a, b, c]) ∧ ∀ i < k, ∀ j < s.n, f j ≤ f i + s.sw i j) ⟨rfl, ⟨_, _, _, rfl⟩, fun i h => by omega⟩ ?_ ?_
      · rintro i e S'' hi' ⟨rfl, ⟨a, b, c, rfl⟩, hI⟩
        simp
        rw [src1_nat (n := s.n) (S1 := S'') (by simp) (by omega)]
        simp only [wp_ok]
        refine wp_forR (fun k e S3 => S3 = S'' ∧ (∃ a c, e = [some s.d, some (wD s f), some s.tabD, some (.int s.n), a, some (.int i), c]) ∧ ∀ j < k, f j ≤ f i + s.sw i j) ⟨rfl, ⟨_, _, rfl⟩, fun i h => by omega⟩ ?_ ?_
        · rintro j e S3 hj ⟨rfl, ⟨a, c, rfl⟩, hJ⟩
          simp [ix_wD hj, ix_wD hi', ix_tabD hi', ix_rowD hj]
          by_cases z : f i + s.sw i j < f j
          · have := no i hi' j hj (by omega)
            simp [z, this]
          · simp [z]
            intro j' hj'
            rcases Nat.lt_or_ge j' j with w | w
            · exact hJ j' w
            · rw [show j' = j by omega]; omega
        · rintro e S3 ⟨rfl, ⟨a, c, rfl⟩, hJ⟩
          refine ⟨rfl, ⟨_, _, _, rfl⟩, fun i' hi2 j hj => ?_⟩
          rcases Nat.lt_or_ge i' i with w | w
          · exact hI i' w j hj
          · rw [show i' = i by omega]; exact hJ j hj
      · rintro e S'' ⟨rfl, ⟨a, b, c, rfl⟩, hI⟩
        have : WorkP s (wD s f) := ⟨f, rfl, hpos, hI⟩
        simp [this]
  · have : ¬ WorkP s d := by
      rintro ⟨f, rfl, _⟩
      exact hT (isT_len.mpr ⟨_, rfl, by simp⟩)
    simp only [Bool.not_eq_true] at hT
    simp [hT, this]
theorem fits_work_at (hs : s.Ok) {f : Nat → Int} (hf : WorkF s f) : f_fits_work [s.d, wD s f] S = .ok (.bl true) S := by
  rcases fits_work_says (S := S) hs (live_ints (fl s.n f)) with ⟨e, _⟩ | ⟨_, q⟩
  · exact e
  · exact absurd ⟨f, rfl, hf⟩ q
theorem check_work_at (hs : s.Ok) {f : Nat → Int} (hf : WorkF s f) : f_check_work [s.d, wD s f] S = .ok .non S := by
  simp only [f_check_work, b_check_work]
  rw [runB_ap]
  simp [ifS_ap, fits_work_at hs hf, nxS_ap, exS_ok]
theorem is_work_says (hs : s.Ok) {d : D} (h : Live S d) : Says (f_is_work [s.d, d] S) S (WorkP s d) := by
  have e : f_is_work [s.d, d] S = f_fits_work [s.d, d] S := by
    have r : ∀ r : R D, (match exS r [some s.d, some d] (fun d S1 => RS.rt d S1) with
      | .rt d S1 => R.ok d S1
      | .nx _ S1 => R.ok .non S1
      | .exc x _ S1 => R.exc x S1
      | _ => R.bad) = r := fun r => by cases r <;> rfl
    simp only [f_is_work, b_is_work]
    rw [runB_ap]
    simp only [seqS_ap, exprS_ap, retS_ap, callV_ap, argC_ap, argN_ap, vr_ap, bind_ok, exS_ok, check_system_at hs, List.map_cons, List.map_nil, List.replicate, List.append_nil, List.getElem?_cons_zero, List.getElem?_cons_succ]
    exact r _
  rw [e]
  exact fits_work_says hs h
theorem first_work_at (hs : s.Ok) : f_first_work [s.d] S = .ok (wD s (s.sw s.st)) S := by
  simp only [f_first_work, b_first_work]
  rw [runB_ap]
  simp [seqS_ap, exprS_ap, retS_ap, exS_ok, check_system_at hs, begin_work_at hs]
theorem next_work_at (hs : s.Ok) {f : Nat → Int} (hf : WorkF s f) {r : Nat} (hr : r < s.m) : wpR (f_next_work [s.d, wD s f, .int r] S) fun d S' => d = wD s (s.nw f r) ∧ Gr S S' := by
  simp only [f_next_work, b_next_work, wp_run, wp_seq, wp_ifS]
  simp [check_system_at hs, check_work_at hs hf, check_request_at hr]
  exact advance_work_at hs hr
/-! the next work function is one -/
theorem nw_mem (hs : s.Ok) {f : Nat → Int} {r t : Nat} (hr : r < s.m) : ∃ i, i < s.n ∧ (s.rc r i).isSome ∧ s.nw f r t = f i + s.rv r i + s.sw i t := by
  have hne : ((s.al r).map fun i => f i + s.rv r i + s.sw i t) ≠ [] := by simpa using hs.al_ne hr
  have := minL_mem hne
  simp only [List.mem_map] at this
  obtain ⟨i, hi, e⟩ := this
  exact ⟨i, (SysF.al_mem.mp hi).1, (SysF.al_mem.mp hi).2, e.symm⟩
theorem nw_le {f : Nat → Int} {r t i : Nat} (hi : i < s.n) (ho : (s.rc r i).isSome) : s.nw f r t ≤ f i + s.rv r i + s.sw i t :=
  minL_le _ (List.mem_map.mpr ⟨i, SysF.al_mem.mpr ⟨hi, ho⟩, rfl⟩)
theorem rv_nonneg (hs : s.Ok) {r i : Nat} (hr : r < s.m) (hi : i < s.n) : 0 ≤ s.rv r i ∧ s.rv r i ≤ 1000 := by
  unfold SysF.rv
  cases h : s.rc r i with
  | none => exact ⟨by decide, by decide⟩
  | some c => exact hs.rc r hr i hi c h
theorem first_work_ok (hs : s.Ok) : WorkF s (s.sw s.st) := ⟨fun i hi => hs.nonneg _ hs.st i hi, fun i hi j hj => hs.tri _ hs.st i hi j hj⟩
theorem nw_work (hs : s.Ok) {f : Nat → Int} (hf : WorkF s f) {r : Nat} (hr : r < s.m) : WorkF s (s.nw f r) := by
  refine ⟨fun t ht => ?_, fun t ht u hu => ?_⟩
  · obtain ⟨i, hi, _, e⟩ := nw_mem hs (f := f) (t := t) hr
    have h1 := hf.1 i hi
    have h2 := (rv_nonneg hs hr hi).1
    have h3 := hs.nonneg i hi t ht
    omega
  · obtain ⟨i, hi, ho, e⟩ := nw_mem hs (f := f) (t := t) hr
    have h1 := nw_le (f := f) (t := u) hi ho
    have h2 := hs.tri i hi t ht u hu
    omega
def waF (s : SysF) (q : List Nat) : Nat → Int := q.foldl (fun f r => s.nw f r) (s.sw s.st)
theorem waF_snoc (q : List Nat) (r : Nat) : waF s (q ++ [r]) = s.nw (waF s q) r := by simp [waF]
def WA (s : SysF) (q : List Nat) (S : Store) (k : Nat) (e : Vs) (S' : Store) : Prop := Gr S S' ∧ ∃ a, e = [some s.d, some (seqD q), some (wD s (waF s (q.take k))), a]
theorem work_after_at (hs : s.Ok) {q : List Nat} (hq : ∀ r ∈ q, r < s.m) (hl : q.length ≤ 400) : wpR (f_work_after [s.d, seqD q] S) fun d S' => d = wD s (waF s q) ∧ Gr S S' := by
  simp only [f_work_after, b_work_after, wp_run, wp_seq, wp_ifS]
  simp [check_system_at hs, check_sequence_at hq hl, begin_work_at hs]
  simp [seqD_eq]
  refine wp_forL (WA s q S) ⟨Gr.refl _, none, rfl⟩ (fun _ _ _ _ => rfl) ?_ ?_
  · rintro k d e S1 hd ⟨g1, a, rfl⟩
    have hk : k < q.length := by simpa using (List.getElem?_eq_some_iff.mp hd).1
    obtain ⟨r, hrk⟩ : ∃ r, q[k]? = some r := ⟨_, List.getElem?_eq_getElem hk⟩
    have hd' : d = natD r := by
      rw [List.getElem?_map, hrk] at hd; simpa using hd.symm
    subst hd'
    simp [natD]
    refine wpR_mono (advance_work_at hs (hq r (List.mem_of_getElem? hrk))) ?_
    rintro _ S2 ⟨rfl, g2⟩
    refine ⟨g1.trans g2, some (.int r), ?_⟩
    rw [List.take_add_one, hrk]
    simp only [Option.toList, waF_snoc]
  · rintro e S1 ⟨g1, a, rfl⟩
    rw [List.length_map, List.take_length]
    simp [g1]
end Mi.B

namespace Mi.B
open PySem PySem.Spec L2
variable {s : SysF} {S : Store} {n : Nat}

/-! ### all schedules -/
def exF (s : SysF) (fs : List (List Nat)) (r : Nat) : List (List Nat) := fs.flatMap fun t => (s.al r).map fun i => t ++ [i]
def schsF (s : SysF) (q : List Nat) : List (List Nat) := q.foldl (exF s) [[]]
def Vs1 (s : SysF) (q t : List Nat) : Prop := t.length = q.length ∧ ∀ p ∈ q.zip t, p.2 < s.n ∧ (s.rc p.1 p.2).isSome
theorem Vs1.cons {r i : Nat} {q t : List Nat} : Vs1 s (r :: q) (i :: t) ↔ i ∈ s.al r ∧ Vs1 s q t := by
  constructor
  · rintro ⟨h1, h2⟩
    exact ⟨SysF.al_mem.mpr (h2 (r, i) (by simp)), by simpa using h1, fun p hp => h2 p (by simp [hp])⟩
  · rintro ⟨h1, h2, h3⟩
    refine ⟨by simpa using h2, fun p hp => ?_⟩
    simp only [List.zip_cons_cons, List.mem_cons] at hp
    rcases hp with rfl | hp
    · exact SysF.al_mem.mp h1
    · exact h3 p hp
theorem fold_mem {t : List Nat} : ∀ {q : List Nat} {fs : List (List Nat)}, t ∈ q.foldl (exF s) fs ↔ ∃ t0 ∈ fs, ∃ t1, t = t0 ++ t1 ∧ Vs1 s q t1
  | [], fs => by
    constructor
    · intro h; exact ⟨t, h, [], by simp, by simp [Vs1]⟩
    · rintro ⟨t0, h, t1, rfl, h1, _⟩
      have : t1 = [] := List.eq_nil_of_length_eq_zero h1
      subst this
      simpa using h
  | r :: q, fs => by
    rw [List.foldl_cons, fold_mem (q := q)]
    constructor
    · rintro ⟨t0, h, t1, rfl, hv⟩
      simp only [exF, List.mem_flatMap, List.mem_map] at h
      obtain ⟨u, hu, i, hi, rfl⟩ := h
      exact ⟨u, hu, i :: t1, by simp, Vs1.cons.mpr ⟨hi, hv⟩⟩
    · rintro ⟨t0, h, t1, rfl, hv⟩
      cases t1 with
      | nil => exact absurd hv.1 (by simp)
      | cons i t1 =>
        obtain ⟨hi, hv⟩ := Vs1.cons.mp hv
        exact ⟨t0 ++ [i], by simp only [exF, List.mem_flatMap, List.mem_map]; exact ⟨t0, h, i, hi, rfl⟩, t1, by simp, hv⟩
theorem schsF_mem {q t : List Nat} : t ∈ schsF s q ↔ Vs1 s q t := by
  rw [schsF, fold_mem]
  constructor
  · rintro ⟨t0, h, t1, rfl, hv⟩
    simp at h; subst h; simpa using hv
  · intro h; exact ⟨[], by simp, t, by simp, h⟩
theorem schsF_len {c : Nat} (hn : s.n ≤ c) : ∀ {q : List Nat} {fs : List (List Nat)}, (q.foldl (exF s) fs).length ≤ fs.length * c ^ q.length := by
  intro q
  induction q with
  | nil => intro fs; simp
  | cons r q ih =>
    intro fs
    rw [List.foldl_cons]
    have h1 := ih (fs := exF s fs r)
    have h2 : (exF s fs r).length ≤ fs.length * c := by
      clear h1 ih
      induction fs with
      | nil => simp [exF]
      | cons a fs ih =>
        have e : exF s (a :: fs) r = ((s.al r).map fun i => a ++ [i]) ++ exF s fs r := by simp [exF]
        rw [e, List.length_append, List.length_map, List.length_cons, Nat.add_mul]
        have := s.al_len (r := r)
        omega
    rw [List.length_cons, Nat.pow_succ]
    calc _ ≤ (exF s fs r).length * c ^ q.length := h1
      _ ≤ (fs.length * c) * c ^ q.length := Nat.mul_le_mul_right _ h2
      _ = _ := by rw [Nat.mul_assoc, Nat.mul_comm c]
/-! the least costs -/
def lastS (st : Nat) (t : List Nat) : Nat := t.getLastD st
theorem Vs1.snoc {r : Nat} {q t : List Nat} : Vs1 s (q ++ [r]) t ↔ ∃ t' i, t = t' ++ [i] ∧ Vs1 s q t' ∧ i ∈ s.al r := by
  constructor
  · rintro ⟨h1, h2⟩
    have hne : t ≠ [] := fun e => by rw [e] at h1; simp at h1
    have e := List.dropLast_concat_getLast hne
    have hl : t.dropLast.length = q.length := by rw [List.length_dropLast, h1]; simp
    refine ⟨t.dropLast, t.getLast hne, e.symm, ⟨hl, fun p hp => h2 p ?_⟩, ?_⟩
    · rw [← e, List.zip_append hl.symm]; exact List.mem_append_left _ hp
    · have e2 : (q ++ [r]).zip t = q.zip t.dropLast ++ [(r, t.getLast hne)] := by
        have := List.zip_append (l₁ := q) (r₁ := [r]) (l₂ := t.dropLast) (r₂ := [t.getLast hne]) hl.symm
        rw [e] at this; exact this
      have := h2 (r, t.getLast hne) (by rw [e2]; simp)
      exact SysF.al_mem.mpr this
  · rintro ⟨t', i, rfl, ⟨h1, h2⟩, hi⟩
    refine ⟨by simp [h1], fun p hp => ?_⟩
    rw [List.zip_append h1.symm] at hp
    rcases List.mem_append.mp hp with hp | hp
    · exact h2 p hp
    · simp at hp; subst hp; exact SysF.al_mem.mp hi
theorem costF_snoc {q t : List Nat} {r i st : Nat} (h : t.length = q.length) : costF s st (q ++ [r]) (t ++ [i]) = costF s st q t + (s.sw (lastS st t) i + s.rv r i) := by
  rw [costF_cut (j := q.length) (by simp) (by simp [h])]
  have e1 : (q ++ [r]).take q.length = q := by simp
  have e2 : (t ++ [i]).take q.length = t := by rw [← h]; simp
  have e3 : (q ++ [r]).drop q.length = [r] := by simp
  have e4 : (t ++ [i]).drop q.length = [i] := by rw [← h]; simp
  have e5 : midF st (t ++ [i]) q.length = lastS st t := by
    unfold midF lastS
    rw [← h]
    cases t with
    | nil => rfl
    | cons a t =>
      rw [if_neg (by simp)]
      rw [List.getLastD_eq_getLast?, List.getLast?_eq_getElem?]
      simp only [List.length_cons, Nat.add_sub_cancel]
      rw [List.getD_eq_getElem?_getD, List.getElem?_append_left (by simp)]
      rw [List.getElem?_eq_getElem (by simp)]
      rfl
  rw [e1, e2, e3, e4, e5]
  simp [costF]
theorem lastS_snoc {t : List Nat} {i st : Nat} : lastS st (t ++ [i]) = i := by simp [lastS]
theorem lastS_lt (hs : s.Ok) {q t : List Nat} (h : Vs1 s q t) : lastS s.st t < s.n := by
  unfold lastS
  rw [List.getLastD_eq_getLast?]
  cases e : t.getLast? with
  | none => exact hs.st
  | some i =>
    have hm := List.mem_of_getLast? e
    obtain ⟨k, hk, ek⟩ := List.getElem_of_mem hm
    have hkq : k < q.length := by rw [← h.1]; exact hk
    have := (h.2 (q[k], t[k]) (by rw [List.mem_iff_getElem?]; exact ⟨k, by simp [List.getElem?_zip_eq_some, hk, hkq]⟩)).1
    simpa [ek] using this
theorem waF_min (hs : s.Ok) {q : List Nat} (hq : ∀ r ∈ q, r < s.m) : ∀ k, k ≤ q.length → ∀ u < s.n, (∃ t, Vs1 s (q.take k) t ∧ waF s (q.take k) u = costF s s.st (q.take k) t + s.sw (lastS s.st t) u) ∧ ∀ t, Vs1 s (q.take k) t → waF s (q.take k) u ≤ costF s s.st (q.take k) t + s.sw (lastS s.st t) u := by
  intro k
  induction k with
  | zero =>
    intro _ u hu
    rw [List.take_zero]
    refine ⟨⟨[], by simp [Vs1], by simp [waF, costF, lastS]⟩, fun t ht => ?_⟩
    have : t = [] := List.eq_nil_of_length_eq_zero ht.1
    subst this
    simp [waF, costF, lastS]
  | succ k ih =>
    intro hk u hu
    have ih := ih (by omega)
    have hk' : k < q.length := by omega
    have e : q.take (k + 1) = q.take k ++ [q[k]] := by rw [List.take_add_one, List.getElem?_eq_getElem hk']; rfl
    rw [e, waF_snoc]
    have hr := hq _ (List.getElem_mem hk')
    generalize q[k] = r at *
    generalize q.take k = p at *
    constructor
    · obtain ⟨i, hi, ho, ei⟩ := nw_mem hs (f := waF s p) (t := u) hr
      obtain ⟨⟨t, ht, et⟩, _⟩ := ih i hi
      refine ⟨t ++ [i], Vs1.snoc.mpr ⟨t, i, rfl, ht, SysF.al_mem.mpr ⟨hi, ho⟩⟩, ?_⟩
      rw [ei, et, costF_snoc ht.1, lastS_snoc]
      omega
    · intro t ht
      obtain ⟨t', i, rfl, ht', hi⟩ := Vs1.snoc.mp ht
      obtain ⟨hi, ho⟩ := SysF.al_mem.mp hi
      have h1 := nw_le (f := waF s p) (t := u) hi ho
      have h2 := (ih i hi).2 t' ht'
      rw [costF_snoc ht'.1, lastS_snoc]
      omega
theorem waF_all (hs : s.Ok) {q : List Nat} (hq : ∀ r ∈ q, r < s.m) {u : Nat} (hu : u < s.n) : minL ((schsF s q).map fun t => costF s s.st q t + s.sw (lastS s.st t) u) = waF s q u := by
  have h := waF_min hs hq q.length (Nat.le_refl _) u hu
  rw [List.take_length] at h
  obtain ⟨⟨t, ht, e⟩, h2⟩ := h
  refine minL_is (List.mem_map.mpr ⟨t, schsF_mem.mpr ht, e.symm⟩) fun x hx => ?_
  obtain ⟨t, ht, rfl⟩ := List.mem_map.mp hx
  exact h2 t (schsF_mem.mp ht)
end Mi.B

namespace Mi.B
open PySem PySem.Spec L2
variable {s : SysF} {S : Store} {n : Nat}

def SO (s : SysF) (q : List Nat) (S : Store) (k : Nat) (e : Vs) (S' : Store) : Prop := Gr S S' ∧ ∃ (m : Nat) (a b c d : Option D), S.length ≤ m ∧ S'[m]? = some (.lst ((schsF s (q.take k)).map seqD)) ∧ e = [some s.d, some (seqD q), some (.ref m), a, b, c, d]
def SJ (s : SysF) (q : List Nat) (r m p : Nat) (fs : List (List Nat)) (x : Option D) (S : Store) (j : Nat) (e : Vs) (S' : Store) : Prop := Gr S S' ∧ ∃ (c d : Option D), S'[m]? = some (.lst (fs.map seqD)) ∧ S'[p]? = some (.lst ((exF s (fs.take j) r).map seqD)) ∧ e = [some s.d, some (seqD q), some (.ref m), x, some (.ref p), c, d]
theorem exF_len (hn : s.n ≤ 10) {fs : List (List Nat)} {r : Nat} : (exF s fs r).length ≤ fs.length * 10 := by
  induction fs with
  | nil => simp [exF]
  | cons a fs ih =>
    have e : exF s (a :: fs) r = ((s.al r).map fun i => a ++ [i]) ++ exF s fs r := by simp [exF]
    rw [e, List.length_append, List.length_map, List.length_cons, Nat.add_mul]
    have := s.al_len (r := r)
    omega
theorem schedules_at (hs : s.Ok) {q : List Nat} (hq : ∀ r ∈ q, r < s.m) (hb : ∀ k, k ≤ q.length → (schsF s (q.take k)).length ≤ 10000) (hlen : ∀ t, Vs1 s q t → t.length ≤ 1000) (hql : q.length ≤ 1000) : wpR (f_law_schedules [s.d, seqD q] S) fun d S' => Gr S S' ∧ ∃ m, d = .ref m ∧ S.length ≤ m ∧ S'[m]? = some (.lst ((schsF s q).map seqD)) := by
  have hn10 := hs.n10
  simp only [f_law_schedules, b_law_schedules, wp_run, wp_seq, wp_ifS]
  simp [seqD_eq]
  refine wp_forL (SO s q S) ⟨Gr.app _ _, S.length, none, none, none, none, Nat.le_refl _, by rw [get_last]; simp [schsF, seqD], rfl⟩ (fun _ _ _ _ => rfl) ?_ ?_
  · rintro k d e S1 hd ⟨g1, m, a, b, c, d', hm, hx, rfl⟩
    have hk : k < q.length := by simpa using (List.getElem?_eq_some_iff.mp hd).1
    obtain ⟨r, hrk⟩ : ∃ r, q[k]? = some r := ⟨_, List.getElem?_eq_getElem hk⟩
    have hd' : d = natD r := by
      rw [List.getElem?_map, hrk] at hd; simpa using hd.symm
    subst hd'
    have hr := hq r (List.mem_of_getElem? hrk)
    have htk : q.take (k + 1) = q.take k ++ [r] := by rw [List.take_add_one, hrk]; rfl
    have hsn : schsF s (q.take (k + 1)) = exF s (schsF s (q.take k)) r := by rw [htk]; simp [schsF]
    have hb1 := hb (k + 1) (by omega)
    have hb0 := hb k (by omega)
    have hlk : ∀ t ∈ schsF s (q.take k), t.length ≤ 1000 := fun t ht => by
      have := (schsF_mem.mp ht).1
      rw [List.length_take] at this; omega
    rw [hsn] at hb1
    have hfin : ∀ (x y z w : Option D) (S' : Store) (p : Nat), Gr S S' → S.length ≤ p → S'[p]? = some (.lst ((exF s (schsF s (q.take k)) r).map seqD)) → SO s q S (k + 1) [some s.d, some (seqD q), some (.ref p), x, y, z, w] S' := fun x y z w S' p g hp h => ⟨g, p, x, y, z, w, hp, by rw [hsn]; exact h, rfl⟩
    generalize schsF s (q.take k) = fs at *
    have hmlt := get_lt hx
    simp
    rw [List.getElem?_append_left hmlt, hx]
    simp
    refine wp_forL (SJ s q r m S1.length fs (some (natD r)) S) ⟨g1.appR _, c, d', by rw [List.getElem?_append_left hmlt, hx], by rw [get_last]; simp [exF], rfl⟩ (fun j e S' h => by obtain ⟨_, _, _, h, _⟩ := h; exact chk_self h) ?_ ?_
    · rintro j d e S2 hj ⟨g2, c, d', h2m, h2p, rfl⟩
      have hjl : j < fs.length := by simpa using (List.getElem?_eq_some_iff.mp hj).1
      obtain ⟨t, ht⟩ : ∃ t, fs[j]? = some t := ⟨_, List.getElem?_eq_getElem hjl⟩
      have hd' : d = seqD t := by
        rw [List.getElem?_map, ht] at hj; simpa using hj.symm
      subst hd'
      have htl := hlk t (List.mem_of_getElem? ht)
      have hp := get_lt h2p
      have htj : exF s (fs.take (j + 1)) r = exF s (fs.take j) r ++ (s.al r).map fun i => t ++ [i] := by
        rw [List.take_add_one, ht]; simp [exF]
      have hbj : (exF s (fs.take j) r).length ≤ 100000 := Nat.le_trans (exF_len hn10) (by rw [List.length_take]; omega)
      simp [h2p, natD, allowed_at hr (by omega)]
      have k1 := (Gr.app S2 [.lst ((s.al r).map natD)]).get h2m
      have k2 := (Gr.app S2 [.lst ((s.al r).map natD)]).get h2p
      have k3 : (S2 ++ [Cell.lst ((s.al r).map natD)])[S2.length]? = some (.lst ((s.al r).map natD)) := get_last
      have g3 := g2.appR [Cell.lst ((s.al r).map natD)]
      have e1 : S2 ++ [Cell.lst ((s.al r).map natD), .lst []] = (S2 ++ [.lst ((s.al r).map natD)]) ++ [.lst []] := by simp
      have e2 : S2.length + 1 = (S2 ++ [Cell.lst ((s.al r).map natD)]).length := by simp
      rw [e1, e2]
      generalize S2 ++ [Cell.lst ((s.al r).map natD)] = S3 at *
      refine wp_lcX (fun d => match d with
        | .int i => some (seqD (t ++ [i.toNat]))
        | _ => none) (by simp; have := s.al_len (r := r); omega) (fun S' g => chk_self (g.get k3)) ?_ ?_
      · intro d S4 hd _
        simp at hd
        obtain ⟨i, hi, rfl⟩ := hd
        simp [wipeE, natD, seqD]
        rw [if_pos (by omega), wp_ok]
        simp
      · have e3 : ((s.al r).map natD).filterMap (fun d => match d with
            | .int i => some (seqD (t ++ [i.toNat]))
            | _ => none) = ((s.al r).map fun i => t ++ [i]).map seqD := by
          induction s.al r with
          | nil => rfl
          | cons a l ih => simp only [List.map_cons, List.filterMap_cons, natD, Int.toNat_natCast] at *; rw [ih]
        rw [e3]
        have m1 := (Gr.app S3 [.lst (((s.al r).map fun i => t ++ [i]).map seqD)]).get k1
        have m2 := (Gr.app S3 [.lst (((s.al r).map fun i => t ++ [i]).map seqD)]).get k2
        have m3 : (S3 ++ [Cell.lst (((s.al r).map fun i => t ++ [i]).map seqD)])[S3.length]? = some (.lst (((s.al r).map fun i => t ++ [i]).map seqD)) := get_last
        have g4 := g3.appR [Cell.lst (((s.al r).map fun i => t ++ [i]).map seqD)]
        generalize S3 ++ [Cell.lst (((s.al r).map fun i => t ++ [i]).map seqD)] = S4 at *
        simp only [m2, m3]
        rw [if_pos (by simp; have := s.al_len (r := r); omega), wp_ok]
        refine ⟨g4.set g1.len, _, _, ?_, ?_, rfl⟩
        · rw [List.getElem?_set_ne (by omega)]; exact m1
        · rw [set_get m2, htj, List.map_append]
    · rintro e S2 ⟨g2, c, d', h2m, h2p, rfl⟩
      rw [List.length_map, List.take_length] at h2p
      simp
      exact hfin _ _ _ _ _ _ g2 g1.len h2p
  · rintro e S1 ⟨g1, m, a, b, c, d, hm, hx, rfl⟩
    rw [List.length_map, List.take_length] at hx
    simp
    exact ⟨g1, hm, hx⟩
end Mi.B

namespace Mi.B
open PySem PySem.Spec L2
variable {s : SysF} {S : Store} {n : Nat}

def CostL (s : SysF) (q t : List Nat) (S : Store) (ds : List D) (e : Vs) (S' : Store) : Prop := S' = S ∧ ∃ (q' t' : List Nat) (i : Nat) (x y : Option D) (tot : Int), ds = (q'.zip t').map (fun p => .tup [natD p.1, natD p.2]) ∧ (∀ r ∈ q', r < s.m) ∧ t'.length = q'.length ∧ (∀ p ∈ q'.zip t', p.2 < s.n ∧ (s.rc p.1 p.2).isSome) ∧ i < s.n ∧
      e = [some s.d, some (seqD q), some (seqD t), some (.int i), some (.int tot), x, y] ∧ tot + costF s i q' t' = costF s s.st q t
theorem law_cost_at {q t : List Nat} (hq : ∀ r ∈ q, r < s.m) (hl : t.length = q.length) (ht : ∀ p ∈ q.zip t, p.2 < s.n ∧ (s.rc p.1 p.2).isSome) (hst : s.st < s.n) : f_law_schedule_cost [s.d, seqD q, seqD t] S = .ok (.int (costF s s.st q t)) S := by
  suffices h : wpR (f_law_schedule_cost [s.d, seqD q, seqD t] S) fun d S' => d = .int (costF s s.st q t) ∧ S' = S by
    obtain ⟨d, S', e, rfl, rfl⟩ := wpR_ex h
    exact e
  simp only [f_law_schedule_cost, b_law_schedule_cost, wp_run, wp_seq, wp_ifS]
  simp
  rw [srcZ_tup (xs := q.map natD) (ys := t.map natD) (S' := S) (by simp; exact ⟨rfl, rfl⟩), wp_ok, zipD_map]
  simp only
  refine wp_for (CostL s q t S) (fun _ _ _ _ => rfl) ?_ ?_ _ _ _ ⟨rfl, q, t, s.st, none, none, 0, rfl, hq, hl, ht, hst, rfl, by omega⟩
  · rintro d ds e S' ⟨rfl, q', t', i, x, y, tot, hds, hq', hl', ht', hi, rfl, hc⟩
    cases q' with
    | nil => simp at hds
    | cons r q' =>
      cases t' with
      | nil => simp at hl'
      | cons a t' =>
        simp only [List.zip_cons_cons, List.map_cons, List.cons.injEq] at hds
        obtain ⟨rfl, rfl⟩ := hds
        obtain ⟨ha, hs⟩ := ht' (r, a) (by simp)
        have hr := hq' r (by simp)
        simp [natD, step_cost_at hi ha hr hs]
        refine ⟨rfl, q', t', a, _, _, _, rfl, fun r hr => hq' r (by simp [hr]), by simpa using hl', fun p hp => ht' p (by simp [hp]), ha, rfl, ?_⟩
        simp only [costF] at hc
        omega
  · rintro e S' ⟨rfl, q', t', i, x, y, tot, hds, hq', hl', ht', hi, rfl, hc⟩
    have hz := costF_nil (s := s) (i := i) (zip_nil hds)
    simp
    omega


theorem ix_last {st : Nat} {t : List Nat} : ixD (.tup (natD st :: t.map natD)) (.int (-1)) S = .ok (natD (lastS st t)) S := by
  have e : natD st :: t.map natD = (st :: t).map natD := rfl
  rw [ix_tup_ap, e, atI_last (by simp), List.getLast_map]
  simp only [lastS]
  congr 2
  cases t with
  | nil => rfl
  | cons a t => rw [List.getLast_cons (by simp), List.getLastD_eq_getLast?, List.getLast?_eq_some_getLast (by simp)]; rfl
/-- [x] * 2 and [x, y] -/
theorem mul_two {m : Nat} {x : D} (h : S[m]? = some (.lst [x])) : mulD (.ref m) (.int 2) S = .ok (.ref S.length) (S ++ [.lst [x, x]]) := by
  simp [mulD, h]
theorem repr_pair {m m' : Nat} {x : D} {k b : Nat} (h : S[m]? = some (.lst [x, x])) (h' : S[m']? = some (.lst [x, x])) (hw : Wt S k b x) (hk : k < 60) (hb : b ≤ 400000) : ∃ z, reprD [.ref m] S = .ok (.str z) S ∧ reprD [.ref m'] S = .ok (.str z) S := by
  refine repr_lists ((Wt.lst (k := k) (b := b) h fun y hy => ?_).fine (by omega) ?_) h h'
  · simp at hy; subst hy; exact hw
  · exact (by simp; omega)
end Mi.B

namespace Mi.B
open PySem PySem.Spec L2
variable {s : SysF} {S : Store} {n : Nat}

theorem waF_ok (hs : s.Ok) {q : List Nat} (hq : ∀ r ∈ q, r < s.m) : ∀ k, k ≤ q.length → WorkF s (waF s (q.take k)) := by
  intro k
  induction k with
  | zero => intro _; rw [List.take_zero]; exact first_work_ok hs
  | succ k ih =>
    intro hk
    have hk' : k < q.length := by omega
    have e : q.take (k + 1) = q.take k ++ [q[k]] := by rw [List.take_add_one, List.getElem?_eq_getElem hk']; rfl
    rw [e, waF_snoc]
    exact nw_work hs (ih (by omega)) (hq _ (List.getElem_mem hk'))
theorem waF_work (hs : s.Ok) {q : List Nat} (hq : ∀ r ∈ q, r < s.m) : WorkF s (waF s q) := by
  have := waF_ok hs hq q.length (Nat.le_refl _)
  rwa [List.take_length] at this
theorem waF_bound (hs : s.Ok) {q : List Nat} (hq : ∀ r ∈ q, r < s.m) {u : Nat} (hu : u < s.n) : 0 ≤ waF s q u ∧ waF s q u ≤ 2000 * q.length + 1000 := by
  refine ⟨(waF_work hs hq).1 u hu, ?_⟩
  have h := (waF_min hs hq q.length (Nat.le_refl _) u hu).1
  rw [List.take_length] at h
  obtain ⟨t, ht, e⟩ := h
  have h1 := costF_bound hs hq ht.2 hs.st
  have h2 := hs.le _ (lastS_lt hs ht) u hu
  omega
theorem Wt.work {f : Nat → Int} (hs : s.Ok) (h : ∀ i < s.n, (f i).natAbs ≤ 10 ^ 40) : Wt S 2 660 (wD s f) := by
  refine (Wt.ints (q := fl s.n f) fun i hi => ?_).le (by have := hs.n10; simp; omega)
  simp only [fl, List.mem_map, List.mem_range] at hi
  obtain ⟨j, hj, rfl⟩ := hi
  exact h j hj
theorem Wt.after (hs : s.Ok) {q : List Nat} (hq : ∀ r ∈ q, r < s.m) (hl : q.length ≤ 1000) : Wt S 2 660 (wD s (waF s q)) :=
  Wt.work hs fun i hi => by
    have := waF_bound hs hq hi
    exact small_le (b := 3000000) (by omega) (by decide)
theorem repr_wD (hs : s.Ok) {f : Nat → Int} (h : ∀ i < s.n, (f i).natAbs ≤ 10 ^ 40) : ∃ x, ∀ S, reprD [wD s f] S = .ok (.str x) S :=
  repr_pure (k := 2) (shal_ints _) (by decide) ((Wt.work hs h).fine (by decide) (by decide))
theorem pair_repr (hs : s.Ok) {q : List Nat} (hq : ∀ r ∈ q, r < 1000) (hl : q.length ≤ 400) : ∃ x, ∀ S, reprD [.tup [s.d, seqD q]] S = .ok (.str x) S := by
  refine repr_pure (k := 5) ?_ (by decide) ((Wt.tup (S := []) (k := 4) (b := 30000) (ds := [s.d, seqD q]) ?_).fine (by decide) ?_)
  · show ([s.d, seqD q] : List D).all (shal 4) = true
    rw [List.all_cons, List.all_cons, shal_sys, shal_seq]; rfl
  · intro x hx
    simp at hx
    rcases hx with rfl | rfl
    · exact (Wt.sys hs).le (by decide)
    · exact ((Wt.seq (fun r hr => by have := hq r hr; omega)).up (by decide)).le (by omega)
  · exact (by decide : 60 + 2 * 30000 ≤ 1000000)
theorem repr_lstP {k b : Nat} {ds : List D} (h : ∀ d ∈ ds, shal k d = true) (hk : k ≤ 59) (w : ∀ S, ∀ d ∈ ds, Wt S k b d) (hb : 60 + ds.length * b ≤ 1000000) : ∃ x, ∀ (S : Store) (m : Nat), S[m]? = some (.lst ds) → reprD [.ref m] S = .ok (.str x) S := by
  have f : Fine [.lst ds] (.ref 0) := (Wt.lst (S := [.lst ds]) (m := 0) (k := k) (b := b) rfl fun x hx => w _ x hx).fine (by omega) hb
  obtain ⟨p, e, o⟩ := f
  refine ⟨p.shown, fun S m hm => repr_at ?_ o⟩
  unfold toR at e ⊢
  rw [hm]
  simp only [List.getElem?_cons_zero] at e ⊢
  have : ds.map (toR S 59) = ds.map (toR [Cell.lst ds] 59) := List.map_congr_left fun x hx => by
    have up : ∀ j, k ≤ j → shal j x = true := fun j hj => by
      induction hj with
      | refl => exact h x hx
      | step _ ih => exact shal_up _ _ ih
    exact shal_toR 59 x S _ (up 59 hk)
  rw [this]; exact e
theorem mem_lt1000 (hs : s.Ok) {q : List Nat} (hq : ∀ r ∈ q, r < s.m) : ∀ r ∈ q, r < 1000 := fun r hr => by
  have := hq r hr; have := hs.m8; omega
theorem systemS {S : Store} {n size total : Nat} (h : Strm n S) (h1 : 2 ≤ size) (h2 : size ≤ 10) (h3 : 1 ≤ total) (h4 : total ≤ 8) : wpR (f_law_system [.ref n, .int size, .int total] S) fun d S' => (SysP d ∧ ∃ xs ys c, d = .tup [.tup xs, .tup ys, c] ∧ xs.length = size ∧ ys.length = total) ∧ Ext n S S' := by
  have hl := h.lt
  simp only [f_law_system, b_law_system, wp_run, wp_seq, wp_ifS]
  simp
  rw [src1_nat (n := total) (S1 := S) ?_ (by omega)]
  rotate_left
  · simp
  rw [wp_ok]
  refine wp_lcD h (CostsP size) (by rw [rangeD_len]; omega) ?_ ?_
  · rintro d S1 hd y
    simp [wipeE]
    refine wpR_mono (request y.1 (by omega) (by omega)) ?_
    rintro r S2 ⟨hr, x⟩
    exact ⟨x, hr⟩
  · rintro acc S4 y4 hacc ha hc
    rw [rangeD_len] at ha
    refine wpR_mono (switching y4.1 (by omega) (by omega)) ?_
    rintro tb S5 ⟨htb, ⟨xs, rfl, hxl⟩, x5⟩
    have h5 := x5.get (show S.length ≠ n by omega) hacc
    simp only [tupOfD, h5, wp_ok, argC_ap, argN_ap, bind_ok, app_ap]
    have y5 := y4.trans x5
    simp
    refine wpR_mono (drawT size rfl y5.1 (by omega) (by omega)) ?_
    rintro d S6 ⟨⟨v, rfl, hv⟩, x6, z6⟩
    show (SysP (.tup [.tup xs, .tup acc, .int v]) ∧ _) ∧ _
    refine ⟨⟨⟨_, _, _, xs, rfl, rfl, htb h1 h2, ⟨acc, rfl, by omega, by omega, by rw [hxl]; exact hc⟩, ?_⟩, xs, acc, ⟨rfl, rfl⟩, hxl, ha⟩, y5.trans x6⟩
    rw [isI_iff]
    exact ⟨v, rfl, by omega, by omega⟩
theorem systemN {S : Store} {n size total : Nat} (h : Strm n S) (h1 : 2 ≤ size) (h2 : size ≤ 10) (h3 : 1 ≤ total) (h4 : total ≤ 8) : wpR (f_law_system [.ref n, .int size, .int total] S) fun d S' => (∃ s : SysF, s.Ok ∧ s.n = size ∧ s.m = total ∧ d = s.d) ∧ Ext n S S' :=
  wpR_mono (systemS h h1 h2 h3 h4) fun d S' q => by
    obtain ⟨⟨hs, xs, ys, c, e, e1, e2⟩, x⟩ := q
    obtain ⟨s, ok, rfl⟩ := hs.get
    refine ⟨⟨s, ok, ?_, ?_, rfl⟩, x⟩
    · simp only [SysF.d, SysF.tabD, D.tup.injEq, List.cons.injEq] at e
      rw [← e1, ← e.1]; simp
    · simp only [SysF.d, SysF.reqsD, D.tup.injEq, List.cons.injEq] at e
      rw [← e2, ← e.2.1]; simp
end Mi.B

namespace Mi
open PySem PySem.Spec L2

/-! ### comprehensions with two fors -/
def lcI (t : MT) (tt : MB) (el : ME) (vs : List Nat) (gs : Gs) (n0 : Nat) (e : Vs) (k : Store → R D) : List D → Store → R D
  | [], S => if chk gs S = true then k S else .bad
  | d :: ds, S => if chk gs S = true then (noX (t d (wipeE e vs) S)).bind fun e1 S1 => (noX (tt e1 S1)).bind fun b S2 => match b with
      | true => (noX (el e1 S2)).bind fun y S3 => match S3[n0]? with
        | some (.lst acc) => if acc.length < 1000000 then lcI t tt el vs gs n0 e k ds (S3.set n0 (.lst (acc ++ [y]))) else .bad
        | _ => .bad
      | false => lcI t tt el vs gs n0 e k ds S2
    else .bad
def lcO (t : MT) (tt : MB) (src1 : MI) (t1 : MT) (tt1 : MB) (el : ME) (vs vs1 : List Nat) (gs : Gs) (n0 : Nat) (e : Vs) : List D → Store → R D
  | [], S => if chk gs S = true then .ok (.ref n0) S else .bad
  | d :: ds, S => if chk gs S = true then (noX (t d (wipeE e vs) S)).bind fun e1 S1 => (noX (tt e1 S1)).bind fun b S2 => match b with
      | true => (noX (src1 e1 S2)).bind fun a S3 => lcI t1 tt1 el vs1 a.2 n0 e1 (fun S4 => lcO t tt src1 t1 tt1 el vs vs1 gs n0 e ds S4) a.1 S3
      | false => lcO t tt src1 t1 tt1 el vs vs1 gs n0 e ds S2
    else .bad
def lc2V (src : MI) (t : MT) (tt : MB) (src1 : MI) (t1 : MT) (tt1 : MB) (el : ME) (vs vs1 : List Nat) : ME := fun e S => (src e S).bind fun a S1 => lcO t tt src1 t1 tt1 el vs vs1 a.2 S1.length e a.1 (S1 ++ [.lst []])
theorem lcI_chk {K : PySem.W.Frag} {W : Wish} {φ : List Addr} {σ : L2.St} {H : Hp} {e0 : Vs} {Q : VK} {t : MT} {tt : MB} {el : ME} {vs : List Nat} {gs : Gs} {n0 : Nat} {e : Vs} {k : Store → R D} {ds : List D} {S : Store} (p : post (RepV K) K W φ σ H e0 Q (lcI t tt el vs gs n0 e k ds S)) : chk gs S = true := by
  cases ds <;> (unfold lcI at p; split at p <;> first | assumption | exact p.elim)
theorem lcO_chk {K : PySem.W.Frag} {W : Wish} {φ : List Addr} {σ : L2.St} {H : Hp} {e0 : Vs} {Q : VK} {t : MT} {tt : MB} {src1 : MI} {t1 : MT} {tt1 : MB} {el : ME} {vs vs1 : List Nat} {gs : Gs} {n0 : Nat} {e : Vs} {ds : List D} {S : Store} (p : post (RepV K) K W φ σ H e0 Q (lcO t tt src1 t1 tt1 el vs vs1 gs n0 e ds S)) : chk gs S = true := by
  cases ds <;> (unfold lcO at p; split at p <;> first | assumption | exact p.elim)
theorem walk_it {J : It} {n : Nat} {G : Hp → Prop} {Y : Nat → Hp → V → Hp → Prop} (w : Walk J n G Y) {B : V → Hp → (Hp → Prop) → Prop} {Qd : Hp → Prop} {H0 : Hp} (Pv : Nat → Hp → Prop) (h0 : Pv 0 H0) (hG : ∀ i H, i ≤ n → Pv i H → G H)
    (hs : ∀ i x H H', i < n → Pv i H → Y i H x H' → B x H' (Pv (i + 1))) (hd : ∀ H, Pv n H → Qd H) :
    ∃ W : Nat → Nat → Hp → Prop, (∃ m, W 0 m H0) ∧ ∀ i m H, W i m H →
      (J.stop i H ∧ Qd H) ∨ (J.go i H ∧ ∃ Nx : Hp → Prop, (∀ H', Nx H' → ∃ m', m' < m ∧ W (i + 1) m' H') ∧ ∀ x H', J.yld i H x H' → B x H' Nx) := by
  refine ⟨fun i m H => m = n - i ∧ i ≤ n ∧ Pv i H, ⟨n, by simp, Nat.zero_le _, h0⟩, ?_⟩
  rintro i m H ⟨rfl, hi, p⟩
  have q := hG i H hi p
  by_cases hlt : i < n
  · exact .inr ⟨w.goes i H hlt q, Pv (i + 1), fun H' p' => ⟨n - (i + 1), by omega, rfl, hlt, p'⟩, fun x H' y => hs i x H H' hlt p (w.yields i H x H' hlt q y)⟩
  · have e : i = n := by omega
    subst e
    exact .inl ⟨w.stops H q, hd H p⟩
section
variable {X : Cx} {W : Wish} {e : Expr} {src src1 : MI} {t t1 : MT} {tt tt1 : MB} {el : ME} {ts ts1 vs vs1 : List Nat}
/-- the inner for: with the list at D, its place n0, and what is done after it -/
theorem rd_lcI {K : PySem.W.Frag} (hs1 : ∀ j ∈ ts1, j ∈ vs1) {σ σ2 : L2.St} {H0 H4 : Hp} {Q : VK} {φ0 φ : List Addr} {A : Addr} {n0 : Nat} {e0 e' : Vs} {S2 : Store} {kx : Store → R D} {Nx : Hp → Prop}
    (hn0 : φ0[n0]? = some A) (q0 : φ0 <+: φ) (k0 : Keep H0 H4) (g2 : Good K φ σ2 H4 e' S2) (en : EnvOk K φ H4 σ e0)
    (p : post (RepV K) K W φ σ H4 e0 Q ((noX (src1 e' S2)).bind fun a S3 => lcI t1 tt1 el vs1 a.2 n0 e' kx a.1 S3))
    (hd : ∀ φ' H' S, φ <+: φ' → Keep H4 H' → StOk K φ' H' S → EnvOk K φ' H' σ e0 → post (RepV K) K W φ' σ H' e0 Q (kx S) → Nx H') :
    rdI K noExc src1 σ2 H4 fun J1 H5 => ∃ W1 : Nat → Nat → Hp → Prop, (∃ m, W1 0 m H5) ∧ ∀ j k H, W1 j k H →
      (J1.stop j H ∧ Nx H) ∨ (J1.go j H ∧ ∃ Nx1 : Hp → Prop, (∀ H', Nx1 H' → ∃ k', k' < k ∧ W1 (j + 1) k' H') ∧ ∀ x H', J1.yld j H x H' → rdT K ts1 t1 x (wipe σ2 vs1) H' fun σ3 H5 => wipe σ3 vs1 = wipe σ2 vs1 ∧ rdB K noExc tt1 σ3 H5 fun b H6 =>
        if b = true then rd K noExc el σ3 H6 fun y H7 => ∃ acc, H7 A = some (.lst acc) ∧ acc.length < sizeLine ∧ Nx1 (upd H7 A (.lst (acc ++ [y]))) else Nx1 H6) := by
  refine ⟨φ, e', S2, g2, ?_⟩
  cases hm0 : src1 e' S2 with
  | exc x s => rw [hm0] at p; exact p.elim
  | bad => rw [hm0] at p; exact p.elim
  | ok a S3 =>
    rw [hm0] at p
    intro φ1 H5 J1 q1 k1 st1 rJ
    obtain ⟨ds, gs⟩ := a
    obtain ⟨G, Y, w, hG, hY⟩ := rJ
    have p1 : post (RepV K) K W φ1 σ H5 e0 Q (lcI t1 tt1 el vs1 gs n0 e' kx ds S3) := post.mono q1 k1 p
    refine walk_it w (B := fun x H' Nx1 => rdT K ts1 t1 x (wipe σ2 vs1) H' fun σ3 H5 => wipe σ3 vs1 = wipe σ2 vs1 ∧ rdB K noExc tt1 σ3 H5 fun b H6 =>
        if b = true then rd K noExc el σ3 H6 fun y H7 => ∃ acc, H7 A = some (.lst acc) ∧ acc.length < sizeLine ∧ Nx1 (upd H7 A (.lst (acc ++ [y]))) else Nx1 H6)
      (fun j H' => ∃ φ' S, φ1 <+: φ' ∧ Keep H5 H' ∧ Good K φ' σ2 H' e' S ∧ EnvOk K φ' H' σ e0 ∧ post (RepV K) K W φ' σ H' e0 Q (lcI t1 tt1 el vs1 gs n0 e' kx (ds.drop j) S)) ?_ (fun i H' hi h => ?_) (fun i x H' H2 hi h y => ?_) fun H' h => ?_
    · exact ⟨φ1, S3, List.prefix_refl _, Keep.refl _, g2.mono q1 k1 st1, en.mono q1 k1, p1⟩
    · obtain ⟨φ', S, q, k, g, _, p⟩ := h
      exact ⟨φ', hG φ' H' S q k g.st (lcI_chk p)⟩
    · obtain ⟨φ', S, q, k, g, en', p⟩ := h
      have hc := lcI_chk p
      obtain ⟨d, hd', rv, hH⟩ := hY φ' H' i x H2 q k hi (hG φ' H' S q k g.st hc) y
      have kk : Keep H' H2 ∧ StOk K φ' H2 S := by
        rcases hH with rfl | ⟨T, xs, hT, rfl⟩
        · exact ⟨Keep.refl _, g.st⟩
        · exact ⟨Keep.new hT, g.st.new hT⟩
      have ed : ds.drop i = d :: ds.drop (i + 1) := by
        have hi' : i < ds.length := hi
        rw [List.drop_eq_getElem_cons hi']
        have : ds[i]? = some d := hd'
        rw [List.getElem?_eq_getElem hi'] at this
        rw [Option.some.inj this]
      rw [ed] at p
      unfold lcI at p
      rw [if_pos hc] at p
      have gw : Good K φ' (wipe σ2 vs1) H2 (wipeE e' vs1) S := ⟨(g.env.mono (List.prefix_refl φ') kk.1).wipes vs1, kk.2⟩
      refine ⟨φ', wipeE e' vs1, S, d, gw, rv, ?_⟩
      cases hm : t1 d (wipeE e' vs1) S with
      | exc x s => rw [hm] at p; exact p.elim
      | bad => rw [hm] at p; exact p.elim
      | ok e3 S' =>
        rw [hm] at p
        intro φ2 σ3 H3 q2 k2 off g3
        refine ⟨wipe_off off hs1, φ2, e3, S', g3, ?_⟩
        have pA : post (RepV K) K W φ2 σ H3 e0 Q ((noX (tt1 e3 S')).bind fun b S2 => match b with
          | true => (noX (el e3 S2)).bind fun y S3 => match S3[n0]? with
            | some (.lst acc) => if acc.length < 1000000 then lcI t1 tt1 el vs1 gs n0 e' kx (ds.drop (i + 1)) (S3.set n0 (.lst (acc ++ [y]))) else .bad
            | _ => .bad
          | false => lcI t1 tt1 el vs1 gs n0 e' kx (ds.drop (i + 1)) S2) := post.mono q2 (kk.1.trans k2) p
        have kA : Keep H5 H3 := k.trans (kk.1.trans k2)
        have qA : φ1 <+: φ2 := q.trans q2
        cases hb : tt1 e3 S' with
        | exc x s => rw [hb] at pA; exact pA.elim
        | bad => rw [hb] at pA; exact pA.elim
        | ok b S2 =>
          rw [hb] at pA
          intro φ3 H6 v q3 k3 st3 rb
          subst rb
          have pB := post.mono q3 k3 pA
          have envB : EnvOk K φ3 H6 σ2 e' := (g.env.mono q2 (kk.1.trans k2)).mono q3 k3
          have envA : EnvOk K φ3 H6 σ e0 := (en'.mono q2 (kk.1.trans k2)).mono q3 k3
          cases v with
          | false => exact iteF ⟨φ3, S2, qA.trans q3, kA.trans k3, ⟨envB, st3⟩, envA, pB⟩
          | true =>
            refine iteT ⟨φ3, e3, S2, ⟨g3.env.mono q3 k3, st3⟩, ?_⟩
            have pC : post (RepV K) K W φ3 σ H6 e0 Q ((noX (el e3 S2)).bind fun y S3 => match S3[n0]? with
              | some (.lst acc) => if acc.length < 1000000 then lcI t1 tt1 el vs1 gs n0 e' kx (ds.drop (i + 1)) (S3.set n0 (.lst (acc ++ [y]))) else .bad
              | _ => .bad) := pB
            cases he : el e3 S2 with
            | exc x s => rw [he] at pC; exact pC.elim
            | bad => rw [he] at pC; exact pC.elim
            | ok y S3 =>
              rw [he] at pC
              intro φ4 H7 vy q4 k4 st4 ry
              have pD : post (RepV K) K W φ4 σ H7 e0 Q (match S3[n0]? with
                | some (.lst acc) => if acc.length < 1000000 then lcI t1 tt1 el vs1 gs n0 e' kx (ds.drop (i + 1)) (S3.set n0 (.lst (acc ++ [y]))) else .bad
                | _ => .bad) := post.mono q4 k4 pC
              split at pD
              · rename_i acc hacc
                split at pD
                · rename_i hl
                  have hD4 := pre_get ((((q0.trans q1).trans qA).trans q3).trans q4) hn0
                  obtain ⟨xs, h0, r0⟩ := st4.lst hD4 hacc
                  obtain ⟨u, hu, t1, t2⟩ := st4.some_ hD4 hacc trivial
                  have k5 : Keep H7 (upd H7 A (.lst (xs ++ [vy]))) := Keep.put hu t1 t2
                  have st5 := (st4.put (c := .lst (acc ++ [y])) hD4 hacc trivial (⟨xs ++ [vy], upd_same, (r0.snoc ry).mono (List.prefix_refl φ4) k5⟩ : CellOk K φ4 (upd H7 A (.lst (xs ++ [vy]))) A (.lst (acc ++ [y])))).1
                  exact ⟨xs, h0, lim_lt (by rw [r0.len]; omega), φ4, _, (qA.trans q3).trans q4, ((kA.trans k3).trans k4).trans k5, ⟨(envB.mono q4 k4).mono (List.prefix_refl φ4) k5, st5⟩, (envA.mono q4 k4).mono (List.prefix_refl φ4) k5, post.mono (List.prefix_refl φ4) k5 pD⟩
                · exact pD.elim
              · exact pD.elim
    · obtain ⟨φ', S, q, k, g, en', p⟩ := h
      have hc := lcI_chk p
      rw [show ds.drop (ds, gs).1.length = [] from List.drop_length] at p
      unfold lcI at p
      rw [if_pos hc] at p
      exact hd φ' H' S (q1.trans q) (k1.trans k) g.st en' p
theorem rd_lc2 {K : PySem.W.Frag} (hs : ∀ j ∈ ts, j ∈ vs) (hs1 : ∀ j ∈ ts1, j ∈ vs1) {σ : L2.St} {H : Hp} {Q : VK} (h : rd K W (lc2V src t tt src1 t1 tt1 el vs vs1) σ H Q) : tLc2 (rdI K W src) (rdT K ts t) (rdB K noExc tt) (rdI K noExc src1) (rdT K ts1 t1) (rdB K noExc tt1) (rd K noExc el) vs vs1 σ H Q := by
  obtain ⟨φ0, e0, S0, g0, p0⟩ := h
  refine bindG g0 p0 fun a S1 φ1 H1 J e1 k1 g1 r p1 => fun D hD => ?_
  obtain ⟨ds, gs⟩ := a
  obtain ⟨G, Y, w, hG, hY⟩ := r
  have hn0 : (φ1 ++ [D])[S1.length]? = some D := g1.st.at_new D
  refine walk_it w (B := fun x H' Nx => rdT K ts t x (wipe σ vs) H' fun σ2 H2 => wipe σ2 vs = wipe σ vs ∧ rdB K noExc tt σ2 H2 fun b H3 =>
    if b = true then rdI K noExc src1 σ2 H3 fun J1 H4 => ∃ W1 : Nat → Nat → Hp → Prop, (∃ m, W1 0 m H4) ∧ ∀ j k H, W1 j k H →
      (J1.stop j H ∧ Nx H) ∨ (J1.go j H ∧ ∃ Nx1 : Hp → Prop, (∀ H', Nx1 H' → ∃ k', k' < k ∧ W1 (j + 1) k' H') ∧ ∀ x H', J1.yld j H x H' → rdT K ts1 t1 x (wipe σ2 vs1) H' fun σ3 H5 => wipe σ3 vs1 = wipe σ2 vs1 ∧ rdB K noExc tt1 σ3 H5 fun b H6 =>
        if b = true then rd K noExc el σ3 H6 fun y H7 => ∃ acc, H7 D = some (.lst acc) ∧ acc.length < sizeLine ∧ Nx1 (upd H7 D (.lst (acc ++ [y]))) else Nx1 H6)
    else Nx H3)
    (fun i H' => ∃ φ S, φ1 ++ [D] <+: φ ∧ Keep H1 H' ∧ Good K φ σ H' e0 S ∧ post (RepV K) K W φ σ H' e0 Q (lcO t tt src1 t1 tt1 el vs vs1 gs S1.length e0 (ds.drop i) S)) ?_ (fun i H' hi h => ?_) (fun i x H' H2 hi h y => ?_) fun H' h => ?_
  · have st : StOk K (φ1 ++ [D]) (upd H1 D (.lst [])) (S1 ++ [.lst []]) := g1.st.push hD (cell_lst hD .nil)
    exact ⟨φ1 ++ [D], S1 ++ [Cell.lst []], List.prefix_refl _, Keep.new hD, g1.mono (pre_push D) (Keep.new hD) st, post.mono (pre_push D) (Keep.new hD) p1⟩
  · obtain ⟨φ, S, q, k, g, p⟩ := h
    exact ⟨φ, hG φ H' S ((pre_push D).trans q) k g.st (lcO_chk p)⟩
  · obtain ⟨φ, S, q, k, g, p⟩ := h
    have hc := lcO_chk p
    obtain ⟨d, hd, rv, hH⟩ := hY φ H' i x H2 ((pre_push D).trans q) k hi (hG φ H' S ((pre_push D).trans q) k g.st hc) y
    have kk : Keep H' H2 ∧ StOk K φ H2 S := by
      rcases hH with rfl | ⟨T, xs, hT, rfl⟩
      · exact ⟨Keep.refl _, g.st⟩
      · exact ⟨Keep.new hT, g.st.new hT⟩
    have ed : ds.drop i = d :: ds.drop (i + 1) := by
      have hi' : i < ds.length := hi
      rw [List.drop_eq_getElem_cons hi']
      have : ds[i]? = some d := hd
      rw [List.getElem?_eq_getElem hi'] at this
      rw [Option.some.inj this]
    rw [ed] at p
    unfold lcO at p
    rw [if_pos hc] at p
    have gw : Good K φ (wipe σ vs) H2 (wipeE e0 vs) S := ⟨(g.env.mono (List.prefix_refl φ) kk.1).wipes vs, kk.2⟩
    refine ⟨φ, wipeE e0 vs, S, d, gw, rv, ?_⟩
    cases hm : t d (wipeE e0 vs) S with
    | exc x s => rw [hm] at p; exact p.elim
    | bad => rw [hm] at p; exact p.elim
    | ok e' S' =>
      rw [hm] at p
      intro φ2 σ2 H3 q2 k2 off g2
      refine ⟨wipe_off off hs, φ2, e', S', g2, ?_⟩
      have pA : post (RepV K) K W φ2 σ H3 e0 Q ((noX (tt e' S')).bind fun b S2 => match b with
        | true => (noX (src1 e' S2)).bind fun a S3 => lcI t1 tt1 el vs1 a.2 S1.length e' (fun S4 => lcO t tt src1 t1 tt1 el vs vs1 gs S1.length e0 (ds.drop (i + 1)) S4) a.1 S3
        | false => lcO t tt src1 t1 tt1 el vs vs1 gs S1.length e0 (ds.drop (i + 1)) S2) := post.mono q2 (kk.1.trans k2) p
      have kA : Keep H1 H3 := k.trans (kk.1.trans k2)
      have qA : φ1 ++ [D] <+: φ2 := q.trans q2
      cases hb : tt e' S' with
      | exc x s => rw [hb] at pA; exact pA.elim
      | bad => rw [hb] at pA; exact pA.elim
      | ok b S2 =>
        rw [hb] at pA
        intro φ3 H4 v q3 k3 st3 rb
        subst rb
        have pB := post.mono q3 k3 pA
        have env0 : EnvOk K φ3 H4 σ e0 := (g.env.mono q2 (kk.1.trans k2)).mono q3 k3
        cases v with
        | false => exact iteF ⟨φ3, S2, qA.trans q3, kA.trans k3, ⟨env0, st3⟩, pB⟩
        | true =>
          refine iteT (rd_lcI hs1 hn0 (qA.trans q3) (kA.trans k3) ⟨g2.env.mono q3 k3, st3⟩ env0 pB fun φ' H' S q' k' st' en' p' => ?_)
          exact ⟨φ', S, (qA.trans q3).trans q', (kA.trans k3).trans k', ⟨en', st'⟩, p'⟩
  · obtain ⟨φ, S, q, k, g, p⟩ := h
    have hc := lcO_chk p
    rw [show ds.drop (ds, gs).1.length = [] from List.drop_length] at p
    unfold lcO at p
    rw [if_pos hc] at p
    exact p.give g.st (.mkRef (pre_get q hn0))
theorem q_lc2 (hs : ∀ j ∈ ts, j ∈ vs) (hs1 : ∀ j ∈ ts1, j ∈ vs1) (h : PE X e (tLc2 (rdI X.K W src) (rdT X.K ts t) (rdB X.K noExc tt) (rdI X.K noExc src1) (rdT X.K ts1 t1) (rdB X.K noExc tt1) (rd X.K noExc el) vs vs1)) : PE X e (rd X.K W (lc2V src t tt src1 t1 tt1 el vs vs1)) := pe_imp h fun _ _ _ h => rd_lc2 hs hs1 h
theorem s_setLc2 {st : Stmt} {i : Nat} (hs : ∀ j ∈ ts, j ∈ vs) (hs1 : ∀ j ∈ ts1, j ∈ vs1) (h : PS X st (tAsg (tLc2 (rdI X.K W src) (rdT X.K ts t) (rdB X.K noExc tt) (rdI X.K noExc src1) (rdT X.K ts1 t1) (rdB X.K noExc tt1) (rd X.K noExc el) vs vs1) (gName i))) : PS X st (rdS X.K W (setS i (lc2V src t tt src1 t1 tt1 el vs vs1))) := ps_imp h fun E σ H h => by
  obtain ⟨φ, e, S, g, p⟩ := h
  exact rd_lc2 hs hs1 (bindS g p fun d S1 φ1 H1 v e1 k1 g1 r p1 => p1.next ⟨g1.env.set r i, g1.st⟩)
end
end Mi

namespace Mi
open PySem PySem.Spec PyProof.Rows L2

/-! ### zip of two iterators, each of its own kind -/
/-- an iterator at it over the things at l: its item, its end, what leaves it as it is -/
structure Itr (it l : Addr) (xs : Array Value) (J : Nat → Heap → Prop) (G : Heap → Prop) : Prop where
  item : ∀ {prog : Program} {w : World} {A : Around} {E : Value → Shared → Prop} {t : Shared} {i : Nat} {x : Value} {Q : Value → Shared → Prop}, J i t.heap → G t.heap → xs[i]? = some x →
    (∀ g, J (i + 1) g → Heap.SameBut it t.heap g → Q x { t with heap := g }) → wpAny (model prog w) A (Builtin.SmallTypes.nextOf (.ref it)) Q E t
  fin : ∀ {prog : Program} {w : World} {A : Around} {E : Value → Shared → Prop} {t : Shared} {i : Nat} {Q : Value → Shared → Prop}, A.handled = none → J i t.heap → G t.heap → xs[i]? = none →
    (∀ g e, Heap.ExtBut it t.heap g → (∃ o, g.get? e = some o ∧ o.cls = .type "StopIteration") → E (.ref e) { t with heap := g }) → wpAny (model prog w) A (Builtin.SmallTypes.nextOf (.ref it)) Q E t
  mv : ∀ {c : Addr} {g g' : Heap} {i : Nat}, J i g → Heap.ExtBut c g g' → it ≠ c → J i g'
  gv : ∀ {c : Addr} {g g' : Heap}, G g → Heap.ExtBut c g g' → l ≠ c → G g'
  up : ∀ {g g' : Heap} {i : Nat}, J i g → (∀ o, g.get? it = some o → g'.get? it = some o) → J i g'
  dat : ∀ {g : Heap} {i : Nat}, J i g → ∃ o vs, g.get? it = some o ∧ o.data = .fields vs
theorem itr_list (it l : Addr) (xs : Array Value) : Itr it l xs (fun i g => g.IsListIter it l i) (fun g => g.IsList l xs) :=
  ⟨fun a b c d => wpAny_nextOf_list_item a b c d, fun a b c d e => wpAny_nextOf_list_end a b c d e, fun a b c => a.extBut b c, fun a b c => a.extBut b c, fun a b => a.at b, fun ⟨o, e, _, d⟩ => ⟨o, _, e, d⟩⟩
theorem itr_tuple (it l : Addr) (xs : Array Value) : Itr it l xs (fun i g => g.IsTupleIter it l i) (fun g => g.IsTuple l xs) :=
  ⟨fun a b c d => RZ.nextOf_tuple_item a b c d, fun a b c d e => RZ.nextOf_tuple_end a b c d e, fun a b c => a.extBut b c, fun a b c => a.extBut b c, fun a b => a.at b, fun ⟨o, e, _, d⟩ => ⟨o, _, e, d⟩⟩
/-- what a step of the zip at z may change -/
def ZKeep (z TO i1 i2 : Addr) (g g' : Heap) : Prop := ∀ c o, c ≠ z → c ≠ TO → c ≠ i1 → c ≠ i2 → g.get? c = some o → g'.get? c = some o
section
variable {prog : Program} {w : World} {A : Around} {E : Value → Shared → Prop} {t : Shared} {z TI TO i1 i2 l1 l2 : Addr} {J1 J2 : Nat → Heap → Prop} {G1 G2 : Heap → Prop} {xs ys : Array Value} {k : Nat}
theorem zg_item (B1 : Itr i1 l1 xs J1 G1) (B2 : Itr i2 l2 ys J2 G2) {x y p q : Value} {Q : Value → Shared → Prop} (D : ZipApart z TI TO i1 i2 l1 l2)
    (Z : IsZip t.heap z TI TO .none) (PI' : IsPair t.heap TI (.ref i1) (.ref i2)) (PO : IsPair t.heap TO p q) (j1 : J1 k t.heap) (j2 : J2 k t.heap) (b1 : G1 t.heap) (b2 : G2 t.heap) (ex : xs[k]? = some x) (ey : ys[k]? = some y)
    (hQ : ∀ g, IsZip g z TI TO (rawInt t.heap.objs.size) → IsPair g TO x y → J1 (k + 1) g → J2 (k + 1) g → IsPair g t.heap.objs.size x y → g.objs.size = t.heap.objs.size + 1 → ZKeep z TO i1 i2 t.heap g → Q (.ref t.heap.objs.size) { t with heap := g }) :
    wpAny (model prog w) A (Builtin.«zip.__next__» ⟨[.ref z], []⟩) (fun f t' => ∃ v, f = .done (.ret v) ∧ Q v t') E t := by
  show wpAny _ _ (field (.ref z) 2 >>= _) _ _ t
  refine wpAny_bind (wpAny_field Z rfl (x := .bool false) rfl ?_)
  show wpAny _ _ (field (.ref z) 3 >>= _) _ _ t
  refine wpAny_bind (wpAny_field Z rfl (x := .ref TI) rfl (wpAny_bind (wpAny_seqItems PI' rfl ?_)))
  show wpAny _ _ (Builtin.SmallTypes.ownedTupleIsFree (.ref z) >>= _) _ _ t
  refine wpAny_bind ?_
  unfold Builtin.SmallTypes.ownedTupleIsFree
  refine wpAny_bind (wpAny_field Z rfl (x := .none) rfl (wpAny_pure ?_))
  simp only [if_true]
  refine wpAny_bind (wpAny_rule (wpAny_bind (wpAny_field Z rfl (x := .ref TO) rfl (wpAny_bind (wpAny_setField_rec Z (by simp) fun ga Za ca => ?_)))))
  replace Za : IsZip ga z TI TO .ellipsis := Za
  refine wpAny_bind ?_
  simp only [List.zipIdx_cons, List.zipIdx_nil, List.forIn_cons, List.forIn_nil]
  -- the first item
  refine wpAny_bind (wpAny_bind (wpAny_onRaise ?_))
  show wpAny _ _ (Builtin.SmallTypes.nextOf (.ref i1) >>= _) _ _ _
  refine wpAny_bind (B1.item (B1.mv j1 ca.extBut D.i1z) (B1.gv b1 ca.extBut D.l1z) ex fun gb jb cb => wpAny_pure ?_)
  have POb : IsPair gb TO p q := cb.extBut _ _ D.TOi1 (ca.extBut _ _ D.TOz PO)
  refine wpAny_bind (wpAny_seqItems POb rfl (wpAny_bind (wpAny_updateSeq_pair POb fun gc POc cc => ?_)))
  replace POc : IsPair gc TO x q := POc
  refine wpAny_bind (wpAny_letGo (wpAny_pure ?_))
  -- the second
  refine wpAny_bind (wpAny_bind (wpAny_onRaise ?_))
  show wpAny _ _ (Builtin.SmallTypes.nextOf (.ref i2) >>= _) _ _ _
  have j2c := B2.mv (B2.mv (B2.mv j2 ca.extBut D.i2z) cb.extBut D.i12.symm) cc.extBut D.TOi2.symm
  have b2c := B2.gv (B2.gv (B2.gv b2 ca.extBut D.l2z) cb.extBut D.l2i1) cc.extBut D.l2TO
  refine wpAny_bind (B2.item j2c b2c ey fun gd jd cd => wpAny_pure ?_)
  have POd : IsPair gd TO x q := cd.extBut _ _ D.TOi2 POc
  refine wpAny_bind (wpAny_seqItems POd rfl (wpAny_bind (wpAny_updateSeq_pair POd fun ge POe ce => ?_)))
  replace POe : IsPair ge TO x y := POe
  refine wpAny_bind (wpAny_letGo (wpAny_pure (wpAny_pure ?_)))
  refine wpAny_bind (wpAny_seqItems POe rfl (wpAny_bind (wpAny_newTuple ?_)))
  have sz : ge.objs.size = t.heap.objs.size := by rw [ce.1, cd.1, cc.1, cb.1, ca.1]
  have Ze : IsZip ge z TI TO .ellipsis := ce.extBut _ _ D.TOz.symm (cd.extBut _ _ D.i2z.symm (cc.extBut _ _ D.TOz.symm (cb.extBut _ _ D.i1z.symm Za)))
  have ke : ZKeep z TO i1 i2 t.heap ge := fun c o n1 n2 n3 n4 e => ce.extBut _ _ n2 (cd.extBut _ _ n4 (cc.extBut _ _ n2 (cb.extBut _ _ n3 (ca.extBut _ _ n1 e))))
  have j1e := B1.mv (B1.mv (B1.mv jb cc.extBut D.TOi1.symm) cd.extBut D.i12) ce.extBut D.TOi1.symm
  have j2e := B2.mv jd ce.extBut D.TOi2.symm
  have zlt : z < ge.objs.size := Heap.lt_size Ze
  show wpAny _ _ (Builtin.SmallTypes.ownedTupleHandOut (.ref z) (.ref ge.objs.size) >>= _) _ _ _
  refine wpAny_bind ?_
  unfold Builtin.SmallTypes.ownedTupleHandOut
  have Zf : IsZip (ge.push { cls := .type "tuple", data := .seq #[x, y] }) z TI TO .ellipsis := Heap.get?_push_of_some _ Ze
  refine wpAny_bind (wpAny_setField_rec Zf (by simp) fun gh Zh ch => ?_)
  replace Zh : IsZip gh z TI TO (rawInt ge.objs.size) := Zh
  refine wpAny_setField_rec Zh (by simp) fun gi Zi ci => ?_
  replace Zi : IsZip gi z TI TO (rawInt ge.objs.size) := Zi
  have up : ∀ c o, c ≠ z → ge.get? c = some o → gi.get? c = some o := fun c o n e => ci.extBut _ _ n (ch.extBut _ _ n (Heap.get?_push_of_some _ e))
  have Ti : IsPair gi ge.objs.size x y := ci.extBut _ _ (Nat.ne_of_gt zlt) (ch.extBut _ _ (Nat.ne_of_gt zlt) (Heap.get?_push_size _ rfl))
  have szi : gi.objs.size = ge.objs.size + 1 := by rw [ci.1, ch.1, Heap.size_push]
  rw [sz] at Zi Ti szi
  refine wpAny_pure ⟨_, rfl, ?_⟩
  show Q (.ref ge.objs.size) _
  rw [sz]
  exact hQ gi Zi (up _ _ D.TOz POe) (B1.up j1e fun o e => up _ o D.i1z e) (B2.up j2e fun o e => up _ o D.i2z e) Ti szi fun c o n1 n2 n3 n4 e => up c o n1 (ke c o n1 n2 n3 n4 e)
theorem zg_end (B1 : Itr i1 l1 xs J1 G1) (B2 : Itr i2 l2 ys J2 G2) {p q : Value} {Q : Fin → Shared → Prop} (hh : A.handled = none) (D : ZipApart z TI TO i1 i2 l1 l2)
    (Z : IsZip t.heap z TI TO .none) (PI' : IsPair t.heap TI (.ref i1) (.ref i2)) (PO : IsPair t.heap TO p q) (j1 : J1 k t.heap) (j2 : J2 k t.heap) (b1 : G1 t.heap) (b2 : G2 t.heap) (stop : xs[k]? = none ∨ ys[k]? = none)
    (hE : ∀ g e, ZKeep z TO i1 i2 t.heap g → (∃ o, g.get? e = some o ∧ o.cls = .type "StopIteration") → E (.ref e) { t with heap := g }) :
    wpAny (model prog w) A (Builtin.«zip.__next__» ⟨[.ref z], []⟩) Q E t := by
  show wpAny _ _ (field (.ref z) 2 >>= _) _ _ t
  refine wpAny_bind (wpAny_field Z rfl (x := .bool false) rfl ?_)
  show wpAny _ _ (field (.ref z) 3 >>= _) _ _ t
  refine wpAny_bind (wpAny_field Z rfl (x := .ref TI) rfl (wpAny_bind (wpAny_seqItems PI' rfl ?_)))
  show wpAny _ _ (Builtin.SmallTypes.ownedTupleIsFree (.ref z) >>= _) _ _ t
  refine wpAny_bind ?_
  unfold Builtin.SmallTypes.ownedTupleIsFree
  refine wpAny_bind (wpAny_field Z rfl (x := .none) rfl (wpAny_pure ?_))
  simp only [if_true]
  refine wpAny_bind (wpAny_rule (wpAny_bind (wpAny_field Z rfl (x := .ref TO) rfl (wpAny_bind (wpAny_setField_rec Z (by simp) fun ga Za ca => ?_)))))
  replace Za : IsZip ga z TI TO .ellipsis := Za
  refine wpAny_bind ?_
  simp only [List.zipIdx_cons, List.zipIdx_nil, List.forIn_cons, List.forIn_nil]
  refine wpAny_bind (wpAny_bind (wpAny_onRaise ?_))
  show wpAny _ _ (Builtin.SmallTypes.nextOf (.ref i1) >>= _) _ _ _
  have j1a := B1.mv j1 ca.extBut D.i1z
  have b1a := B1.gv b1 ca.extBut D.l1z
  cases ex : xs[k]? with
  | none =>
    refine wpAny_bind (B1.fin hh j1a b1a ex fun gb e cb ⟨oe, he, hc⟩ => ?_)
    have Zb : IsZip gb z TI TO .ellipsis := cb _ _ D.i1z.symm Za
    have ne : e ≠ z := fun u => by subst u; rw [Zb] at he; cases he; simp at hc
    exact wpAny_setField_rec Zb (by simp) fun gc _ cc => hE gc e (fun c o n1 _ n3 _ u => cc.extBut _ _ n1 (cb _ _ n3 (ca.extBut _ _ n1 u))) ⟨oe, cc.extBut _ _ ne he, hc⟩
  | some x =>
    have ey : ys[k]? = none := by rcases stop with u | u; rw [ex] at u; cases u; exact u
    refine wpAny_bind (B1.item j1a b1a ex fun gb jb cb => wpAny_pure ?_)
    have POb : IsPair gb TO p q := cb.extBut _ _ D.TOi1 (ca.extBut _ _ D.TOz PO)
    refine wpAny_bind (wpAny_seqItems POb rfl (wpAny_bind (wpAny_updateSeq_pair POb fun gc POc cc => ?_)))
    refine wpAny_bind (wpAny_letGo (wpAny_pure (wpAny_bind (wpAny_bind (wpAny_onRaise ?_)))))
    show wpAny _ _ (Builtin.SmallTypes.nextOf (.ref i2) >>= _) _ _ _
    have j2c := B2.mv (B2.mv (B2.mv j2 ca.extBut D.i2z) cb.extBut D.i12.symm) cc.extBut D.TOi2.symm
    have b2c := B2.gv (B2.gv (B2.gv b2 ca.extBut D.l2z) cb.extBut D.l2i1) cc.extBut D.l2TO
    refine wpAny_bind (B2.fin hh j2c b2c ey fun gd e cd ⟨oe, he, hc⟩ => ?_)
    have Zd : IsZip gd z TI TO .ellipsis := cd _ _ D.i2z.symm (cc.extBut _ _ D.TOz.symm (cb.extBut _ _ D.i1z.symm Za))
    have ne : e ≠ z := fun u => by subst u; rw [Zd] at he; cases he; simp at hc
    exact wpAny_setField_rec Zd (by simp) fun gf _ cf => hE gf e (fun c o n1 n2 n3 n4 u => cf.extBut _ _ n1 (cd _ _ n4 (cc.extBut _ _ n2 (cb.extBut _ _ n3 (ca.extBut _ _ n1 u))))) ⟨oe, cf.extBut _ _ ne he, hc⟩
theorem zg_pyNext (B1 : Itr i1 l1 xs J1 G1) (B2 : Itr i2 l2 ys J2 G2) {x y p q : Value} {Q : Option Value → Shared → Prop} (D : ZipApart z TI TO i1 i2 l1 l2)
    (Z : IsZip t.heap z TI TO .none) (PI' : IsPair t.heap TI (.ref i1) (.ref i2)) (PO : IsPair t.heap TO p q) (j1 : J1 k t.heap) (j2 : J2 k t.heap) (b1 : G1 t.heap) (b2 : G2 t.heap) (ex : xs[k]? = some x) (ey : ys[k]? = some y)
    (hQ : ∀ g, IsZip g z TI TO (rawInt t.heap.objs.size) → IsPair g TO x y → J1 (k + 1) g → J2 (k + 1) g → IsPair g t.heap.objs.size x y → g.objs.size = t.heap.objs.size + 1 → ZKeep z TO i1 i2 t.heap g → Q (some (.ref t.heap.objs.size)) { t with heap := g }) :
    wpAny (model prog w) A (pyNext (.ref z)) Q E t := by
  have T : t.TypeIs (.ref z) "zip" := ⟨_, Z, rfl⟩
  unfold pyNext
  refine wpAny_bind (wpAny_attempt (wpAny_callSpecial?_slot (name := Str.ofString "__next__") T F.slot_zip_next (wpAny_call_entry F.slot_zip_next T F.entry_zip_next ?_ (F.args_zip_next_1 _))))
  exact zg_item B1 B2 D Z PI' PO j1 j2 b1 b2 ex ey fun g u1 u2 u3 u4 u5 u6 u7 => wpAny_pure (hQ g u1 u2 u3 u4 u5 u6 u7)
theorem zg_pyEnd (B1 : Itr i1 l1 xs J1 G1) (B2 : Itr i2 l2 ys J2 G2) {p q : Value} {Q : Option Value → Shared → Prop} (hh : A.handled = none) (D : ZipApart z TI TO i1 i2 l1 l2)
    (Z : IsZip t.heap z TI TO .none) (PI' : IsPair t.heap TI (.ref i1) (.ref i2)) (PO : IsPair t.heap TO p q) (j1 : J1 k t.heap) (j2 : J2 k t.heap) (b1 : G1 t.heap) (b2 : G2 t.heap) (stop : xs[k]? = none ∨ ys[k]? = none)
    (hQ : ∀ g, ZKeep z TO i1 i2 t.heap g → Q none { t with heap := g }) : wpAny (model prog w) A (pyNext (.ref z)) Q E t := by
  have T : t.TypeIs (.ref z) "zip" := ⟨_, Z, rfl⟩
  unfold pyNext
  refine wpAny_bind (wpAny_attempt (wpAny_callSpecial?_slot (name := Str.ofString "__next__") T F.slot_zip_next (wpAny_call_entry F.slot_zip_next T F.entry_zip_next ?_ (F.args_zip_next_1 _))))
  refine zg_end B1 B2 hh D Z PI' PO j1 j2 b1 b2 stop fun g e ke ⟨o, ho, hc⟩ => ?_
  exact wpAny_bind (wpAny_isInstance (T := "StopIteration") (b := true) ⟨o, ho, hc⟩ isSubtype_stop (wpAny_pure (hQ _ ke)))
end

/-! ### zip of a list and a tuple -/
def hpA (h : Heap) (a : Addr) : Heap := h.push { cls := .type "list_iterator", data := .fields #[.ref a, .int 0 0] }
def hpB (h : Heap) (a b : Addr) : Heap := (hpA h a).push { cls := .type "tuple_iterator", data := .fields #[.ref b, .int 0 0] }
def hpC (h : Heap) (a b : Addr) : Heap := (hpB h a b).push { cls := .type "tuple", data := .seq #[.ref h.objs.size, .ref (hpA h a).objs.size] }
def hpD (h : Heap) (a b : Addr) : Heap := (hpC h a b).push { cls := .type "tuple", data := .seq #[.none, .none] }
def hpE (h : Heap) (a b : Addr) : Heap := (hpD h a b).push { cls := .type "zip", data := .fields #[.none, .bool false, .bool false, .ref (hpB h a b).objs.size, .ref (hpC h a b).objs.size] }
theorem new_zipLT (a b : Addr) (xs ys : Array Value) :
    Meets (Builtin.«zip.__new__» ⟨[.type "zip", .ref a, .ref b], []⟩) (fun _ R t => t.heap.IsList a xs ∧ t.heap.IsTuple b ys ∧ R (.ok (.ret (.ref (hpD t.heap a b).objs.size))) { t with heap := hpE t.heap a b }) :=
  .of_wp fun prog w A R t h => by
    obtain ⟨hp, g, dr, tk, os⟩ := t
    obtain ⟨la, tb, h⟩ := h
    have sub := sub_zip
    have l1 : Heap.IsList (Shared.heap ⟨hp, g, dr, tk, os⟩) a xs := la
    have l2 : Heap.IsTuple (Shared.heap ⟨hp.push { cls := .type "list_iterator", data := .fields #[.ref a, .int 0 0] }, g, dr, tk, os⟩) b ys := Heap.IsTuple.push tb _
    wp_walk using wpAny_pyIter_list l1, wpAny_pyIter_tuple l2
    exact ⟨_, rfl, h⟩
section
variable {prog : Program} {w : World} {A : Around} {E : Value → Shared → Prop} {t : Shared}
theorem call_zipLT {a b : Addr} {xs ys : Array Value} {Q : Value → Shared → Prop} (la : t.heap.IsList a xs) (tb : t.heap.IsTuple b ys)
    (q : ∀ g, IsZip g (t.heap.objs.size + 4) (t.heap.objs.size + 2) (t.heap.objs.size + 3) .none → IsPair g (t.heap.objs.size + 2) (.ref t.heap.objs.size) (.ref (t.heap.objs.size + 1)) → IsPair g (t.heap.objs.size + 3) .none .none →
      g.IsListIter t.heap.objs.size a 0 → g.IsTupleIter (t.heap.objs.size + 1) b 0 → (∀ c o, t.heap.get? c = some o → g.get? c = some o) → Q (.ref (t.heap.objs.size + 4)) { t with heap := g }) :
    wpAny (model prog w) A (call (.type "zip") [.ref a, .ref b]) Q E t := by
  refine callType_new F.called_zip (by decide) (F.typeCall_zip_2 _ _) (F.newCall_zip_2 _ _) (fun o => F.args_object_init_3 o _ _) F.entry_zip_new (new_zipLT a b xs ys) ⟨la, tb, ?_⟩
  have sA : (hpA t.heap a).objs.size = t.heap.objs.size + 1 := Heap.size_push ..
  have sB : (hpB t.heap a b).objs.size = t.heap.objs.size + 2 := by unfold hpB; rw [Heap.size_push, sA]
  have sC : (hpC t.heap a b).objs.size = t.heap.objs.size + 3 := by unfold hpC; rw [Heap.size_push, sB]
  have sD : (hpD t.heap a b).objs.size = t.heap.objs.size + 4 := by unfold hpD; rw [Heap.size_push, sC]
  have kE : ∀ c o, (hpD t.heap a b).get? c = some o → (hpE t.heap a b).get? c = some o := fun c o e => Heap.get?_push_of_some _ e
  have kD : ∀ c o, (hpC t.heap a b).get? c = some o → (hpE t.heap a b).get? c = some o := fun c o e => kE c o (Heap.get?_push_of_some _ e)
  have kC : ∀ c o, (hpB t.heap a b).get? c = some o → (hpE t.heap a b).get? c = some o := fun c o e => kD c o (Heap.get?_push_of_some _ e)
  have kB : ∀ c o, (hpA t.heap a).get? c = some o → (hpE t.heap a b).get? c = some o := fun c o e => kC c o (Heap.get?_push_of_some _ e)
  have gE : (hpE t.heap a b).get? (hpD t.heap a b).objs.size = some _ := Heap.get?_push_size _ rfl
  have gD : (hpE t.heap a b).get? (hpC t.heap a b).objs.size = some _ := kE _ _ (Heap.get?_push_size _ rfl)
  have gC : (hpE t.heap a b).get? (hpB t.heap a b).objs.size = some _ := kD _ _ (Heap.get?_push_size _ rfl)
  have gB : (hpE t.heap a b).get? (hpA t.heap a).objs.size = some _ := kC _ _ (Heap.get?_push_size _ rfl)
  have gA : (hpE t.heap a b).get? t.heap.objs.size = some _ := kB _ _ (Heap.get?_push_size _ rfl)
  show _ ∧ _
  rw [sB, sC, sD] at gE
  rw [sA, sB] at gC
  rw [sC] at gD
  rw [sA] at gB
  rw [sD]
  exact ⟨⟨_, gE, rfl⟩, q _ gE gC gD ⟨_, gA, rfl, rfl⟩ ⟨_, gB, rfl, rfl⟩ fun c o e => kB c o (Heap.get?_push_of_some _ e)⟩
end
/-- the list at a, the tuple at b, their items in pairs -/
def ItLT (K : PySem.W.Frag) (a b : Addr) : It :=
  ⟨fun i H => ∃ (xs ys : List V) (x y : V), SqL K H a xs ∧ SqT K H b ys ∧ xs[i]? = some x ∧ ys[i]? = some y, fun i H v H' => ∃ T x y, v = .ref T ∧ H T = none ∧ H' = upd H T (.tup [x, y]) ∧ (∀ xs, SqL K H a xs → xs[i]? = some x) ∧ ∀ ys, SqT K H b ys → ys[i]? = some y,
    fun i H => ∃ xs ys : List V, SqL K H a xs ∧ SqT K H b ys ∧ (xs.length ≤ i ∨ ys.length ≤ i)⟩
def five (z TI TO i1 i2 : Addr) : List Addr := [z, TI, TO, i1, i2]
theorem five_out {z TI TO i1 i2 c : Addr} (h : c ∉ five z TI TO i1 i2) : c ≠ z ∧ c ≠ TI ∧ c ≠ TO ∧ c ≠ i1 ∧ c ≠ i2 := by
  unfold five at h
  simpa using h
theorem five_in {z TI TO i1 i2 c : Addr} (h : c ∈ five z TI TO i1 i2) : c = z ∨ c = TI ∨ c = TO ∨ c = i1 ∨ c = i2 := by
  unfold five at h
  simpa using h
structure ZSt (z TI TO i1 i2 a b : Addr) (i : Nat) (g : Heap) : Prop where
  Z : IsZip g z TI TO .none
  P : IsPair g TI (.ref i1) (.ref i2)
  O : ∃ x y, IsPair g TO x y
  L : g.IsListIter i1 a i
  T : g.IsTupleIter i2 b i
theorem turn_LT {P : Program} {w : World} {K : PySem.W.Frag} {elts : List Expr} {kk : Nat} {tpos : Pos} {a b z TI TO i1 i2 : Addr} (D : ZipApart z TI TO i1 i2 a b) : Turn P w K (.Tuple elts kk tpos) (ItLT K a b) (five z TI TO i1 i2) z (ZSt z TI TO i1 i2 a b) where
  mem := by unfold five; simp
  obj := fun i g st c hc => by
    obtain ⟨x, y, so⟩ := st.O
    obtain ⟨o1, e1, _, d1⟩ := st.L
    obtain ⟨o2, e2, _, d2⟩ := st.T
    rcases five_in hc with rfl | rfl | rfl | rfl | rfl
    · exact ⟨_, st.Z, fun v q => nomatch q⟩
    · exact ⟨_, st.P, fun v q => nomatch q⟩
    · exact ⟨_, so, fun v q => nomatch q⟩
    · exact ⟨o1, e1, fun v q => by rw [d1] at q; cases q⟩
    · exact ⟨o2, e2, fun v q => by rw [d2] at q; cases q⟩
  keep := fun i g g' st k => by
    obtain ⟨x, y, so⟩ := st.O
    have m : ∀ c, c = z ∨ c = TI ∨ c = TO ∨ c = i1 ∨ c = i2 → c ∈ five z TI TO i1 i2 := fun c h => by unfold five; simpa using h
    exact ⟨k z (m _ (.inl rfl)) _ st.Z, k TI (m _ (.inr (.inl rfl))) _ st.P, ⟨x, y, k TO (m _ (.inr (.inr (.inl rfl)))) _ so⟩, st.L.at fun o q => k i1 (m _ (.inr (.inr (.inr (.inl rfl))))) o q, st.T.at fun o q => k i2 (m _ (.inr (.inr (.inr (.inr rfl))))) o q⟩
  item := by
    intro X hP hw hK hc i pins s σ H E I hf st hg
    cases hP; cases hw; cases hK
    obtain ⟨x0, y0, so⟩ := st.O
    obtain ⟨xs, ys, x, y, qx, qy, ex, ey⟩ := hg
    obtain ⟨its, rv, pl, _⟩ := I.list qx
    obtain ⟨jts, rw_, pt, _⟩ := I.tuple qy
    obtain ⟨u, hu, ru⟩ := rv.get ex
    obtain ⟨v, hv, rv'⟩ := rw_.get ey
    have zlt : z < s.heap.objs.size := Heap.lt_size st.Z
    refine zg_pyNext (itr_list i1 a its.toArray) (itr_tuple i2 b jts.toArray) D st.Z st.P so st.L st.T pl.isList pt (x := u) (y := v) (by simpa using hu) (by simpa using hv) fun g Zg Og Lg Tg Ng _ kg => ?_
    refine ⟨_, rfl, wpAny_letOwnedTupleGo_zip (s := { s with heap := g }) Zg fun g2 Z2 sb => ?_⟩
    have N2 : g2.get? s.heap.objs.size = some { cls := .type "tuple", data := .seq #[u, v] } := (sb.2 _ (Nat.ne_of_gt zlt)).trans Ng
    have ob : ObjOk X.prog X.w (upd H s.heap.objs.size (.tup [x, y])) g2 s.heap.objs.size (.tup [x, y]) := ⟨by show 2 ≤ sizeLine; decide, [u, v], .cons ru (.cons rv' .nil), ⟨_, N2, rfl, _, rfl⟩⟩
    have kp : ∀ c o, c ∉ five z TI TO i1 i2 → s.heap.get? c = some o → g2.get? c = some o := fun c o n e => by
      obtain ⟨n1, _, n3, n4, n5⟩ := five_out n
      exact (sb.2 c n1).trans (kg c o n1 n3 n4 n5 e)
    have I1 : Inv X pins σ (upd H s.heap.objs.size (.tup [x, y])) { s with heap := g2 } := I.turnedNew (t' := s.toks) (ch := five z TI TO i1 i2) kp hf (Nat.le_refl _) ob
    refine ⟨.ref s.heap.objs.size, _, I1, rfl, ⟨_, x, y, rfl, I.hok.fresh (Nat.le_refl _), rfl, fun l hl => by rw [I.list_inj hl qx]; exact ex, fun l hl => by rw [I.tuple_inj hl qy]; exact ey⟩, ⟨Z2, ?_, ⟨u, v, ?_⟩, ?_, ?_⟩, fun c hcm => ?_⟩
    · exact (sb.2 _ D.TIz).trans (kg _ _ D.TIz D.TITO D.TIi1 D.TIi2 st.P)
    · exact (sb.2 _ D.TOz).trans Og
    · exact Lg.at fun o e => (sb.2 _ D.i1z).trans e
    · exact Tg.at fun o e => (sb.2 _ D.i2z).trans e
    · have lt : c < s.heap.objs.size := by
        obtain ⟨_, e1, _⟩ := st.L
        obtain ⟨_, e2, _⟩ := st.T
        rcases five_in hcm with rfl | rfl | rfl | rfl | rfl
        · exact zlt
        · exact Heap.lt_size st.P
        · exact Heap.lt_size so
        · exact Heap.lt_size e1
        · exact Heap.lt_size e2
      rw [upd_ne (Nat.ne_of_lt lt)]
      exact (hf c hcm).1
  done := by
    intro X hP hw hK hc i pins s σ H E I hf st hg
    cases hP; cases hw; cases hK
    obtain ⟨x0, y0, so⟩ := st.O
    obtain ⟨xs, ys, qx, qy, stop⟩ := hg
    obtain ⟨its, rv, pl, _⟩ := I.list qx
    obtain ⟨jts, rw_, pt, _⟩ := I.tuple qy
    have n1 := rv.length
    have n2 := rw_.length
    have en : its.toArray[i]? = none ∨ jts.toArray[i]? = none := stop.imp (fun q => by simp; omega) fun q => by simp; omega
    refine zg_pyEnd (itr_list i1 a its.toArray) (itr_tuple i2 b jts.toArray) (I.ok.hd hc) D st.Z st.P so st.L st.T pl.isList pt en fun g kg => ⟨rfl, ?_⟩
    exact I.turnedL (t' := s.toks) (ch := five z TI TO i1 i2) (fun c o n e => by obtain ⟨n1, _, n3, n4, n5⟩ := five_out n; exact kg c o n1 n3 n4 n5 e) hf
  self := fun A i s Q E st h => wpAny_pyIter_zip st.Z h
def iLT (K : PySem.W.Frag) (ta : TA) : L2.TI := fun σ H R => ta σ H fun vs H1 => ∃ a b xs ys, vs = [.ref a, .ref b] ∧ SqL K H1 a xs ∧ SqT K H1 b ys ∧ R (ItLT K a b) H1
section
variable {X : Cx} {W : Wish} {a b : Expr} {ms : ML}
theorem pi_LT {ta : TA} {p pos tpos : Pos} {elts : List Expr} {kk : Nat} (hg : Gl X "zip") (hm : X.mg "zip" = none) (ha : PA X [a, b] ta) (hs : starEach [a, b] X.env = (false, eval a X.env) :: starEach [b] X.env := by rfl) (hpl : (backTo pos (starEach [b] X.env)).any (·.1) = false := by rfl) :
    PI X (.Tuple elts kk tpos) (.Call (.Name "zip" p) [a, b] [] pos) (iLT X.K ta) := by
  refine ⟨fun pins s σ H R I h => Call_ (ld_blt I hg hm PyProof.Rows.boot_zip (PyProof.Rows.callWith_type1 (thn (ha.run pos pins s σ H _ I h) fun us s1 ⟨vs, H1, I1, r1, q1⟩ => ?_) hs hpl))⟩
  obtain ⟨l, m, xs, ys, rfl, qx, qy, q⟩ := q1
  cases r1 with
  | cons r rr =>
    cases rr with
    | cons r' rr =>
      cases rr
      cases r
      cases r'
      obtain ⟨its, rv, pl, _⟩ := I1.list qx
      obtain ⟨jts, rw_, pt, _⟩ := I1.tuple qy
      obtain ⟨o2, ho2, _⟩ := id pt
      refine call_zipLT pl.isList (show s1.heap.IsTuple m jts.toArray from pt) fun g Zg Pg Og Lg Tg kg => wpAny_pyIter_zip Zg ?_
      have I2 : Inv X pins σ H1 { s1 with heap := g } := I1.kept (t' := s1.toks) kg
      refine ⟨s1.heap.objs.size + 4, five (s1.heap.objs.size + 4) (s1.heap.objs.size + 2) (s1.heap.objs.size + 3) s1.heap.objs.size (s1.heap.objs.size + 1), _, _, H1, rfl, I2, turn_LT (PySem.W.ktu_apart s1.heap.objs.size l m pl.lt (Heap.lt_size ho2)), ⟨Zg, Pg, ⟨_, _, Og⟩, Lg, Tg⟩, fun c hc => ?_, q⟩
      have le : s1.heap.objs.size ≤ c := by rcases five_in hc with rfl | rfl | rfl | rfl | rfl <;> first | exact Nat.le_refl _ | exact Nat.le_add_right _ _
      exact I1.fpOk le (I1.hok.fresh le)
end
def srcM (ms : ML) : MI := fun e S => (ms e S).bind fun ds S1 => match ds with
  | [x, .tup ys] => match lstSrc S1 x with
    | some (xs, g) => .ok (zipD xs ys, g) S1
    | _ => .bad
  | _ => .bad
section
variable {K : PySem.W.Frag} {φ : List Addr} {H : Hp} {ds es : List D} {ys : List V} {a b : Addr}
theorem src_of_LT {gs : Gs} (hG : ∀ φ' H' S', φ <+: φ' → Keep H H' → StOk K φ' H' S' → chk gs S' = true → ∃ xs, SqL K H' a xs ∧ RepL K φ' H' ds xs) (r2 : RepL K φ H es ys) (s2 : SqT K H b ys) : IsSrc K φ H (zipD ds es, gs) (ItLT K a b) := by
  have hl : (zipD ds es, gs).1.length = min ds.length es.length := zipD_len ds es
  refine ⟨fun φ' H' => (∃ xs, SqL K H' a xs ∧ RepL K φ' H' ds xs) ∧ SqT K H' b ys, fun i H' v H2 => ∃ T x y, v = .ref T ∧ H' T = none ∧ H2 = upd H' T (.tup [x, y]) ∧ (∀ zs, SqL K H' a zs → zs[i]? = some x) ∧ ∀ zs, SqT K H' b zs → zs[i]? = some y,
    ⟨fun i H' hi ⟨φ', ⟨xs, h, r⟩, h2⟩ => ?_, fun H' ⟨φ', ⟨xs, h, r⟩, h2⟩ => ⟨xs, ys, h, h2, by rw [hl, r.len, r2.len]; omega⟩, fun i H' x H2 _ _ y => y⟩, fun φ' H' S' q k st c => ⟨hG φ' H' S' q k st c, k.seqT s2⟩, fun φ' H' i x H2 q k hi hg y => ?_⟩
  · rw [hl] at hi
    exact ⟨xs, ys, xs[i]'(by rw [r.len]; omega), ys[i]'(by rw [r2.len]; omega), h, h2, List.getElem?_eq_getElem _, List.getElem?_eq_getElem _⟩
  · rw [hl] at hi
    obtain ⟨T, z, w, rfl, hT, rfl, hx, hy⟩ := y
    obtain ⟨⟨xs, h, r⟩, h2⟩ := hg
    have e1 := List.getElem?_eq_getElem (l := ds) (i := i) (by omega)
    have e2 := List.getElem?_eq_getElem (l := es) (i := i) (by omega)
    obtain ⟨v, g1, rv⟩ := r.get e1
    obtain ⟨v2, g2, rv2⟩ := (r2.mono q k).get e2
    rw [hx xs h] at g1; cases g1
    rw [hy ys h2] at g2; cases g2
    exact ⟨_, zipD_get ds es i _ _ e1 e2, pairZ_rep hT rv rv2, .inr ⟨T, _, hT, rfl⟩⟩
end
section
variable {X : Cx} {W : Wish} {a b : Expr} {ms : ML}
theorem i_LT {elts : List Expr} {kk : Nat} {p pos tpos : Pos} (hg : Gl X "zip") (hm : X.mg "zip" = none) (ha : PA X [a, b] (rdL X.K W ms)) (hs : starEach [a, b] X.env = (false, eval a X.env) :: starEach [b] X.env := by rfl) (hpl : (backTo pos (starEach [b] X.env)).any (·.1) = false := by rfl) :
    PI X (.Tuple elts kk tpos) (.Call (.Name "zip" p) [a, b] [] pos) (rdI X.K W (srcM ms)) := pi_imp (pi_LT hg hm ha hs hpl) fun σ H R' h => by
  obtain ⟨φ, e, S, g, p⟩ := h
  refine bindG g p fun ds S1 φ1 H1 vs e1 k1 g1 rv p1 => ?_
  split at p1
  · rename_i x ys
    obtain ⟨v, w, rfl, r1, r2⟩ := rv.two
    obtain ⟨b, ws, rfl, s2, t2⟩ := r2.tup
    split at p1
    · rename_i xs gs h1
      obtain ⟨a, rfl, ⟨vs, s⟩, f⟩ := lstSrc_ok g1.st r1 h1
      exact ⟨a, b, vs, ws, rfl, s, s2, p1.src g1.st (src_of_LT f t2 s2)⟩
    · exact p1.elim
  · exact p1.elim
end
end Mi

namespace Mi
open PySem PySem.Spec PyProof.Rows L2

/-! ### a short tuple many times -/
def rRepS (K : PySem.W.Frag) : V → V → Hp → VK → Prop := fun x y H Q => ∃ l k xs, x = .ref l ∧ y = .int k ∧ SqT K H l xs ∧ xs ≠ [] ∧ 2 ≤ k ∧ k ≤ 100000 ∧ xs.length ≤ 10 ∧ ∀ p, H p = none → Q (.ref p) (upd H p (.tup (List.replicate k.toNat xs).flatten))
theorem op_repS {X : Cx} : OpR X (binaryOp .Mult) (rRepS X.K) := by
  intro pins s σ H x y v u Q I rx ry h
  obtain ⟨l, k, xs, rfl, rfl, hT, ne, k2, kM, hx, q⟩ := h
  cases rx
  obtain ⟨t, rfl⟩ := ry
  obtain ⟨its, r, ⟨⟨cls, dd, data, sl⟩, ho, hc, n, hd⟩, hs⟩ := I.tuple hT
  simp only at hc hd
  subst hc hd
  have len : its.length = xs.length := r.length.symm
  have emp : its.toArray.isEmpty = false := by
    cases its with
    | nil => exact absurd (List.eq_nil_of_length_eq_zero len.symm) ne
    | cons a b => rfl
  have mul : ((its.toArray.size : Nat) : Int) * k ≤ 1000000 := by
    have e : ((its.toArray.size : Nat) : Int) * k ≤ 10 * k := Int.mul_le_mul_of_nonneg_right (by rw [List.size_toArray, len]; omega) (by omega)
    omega
  have many : k.toNat * xs.length ≤ 1000000 := Nat.le_trans (Nat.mul_le_mul (show k.toNat ≤ 100000 by omega) hx) (by decide)
  have flat : (List.replicate k.toNat its).flatten.length ≤ sizeLine := by rw [PyProof.Rows.lm_len_rep_flat, len, sizeLine_eq]; omega
  have n0 : (decide (k < -(2 ^ 63)) || decide (k ≥ 2 ^ 63)) = false := by rw [decide_eq_false (by omega), decide_eq_false (by omega), Bool.false_or]
  have n1 : (its.toArray.isEmpty || k == 1) = false := by rw [emp, Bool.false_or]; exact beq_eq_false_iff_ne.mpr (by omega)
  have n2 : (decide (k ≤ 0) || its.toArray.isEmpty) = false := by rw [emp, Bool.or_false]; exact decide_eq_false (by omega)
  have n4 : Builtin.Tuple.tupleTooMany (((its.toArray.size : Nat) : Int) * k) = false := by unfold Builtin.Tuple.tupleTooMany; rw [sizeLine_eq]; exact decide_eq_false (by omega)
  have M := tuple_mulW l its.toArray n dd sl k t n0 n1 n2 (by omega) n4 (by rw [size_rep, List.size_toArray]; exact flat)
  refine wpAny_binaryOp_repeat_ref (T := "tuple") (U := "int") (by decide) ⟨_, ho, rfl⟩ (fun s' => typeIs_int s' k t) noFill_tuple_mul F.fills_int_mul F.slot_int_rmul repeat_tuple F.slot_int_index.lookup
    (call_meets F.slot_int_rmul (typeIs_int s k t) F.entry_int_rmul (F.args_int_rmul_2 _ _) (int_rmul_tuple k t l its.toArray n dd sl) ⟨ho, rfl, ⟨_, ho, rfl⟩, call_meets F.slot_tuple_mul ⟨_, ho, rfl⟩ F.entry_tuple_mul (F.args_tuple_mul_2 _ _) M ⟨ho, ?_⟩⟩)
  rw [size_rep]
  have lay : (List.replicate k.toNat xs).flatten.length ≤ sizeLine := by rw [PyProof.Rows.lm_len_rep_flat, sizeLine_eq]; omega
  exact ⟨.ref s.heap.objs.size, _, I.laid (t' := s.toks) (o := .tup (List.replicate k.toNat xs).flatten) (fun b ob q => Heap.get?_push_of_some _ q) (Nat.le_refl _) ⟨lay, _, r.rep k.toNat, IsTup.new _ _⟩, rfl, q _ (I.hok.fresh (Nat.le_refl _))⟩
def mulS : F2 := fun x y S => match x, y with
  | .tup a, .int k => if 2 ≤ k ∧ k ≤ 100000 ∧ a.length ≤ 10 ∧ a.isEmpty = false then .ok (.tup (List.replicate k.toNat a).flatten) S else .bad
  | _, _ => .bad
theorem mulS_rule {K : PySem.W.Frag} : Rule2 K mulS (rRepS K) := by
  intro W φ σ H e S Q x y dx dy st rx ry p
  unfold mulS at p
  split at p
  · split at p
    · rename_i a k h
      obtain ⟨h1, h2, h3, h4⟩ := h
      obtain ⟨l, xs, rfl, s1, r1⟩ := rx.tup
      cases ry.int
      have ne : xs ≠ [] := fun z => by
        subst z
        rw [r1.empty] at h4
        cases h4
      exact ⟨l, k, xs, rfl, rfl, s1, ne, h1, h2, by rw [r1.len]; exact h3, fun q hq => p.tup st hq (r1.rep _)⟩
    · exact p.elim
  · exact p.elim
theorem q_mulS {X : Cx} {W : Wish} {a b : Expr} {ma mb : ME} {pos : Pos} (ha : PE X a (rd X.K W ma)) (hb : PE X b (rd X.K W mb)) : PE X (.BinOp a .Mult b pos) (rd X.K W (bin mulS ma mb)) := q_op op_repS mulS_rule ha hb
end Mi

namespace Mi
open PySem PySem.Spec PyProof.Rows L2

/-! ### list(range(n)) -/
def lrgV (a : ME) : ME := fun e S => (a e S).bind fun x S1 => match x with
  | .int n => if 0 ≤ n ∧ n ≤ 100000 then .ok (.ref S1.length) (S1 ++ [.lst (rangeD 0 n.toNat)]) else .bad
  | _ => .bad
theorem rep_range {K : PySem.W.Frag} {φ : List Addr} {H : Hp} (lo : Int) : ∀ l : List Nat, RepL K φ H (l.map fun (i : Nat) => D.int (lo + (i : Int))) (l.map fun (i : Nat) => V.int (lo + (i : Int)))
  | [] => .nil
  | i :: l => .cons .mkInt (rep_range lo l)
/-! ### xs.pop(i), i at least 0 -/
def popV (o a : ME) : ME := fun e S => (o e S).bind fun x S1 => match x with
  | .ref n => match S1[n]? with
    | some (.lst _) => (a e S1).bind fun y S2 => match y with
      | .int i => match S2[n]? with
        | some (.lst ds) => if 0 ≤ i ∧ ds.length ≤ 100000 then (match ds[i.toNat]? with
          | some d => .ok d (S2.set n (.lst (ds.eraseIdx i.toNat)))
          | none => .bad) else .bad
        | _ => .bad
      | _ => .bad
    | _ => .bad
  | _ => .bad
theorem RepL.eraseIdx {K : PySem.W.Frag} {φ : List Addr} {H : Hp} : ∀ {ds : List D} {xs : List V} (i : Nat), RepL K φ H ds xs → RepL K φ H (ds.eraseIdx i) (xs.eraseIdx i)
  | [], xs, i, r => by
    cases r.nil_inv
    exact .nil
  | d :: ds, xs, i, r => by
    obtain ⟨v, vs, rfl, rv, rs⟩ := r.cons_inv
    cases i with
    | zero => exact rs
    | succ i => exact .cons rv (rs.eraseIdx i)
/-! ### xs.index(x) -/
def idxO (S : Store) (x y : D) : Option Nat := match toP S 62 x, toP S 62 y with
  | some (.list ds), some d => if SeqAt.shaped (.list ds) && SeqAt.shaped d then ds.findIdx? (fun z => PyData.eqv z d) else none
  | _, _ => none
def idxV (o a : ME) : ME := fun e S => (o e S).bind fun x S1 => match x with
  | .ref n => match S1[n]? with
    | some (.lst _) => (a e S1).bind fun y S2 => match idxO S2 (.ref n) y with
      | some j => .ok (.int (j : Nat)) S2
      | none => .bad
    | _ => .bad
  | _ => .bad
section
variable {X : Cx} {W : Wish} {o a : Expr} {mo ma : ME} {pos apos : Pos}
theorem q_listRg {p p' pos pos' : Pos} (hc : X.calm = true) (hg : Gl X "list") (hm : X.mg "list" = none) (hg' : Gl X "range") (hm' : X.mg "range" = none) (ha : PE X a (rd X.K W ma))
    (na' : starEach [a] X.env = (false, eval a X.env) :: starEach [] X.env := by rfl)
    (na : starEach [.Call (.Name "range" p') [a] [] pos'] X.env = (false, eval (.Call (.Name "range" p') [a] [] pos') X.env) :: starEach [] X.env := by rfl) :
    PE X (.Call (.Name "list" p) [.Call (.Name "range" p') [a] [] pos'] [] pos) (rd X.K W (lrgV ma)) :=
  pe_imp (pe_listRg hc hg hm (prg_1 hg' hm' ha na') na) fun σ H Q h => by
    obtain ⟨φ, e, S, g, p⟩ := h
    show rd X.K W ma σ H fun x H1 => ∃ n, x = V.int n ∧ RgOk 0 n ∧ ∀ q, H1 q = none → Q (.ref q) (upd H1 q (.lst (rgV 0 n)))
    refine bindG g p fun dx S1 φ1 H1 x e1 k1 g1 rx p1 => ?_
    split at p1
    · rename_i n
      split at p1
      · rename_i hn
        cases rx.int
        refine ⟨n, rfl, RgOk.of_le (by decide) (by omega) (by decide) hn.1, fun q hq => ?_⟩
        refine p1.push g1.st hq (cell_lst hq ?_)
        unfold rangeD rgV
        rw [show (n - 0).toNat = n.toNat by omega]
        exact rep_range 0 _
      · exact p1.elim
    · exact p1.elim
theorem q_pop {e : Expr} (h : PE X e (tBM X.K "list" rPopAt (rd X.K W mo) (tCons (rd X.K W ma) tNil))) : PE X e (rd X.K W (popV mo ma)) :=
  pe_imp h fun σ H Q h => by
    obtain ⟨φ, e, S, g, p⟩ := h
    refine bindG g p fun dx S1 φ1 H1 x e1 k1 g1 rx p1 => ?_
    split at p1
    · rename_i n
      split at p1
      · rename_i ds0 hn
        obtain ⟨l, hl, rfl⟩ := rx.ref
        obtain ⟨xs0, h0, _⟩ := g1.st.lst hl hn
        refine ⟨.inl ⟨rfl, xs0, .of h0⟩, ?_⟩
        refine bindG g1 p1 fun dy S2 φ2 H2 y e2 k2 g2 ry p2 => ?_
        split at p2
        · rename_i i
          split at p2
          · rename_i ds hn2
            split at p2
            · rename_i hlt
              split at p2
              · rename_i d hd
                have hl2 := pre_get e2 hl
                obtain ⟨xs, h2, r2⟩ := g2.st.lst hl2 hn2
                obtain ⟨v, hv, rv⟩ := r2.get hd
                cases ry.int
                have hi : i.toNat < ds.length := (List.getElem?_eq_some_iff.mp hd).1
                have hj : seqIndex? i xs.length = some i.toNat := by
                  have := r2.len
                  unfold seqIndex?
                  dsimp only
                  rw [if_neg (show ¬ i < 0 by omega), if_pos (by simp; omega)]
                exact ⟨l, xs, i, i.toNat, v, rfl, rfl, h2, by omega, by omega, hj, hv, p2.put g2.st hl2 hn2 (r2.eraseIdx _) rv⟩
              · exact p2.elim
            · exact p2.elim
          · exact p2.elim
        · exact p2.elim
      · exact p1.elim
    · exact p1.elim
theorem q_index {e : Expr} (h : PE X e (tBM X.K "list" (rIndexD X.K) (rd X.K W mo) (tCons (rd X.K W ma) tNil))) : PE X e (rd X.K W (idxV mo ma)) :=
  pe_imp h fun σ H Q h => by
    obtain ⟨φ, e, S, g, p⟩ := h
    refine bindG g p fun dx S1 φ1 H1 x e1 k1 g1 rx p1 => ?_
    split at p1
    · rename_i n
      split at p1
      · rename_i ds0 hn
        have rx0 := rx
        obtain ⟨l, hl, rfl⟩ := rx.ref
        obtain ⟨xs0, h0, _⟩ := g1.st.lst hl hn
        refine ⟨.inl ⟨rfl, xs0, .of h0⟩, ?_⟩
        refine bindG g1 p1 fun dy S2 φ2 H2 y e2 k2 g2 ry p2 => ?_
        split at p2
        · rename_i j hj
          unfold idxO at hj
          split at hj
          · rename_i ds d hx hy
            split at hj
            · rename_i hs
              rw [Bool.and_eq_true] at hs
              obtain ⟨hjl, hz, hno⟩ := List.findIdx?_eq_some_iff_getElem.mp hj
              refine ⟨l, y, d, ds, j, ds[j], rfl, rfl, toP_ok g2.st _ _ _ _ (rx0.mono e2 k2) hx, toP_ok g2.st _ _ _ _ ry hy, hs.1, hs.2, List.getElem?_eq_getElem hjl, hz, fun m z' hm hz' => ?_, p2.give g2.st .mkInt⟩
              obtain ⟨hml, rfl⟩ := List.getElem?_eq_some_iff.mp hz'
              have := hno m hm
              simpa using this
            · cases hj
          · cases hj
        · exact p2.elim
      · exact p1.elim
    · exact p1.elim
end
theorem room2 {k : Nat} {A : Around} (r : Room k A) : A.units + 65 < cLine := by have := r.un; omega
/-! ### run by simp -/
@[simp] theorem lrgV_ap (a : ME) (e : Vs) (S : Store) : lrgV a e S = (a e S).bind fun x S1 => match x with
  | .int n => if 0 ≤ n ∧ n ≤ 100000 then .ok (.ref S1.length) (S1 ++ [.lst (rangeD 0 n.toNat)]) else .bad
  | _ => .bad := rfl
@[simp] theorem popV_ap (o a : ME) (e : Vs) (S : Store) : popV o a e S = (o e S).bind fun x S1 => match x with
  | .ref n => match S1[n]? with
    | some (.lst _) => (a e S1).bind fun y S2 => match y with
      | .int i => match S2[n]? with
        | some (.lst ds) => if 0 ≤ i ∧ ds.length ≤ 100000 then (match ds[i.toNat]? with
          | some d => .ok d (S2.set n (.lst (ds.eraseIdx i.toNat)))
          | none => .bad) else .bad
        | _ => .bad
      | _ => .bad
    | _ => .bad
  | _ => .bad := rfl
@[simp] theorem idxV_ap (o a : ME) (e : Vs) (S : Store) : idxV o a e S = (o e S).bind fun x S1 => match x with
  | .ref n => match S1[n]? with
    | some (.lst _) => (a e S1).bind fun y S2 => match idxO S2 (.ref n) y with
      | some j => .ok (.int (j : Nat)) S2
      | none => .bad
    | _ => .bad
  | _ => .bad := rfl
end Mi

namespace Mi
open PySem PySem.Spec PyProof.Rows L2

/-! ### own exceptions without fields -/
/-- one of the classes of the names xs, made with a text -/
def XTm (mg : Str → Option Value) (xs : List Str) : XA := fun _ _ x c od => x.fs = [] ∧ od = none ∧ x.cls ∈ xs ∧ ∃ C, mg x.cls = some (.ref C) ∧ c = .ref C
def veB : List Value := [.type "ValueError", .type "Exception", .type "BaseException", .type "object"]
/-- what the written part says of such a class, at C -/
structure ExcF (K : PySem.W.Frag) (mg : Str → Option Value) (x : Str) (C : Addr) : Prop where
  g : mg x = some (.ref C)
  e : PySem.W.excIn K C veB "ValueError.__new__" = true
  k : PySem.W.keepIn K (.ref C) = true
  s : PySem.W.subIn K (.ref C) (.type "BaseException") = some true
  t : PySem.W.typeIn K (.ref C) = some (.type "type")
def raiseS (x : Str) : MS := fun e S => .exc ⟨x, []⟩ e S
theorem s_raise {X : Cx} {k : Nat} {W : Wish} {Wx : WX} {xs : List Str} {x m : Str} {C : Addr} {j : Nat} {p p2 pos pos' : Pos} (at_ : At X k W Wx (XTm X.mg xs)) (hc : X.calm = true) (F : ExcF X.K X.mg x C) (hx : x ∈ xs) (hg : Gl X x)
    (hdb : (x == ("__debug__" : Str)) = false := by decide) : PS X (.Raise (some (.Call (.Name x p) [.Constant (.str m) j p2] [] pos)) none pos') (rdS X.K W (raiseS x)) :=
  ps_imp (ps_raise hc at_.tk (pmk_own PySem.F.excBase_ValueError F.e F.g F.k (raises_own F.s F.t) hg hdb)) fun D σ H h => by
    obtain ⟨φ, e, S, g, p⟩ := h
    exact at_.lk φ σ H e S ⟨x, []⟩ (.ref C) none (p φ σ H (List.prefix_refl φ) (Keep.refl H) g) ⟨rfl, rfl, hx, C, F.g, rfl⟩
/-! ### try: body, except X: suite -/
def noXS : RS → RS
  | .exc _ _ _ => .bad
  | r => r
def tryS (m : Exn → Bool) (b h : MS) : MS := fun e S => match b e S with
  | .exc x e1 S1 => if m x then noXS (h e1 S1) else .exc x e1 S1
  | r => r
def wishX (XT : XA) (Wb : WX) : Wish := fun φ σ H _ _ x => ∀ c od, XT φ H x c od → Wb c od σ H
theorem At.tr {X : Cx} {k : Nat} {W : Wish} {Wx : WX} {XT : XA} (a : At X k W Wx XT) {pn : List (Addr × Obj)} {xe : Value → Shared → Prop} {Wb : WX} (tk : Takes (X.tr pn xe) Wb) : At (X.tr pn xe) k (wishX XT Wb) Wb XT :=
  ⟨a.room, a.gu, tk, fun _ _ _ _ _ _ c od w x => w c od x⟩
theorem noXS_post {K : PySem.W.Frag} {W W' : Wish} {φ : List Addr} {H : Hp} {E : Ends} {r : RS} (h : postS K W φ H E (noXS r)) : postS K W' φ H E r := by
  cases r <;> first | exact h | exact h.elim
theorem s_try {X : Cx} {k : Nat} {W : Wish} {Wx : WX} {XT : XA} {x : Str} {c : Value} {body suite : List Stmt} {b₀ : Stmt} {np pos pos' : Pos} {m : Exn → Bool} {mb mh : MS} (at_ : At X k W Wx XT) (hs : X.stack = X.env :: X.outer) (hf : X.env.frame = some X.env.locals)
    (hc : Names X x c) (hm : ∀ φ H y c' od, XT φ H y c' od → PySem.W.exmOne X.K c' c = some (m y))
    (hb : ∀ (Wb : WX) (pn : List (Addr × Obj)) (xe : Value → Shared → Prop), Takes (X.tr pn xe) Wb → PassesOwn (model X.prog X.w) X.A X.env xe → PSs (X.tr pn xe) body (rdS X.K (wishX XT Wb) mb))
    (hsu : ∀ (a : Addr) (oe : Obj) (pn : List (Addr × Obj)), PSs (X.suite a ((a, oe) :: pn)) (b₀ :: suite) (rdS X.K noExc mh)) :
    PS X (.Try body [.ExceptHandler (some (.Name x np)) none (b₀ :: suite) pos'] [] [] pos) (rdS X.K W (tryS m mb mh)) :=
  ps_imp (ps_try_only (tb := fun Wb => rdS X.K (wishX XT Wb) mb) (ts := fun _ _ _ => rdS X.K noExc mh) hs hf hc at_.tk hb fun a oe _ _ pn _ _ => hsu a oe pn) fun D σ H h => by
    obtain ⟨φ, e, S, g, p⟩ := h
    refine ⟨φ, e, S, g, ?_⟩
    unfold tryS at p
    cases hr : mb e S with
    | exc y e1 S1 =>
      rw [hr] at p
      simp only at p
      intro φ' σ' H' q k' g' c' od xt
      refine ⟨m y, hm φ' H' y c' od xt, fun hy a _ => ?_, fun hy => ?_⟩
      · rw [if_pos hy] at p
        exact ⟨φ', e1, S1, g', postS.mono q k' (noXS_post p)⟩
      · rw [if_neg (by rw [hy]; decide)] at p
        exact at_.lk _ _ _ _ _ _ _ _ (p φ' σ' H' q k' g') xt
    | bad => rw [hr] at p; exact p
    | nx _ _ => rw [hr] at p; exact p
    | bk _ _ => rw [hr] at p; exact p
    | ct _ _ => rw [hr] at p; exact p
    | rt _ _ => rw [hr] at p; exact p
def mX (xs : List Str) (y : Exn) : Bool := decide (y.cls ∈ xs)
theorem exm_all {K : PySem.W.Frag} {mg : Str → Option Value} {xs ys : List Str} {c : Value} (h : ∀ x ∈ xs, ∃ (C : Addr) (b : Bool), mg x = some (.ref C) ∧ PySem.W.exmOne K (.ref C) c = some b ∧ decide (x ∈ ys) = b) :
    ∀ φ H y c' od, XTm mg xs φ H y c' od → PySem.W.exmOne K c' c = some (mX ys y) := fun φ H y c' od ⟨_, _, hx, C, hC, hc⟩ => by
  obtain ⟨C', b, h1, h2, h3⟩ := h _ hx
  rw [hC] at h1
  cases h1
  rw [hc, h2, ← h3]
  rfl
theorem walk_mx {l : PySem.W.OpenLaw} {n k : Nat} {q : Program} {loose : List Str} {XP : (Str → Option Value) → Heap → Prop} {YP : World → Heap → Prop} {d : DefRec} {K : Params → PySem.W.Frag} {XT : World → (Str → Option Value) → XA} {f : MF} {x : Str}
    (hn : l.most = some n) (hn2 : n ≤ sizeLine) (hdf : d.params.defaults = []) (hr : Room k callerA) (hY : ∀ (w : World) (h : Heap), YP w h → (K w.params).In h)
    (F : ∀ (w : World) (mg : Str → Option Value) (fa : Addr) (h : Heap), (K w.params).In h → h.Ns mainGlobals mg → mg d.name = some (.ref fa) →
      ∃ fd : FuncData, (∀ (s : Shared) (u : Value), BindsTo s fd ⟨[u], []⟩ [(x, u)]) ∧ ∀ base : Heap, (K w.params).In base → base.Ns mainGlobals mg → FnM l.prog w (K w.params) mg base k fa fd [x] (spM (XT w mg) (K w.params) 1 f))
    (ok : ∀ ns : List Int, ns.length ≤ n → ∃ S', f [.rol (ns.map D.int)] [] = .ok (.bl true) S') : PySem.W.WalkO q loose XP YP l.row.toRowW d [] (fun f vs => PySem.call f vs) := by
  refine Att.attach_call hn hdf fun w s0 s1 mg mb fa o pm cd doc a vs ns G Y ho hd hcd hmg hobj hints hlen hg => ?_
  obtain ⟨fd, bd, hF⟩ := F w mg fa _ (hY w _ Y) G.T.g hmg
  obtain ⟨S', e⟩ := ok ns hlen
  exact law_m (hY w _ Y) G.T.g G.T.b G.T.builtins G.T.nolimit hg hr hobj hints (Nat.le_trans hlen hn2) hF bd e

/-! ### tuple(range(n)) -/
def trgV (a : ME) : ME := fun e S => (a e S).bind fun x S1 => match x with
  | .int n => if 0 ≤ n ∧ n ≤ 100000 then .ok (.tup (rangeD 0 n.toNat)) S1 else .bad
  | _ => .bad
section
variable {X : Cx} {W : Wish} {o a : Expr} {mo ma : ME} {pos apos : Pos}
theorem q_tupRg {p p' pos pos' : Pos} (hc : X.calm = true) (hg : Gl X "tuple") (hm : X.mg "tuple" = none) (hg' : Gl X "range") (hm' : X.mg "range" = none) (ha : PE X a (rd X.K W ma))
    (na' : starEach [a] X.env = (false, eval a X.env) :: starEach [] X.env := by rfl)
    (na : starEach [.Call (.Name "range" p') [a] [] pos'] X.env = (false, eval (.Call (.Name "range" p') [a] [] pos') X.env) :: starEach [] X.env := by rfl) :
    PE X (.Call (.Name "tuple" p) [.Call (.Name "range" p') [a] [] pos'] [] pos) (rd X.K W (trgV ma)) :=
  pe_imp (pe_tupRg hc hg hm (prg_1 hg' hm' ha na') na) fun σ H Q h => by
    obtain ⟨φ, e, S, g, p⟩ := h
    show rd X.K W ma σ H fun x H1 => ∃ n, x = V.int n ∧ RgOk 0 n ∧ ∀ q, H1 q = none → Q (.ref q) (upd H1 q (.tup (rgV 0 n)))
    refine bindG g p fun dx S1 φ1 H1 x e1 k1 g1 rx p1 => ?_
    split at p1
    · rename_i n
      split at p1
      · rename_i hn
        cases rx.int
        refine ⟨n, rfl, RgOk.of_le (by decide) (by omega) (by decide) hn.1, fun q hq => ?_⟩
        refine p1.tup g1.st hq ?_
        unfold rangeD rgV
        rw [show (n - 0).toNat = n.toNat by omega]
        exact rep_range 0 _
      · exact p1.elim
    · exact p1.elim
end
@[simp] theorem trgV_ap (a : ME) (e : Vs) (S : Store) : trgV a e S = (a e S).bind fun x S1 => match x with
  | .int n => if 0 ≤ n ∧ n ≤ 100000 then .ok (.tup (rangeD 0 n.toNat)) S1 else .bad
  | _ => .bad := rfl
end Mi

namespace Mi
open PySem PySem.Spec PyProof.Rows L2

/-! ### try: body, clauses with and without names; those behind the last one told are never looked at -/
structure Clause where
  c : Value
  i : Option Nat
  ts : Addr → Value → Option Addr → TS
def Clause.put (k : Clause) (a : Addr) (σ : L2.St) : L2.St := match k.i with
  | some i => σ.set i (some (.ref a))
  | none => σ
def Clause.off (k : Clause) (σ : L2.St) : L2.St := match k.i with
  | some i => σ.set i none
  | none => σ
def Clause.ends (k : Clause) (E : Ends) : Ends := ⟨fun σ H => E.nx (k.off σ) H, E.rt, fun σ H => E.bk (k.off σ) H, fun σ H => E.ct (k.off σ) H⟩
def wishC (K : PySem.W.Frag) (E : Ends) : List Clause → WX
  | [] => fun _ _ _ _ => False
  | k :: r => fun cls d σ H => ∃ b, PySem.W.exmOne K cls k.c = some b ∧ (b = true → ∀ a, H a = none → k.ts a cls d (k.ends E) (k.put a σ) H) ∧ (b = false → wishC K E r cls d σ H)
inductive ClausesOk (X : Cx) : List ExceptHandler → List Clause → Prop
  | rest (hs : List ExceptHandler) : ClausesOk X hs []
  | bare {x : Str} {c : Value} {ts : Addr → Value → Option Addr → TS} {st : Stmt} {sts : List Stmt} {p p' : Pos} {hs : List ExceptHandler} {l : List Clause} (n : Names X x c)
      (su : ∀ (a : Addr) (o : Obj) (cls : Value) (d : Option Addr) (pn : List (Addr × Obj)), Zc cls d o → (∃ vs, o.data = .fields vs) → PSs (X.suite a ((a, o) :: pn)) (st :: sts) (ts a cls d)) (r : ClausesOk X hs l) :
      ClausesOk X (.ExceptHandler (some (.Name x p)) none (st :: sts) p' :: hs) (⟨c, none, ts⟩ :: l)
  | named {x y : Str} {c : Value} {i : Nat} {ts : Addr → Value → Option Addr → TS} {st : Stmt} {sts : List Stmt} {p p' : Pos} {hs : List ExceptHandler} {l : List Clause} (n : Names X x c) (nd : X.N.Nodup) (hi : X.N[i]? = some y) (hl : X.env.kindOf y = some .local)
      (su : ∀ (a : Addr) (o : Obj) (cls : Value) (d : Option Addr) (pn : List (Addr × Obj)), Zc cls d o → (∃ vs, o.data = .fields vs) → PSs (X.suite a ((a, o) :: pn)) (st :: sts) (ts a cls d)) (r : ClausesOk X hs l) :
      ClausesOk X (.ExceptHandler (some (.Name x p)) (some y) (st :: sts) p' :: hs) (⟨c, some i, ts⟩ :: l)
section
variable {X : Cx} {pins : List (Addr × Obj)} {σ : L2.St} {H : Hp} {s : Shared} {E : Ends} {a : Addr} {cls : Value} {d : Option Addr} {B : Heap} {sI : Shared}
/-- an object with fields is no frame -/
theorem not_frame {l : List Env} {o : Obj} {vs : Array Value} {h : Heap} (ff : h.FunFrames B l) (e : h.get? a = some o) (dd : o.data = .fields vs) : a ∉ frs l := fun hm => by
  obtain ⟨_, o1, e1, no⟩ := ff.mem hm
  rw [e1] at e
  exact no vs (Option.some.inj e ▸ dd)
/-- the clauses, tried one behind the other: the exception at a stands landed -/
theorem clauses_run (ok : X.Ok) (hst : X.stack = X.env :: X.outer) (hfr : X.A.frames = some (X.env :: X.outer)) (hf : X.env.frame = some X.env.locals) (J : Inv X pins σ H sI) (nb : ∀ b o, sI.heap.get? b = some o → b ∉ frs X.stack → B.get? b = some o)
    (na : H a = none) (hos : s.os = sI.os) (hag : AllBare s.gens) (up : sI.heap.UpToSlots s.heap) (fl : HandSPX.FlyingZ B (X.env :: X.outer) a (Zc cls d) s.heap) :
    ∀ {hs : List ExceptHandler} {l : List Clause}, ClausesOk X hs l → wishC X.K E l cls d σ H → wpAny (model X.prog X.w) X.A (handleBy (.ref a) X.env hs) (SP X pins E) X.xe s := by
  obtain ⟨o0, v0, g0, z0, d0⟩ := fl.there
  have n1 : a ∉ frs (X.env :: X.outer) := not_frame fl.2.2.1 g0 d0
  have nL : a ≠ X.env.locals := fun z => n1 (List.mem_filterMap.mpr ⟨X.env, List.mem_cons_self, hf.trans (congrArg some z.symm)⟩)
  have nF : a ∉ X.fs := fun hm => by
    obtain ⟨f, hfm, q⟩ := List.mem_filterMap.mp hm
    exact n1 (List.mem_filterMap.mpr ⟨f, List.mem_cons_of_mem _ hfm, q⟩)
  have J0 : Inv X pins σ H s := J.landed nb fl.1 up hos hag
  have C0 := J0.suite g0 d0 na nL nF
  have asks : ∀ {x : Str} {c : Value} {p : Pos} {Q F : Value → Shared → Prop}, Names X x c → Q c s → wpAny (model X.prog X.w) (X.A.mark (some (.ref a))) (eval (.Name x p) X.env) Q F s := by
    intro x c p Q F n q
    obtain ⟨hg, hdb, hm | ⟨hm, hv, hn⟩⟩ := n
    · exact ld_glob (X := X.suite a ((a, o0) :: (X.pn ++ pins))) C0 hg hm q hdb
    · exact ld_blt (X := X.suite a ((a, o0) :: (X.pn ++ pins))) C0 hg hm hv q hn hdb
  have tests : ∀ {c : Value} {b : Bool}, PySem.W.exmOne X.K cls c = some b → PySem.W.Looks (model X.prog X.w) s.heap (excMatches (.ref a) c) b := fun e => PySem.W.exm_one J0.kIn (fun A Q F t k q => wpAny_typeOf_ref (k _ _ g0) (by rw [z0.1]; exact q)) e
  intro hs l h
  induction h with
  | rest hs => exact fun w => w.elim
  | bare n su r ih =>
    rintro ⟨b, e, yes, no⟩
    refine wpAny_handleBy_cons (codeAny_handlers_test (asks n ((tests e).here ?_))) (by intro q; cases q)
    cases b with
    | false => exact ih (no rfl)
    | true =>
      refine codeAny_handlers_suite (HandSPX.lands_againZ fl fun h1 fl1 up1 => ?_)
      obtain ⟨o1, v1, g1, z1, d1⟩ := fl1.there
      have C1 := (J.landed (s' := { s with heap := h1 }) nb fl1.1 (up.trans up1) hos hag).suite g1 d1 na nL nF
      refine wpAny_mono ((su a o1 cls d _ z1 ⟨_, d1⟩).run [] _ σ H _ C1 (yes rfl a na)) (fun f t q => ?_) fun _ _ z => z.elim
      cases f with
      | ret u => exact ⟨_, _, _, q.choose_spec.choose_spec.choose_spec.1.unsuite ok, q.choose_spec.choose_spec.choose_spec.2⟩
      | next => exact ⟨_, _, q.choose_spec.choose_spec.1.unsuite ok, q.choose_spec.choose_spec.2⟩
      | brk => exact ⟨_, _, q.choose_spec.choose_spec.1.unsuite ok, q.choose_spec.choose_spec.2⟩
      | cont => exact ⟨_, _, q.choose_spec.choose_spec.1.unsuite ok, q.choose_spec.choose_spec.2⟩
  | @named x y c i ts st sts p p' hs l n nd hi hl su r ih =>
    rintro ⟨b, e, yes, no⟩
    refine wpAny_handleBy_cons (codeAny_handlers_test (asks n ((tests e).here ?_))) (by intro q; cases q)
    cases b with
    | false => exact ih (no rfl)
    | true =>
      refine codeAny_handlers_suite_as (HandSPX.lands_againZ fl fun h1 fl1 up1 => ?_)
      obtain ⟨o1, v1, g1, z1, d1⟩ := fl1.there
      have C1 := (J.landed (s' := { s with heap := h1 }) nb fl1.1 (up.trans up1) hos hag).suite g1 d1 na nL nF
      refine store_ok (X := X.suite a ((a, o1) :: (X.pn ++ pins))) (v := V.ref a) C1 nd hi (.inl hl) rfl (fun s5 C5 => ?_) (.inr hl)
      refine wpAny_mono ((su a o1 cls d _ z1 ⟨_, d1⟩).run [] s5 _ H _ C5 (yes rfl a na)) (fun f t q => ?_) fun _ _ z => z.elim
      cases f with
      | ret u =>
        obtain ⟨v6, σ6, H6, C6, r6, q6⟩ := q
        exact gone_ok (C6.unsuite ok) nd hi hl fun s7 J7 => ⟨_, _, _, J7, r6, q6⟩
      | next =>
        obtain ⟨σ6, H6, C6, q6⟩ := q
        exact gone_ok (C6.unsuite ok) nd hi hl fun s7 J7 => ⟨_, _, J7, q6⟩
      | brk =>
        obtain ⟨σ6, H6, C6, q6⟩ := q
        exact gone_ok (C6.unsuite ok) nd hi hl fun s7 J7 => ⟨_, _, J7, q6⟩
      | cont =>
        obtain ⟨σ6, H6, C6, q6⟩ := q
        exact gone_ok (C6.unsuite ok) nd hi hl fun s7 J7 => ⟨_, _, J7, q6⟩
end
section
variable {X : Cx} {body : List Stmt} {h0 : ExceptHandler} {hs : List ExceptHandler} {l : List Clause} {pos : Pos} {tb : WX → TS}
theorem ps_try_clauses (hst : X.stack = X.env :: X.outer) (hf : X.env.frame = some X.env.locals)
    (hb : ∀ (Wb : WX) (pn : List (Addr × Obj)) (xe : Value → Shared → Prop), Takes (X.tr pn xe) Wb → PassesOwn (model X.prog X.w) X.A X.env xe → PSs (X.tr pn xe) body (tb Wb)) (hc : ClausesOk X (h0 :: hs) l) :
    PS X (.Try body (h0 :: hs) [] [] pos) (fun E σ H => tb (wishC X.K E l) E σ H) := ⟨fun pins s σ H E I h => by
  have ok := I.ok
  have hfr : X.A.frames = some (X.env :: X.outer) := ok.frames.trans (congrArg some hst)
  refine wpAny_Try_except (wpAny_mono ((hb (wishC X.K E l) (X.pn ++ pins) _ (fun u s' q => ?_) PassesOwn.looking).run [] s σ H E (I.toTry _) h) (fun f t q => ?_) fun e t he => he)
  · obtain ⟨a, B, sI, pins', σ', H', cls, d, rfl, J, nb, up, sky, na, os, ag, w⟩ := q
    exact Sky.land Zc.steady hfr hf (hst ▸ sky) fun h1 fl up1 => clauses_run (s := { s' with heap := h1 }) ok hst hfr hf (J.ofTry ok) nb na os ag (up.trans up1) fl hc w
  · cases f with
    | ret u => exact ⟨_, _, _, q.choose_spec.choose_spec.choose_spec.1.ofTry ok, q.choose_spec.choose_spec.choose_spec.2⟩
    | next => exact wpAny_execs_nil ⟨_, _, q.choose_spec.choose_spec.1.ofTry ok, q.choose_spec.choose_spec.2⟩
    | brk => exact ⟨_, _, q.choose_spec.choose_spec.1.ofTry ok, q.choose_spec.choose_spec.2⟩
    | cont => exact ⟨_, _, q.choose_spec.choose_spec.1.ofTry ok, q.choose_spec.choose_spec.2⟩⟩
end
end Mi

namespace Mi
open PySem PySem.Spec PyProof.Rows L2

/-! ### what an except suite gives back: from the exception alone -/
abbrev MX := Exn → Store → R D
def postX (K : PySem.W.Frag) (φ : List Addr) (H : Hp) (Q : VK) : R D → Prop
  | .ok d S' => ∀ φ' H' v, φ <+: φ' → Keep H H' → StOk K φ' H' S' → RepV K φ' H' d v → Q v H'
  | _ => False
def rdX (K : PySem.W.Frag) (XT : XA) (a : Addr) (i : Nat) (cls : Value) (d : Option Addr) (m : MX) : TE := fun σ H Q =>
  σ[i]? = some (some (.ref a)) ∧ ∃ φ S x, StOk K φ H S ∧ XT φ H x cls d ∧ postX K φ H Q (m x S)
def rdXB (XT : XA) (a : Addr) (i : Nat) (cls : Value) (d : Option Addr) (m : Exn → Bool) : TT := fun σ H Q =>
  σ[i]? = some (some (.ref a)) ∧ ∃ φ x, XT φ H x cls d ∧ Q (m x) H
/-- the test isinstance(e, c) told for each exception that may come -/
def IsT (K : PySem.W.Frag) (XT : XA) (cv : Value) (t : Exn → Bool) : Prop := ∀ φ H x cls d, XT φ H x cls d → ∃ C : Addr, cls = .ref C ∧ d = none ∧ ExcC K C ∧ PySem.W.kitOne K (.ref C) cv = some (t x)
section
variable {X : Cx} {XT : XA} {a : Addr} {o : Obj} {pn : List (Addr × Obj)} {i : Nat} {cls : Value} {d : Option Addr} {pos p p1 p2 : Pos}
theorem postX.give {K : PySem.W.Frag} {φ : List Addr} {H : Hp} {Q : VK} {dd : D} {S : Store} {v : V} (h : postX K φ H Q (.ok dd S)) (st : StOk K φ H S) (r : RepV K φ H dd v) : Q v H := h φ H v (List.prefix_refl φ) (Keep.refl H) st r
theorem x_isE {n c : Str} {cv : V} {cu : Value} {t : Exn → Bool} (hz : Zc cls d o) (hf : ∃ vs, o.data = .fields vs) (hi : IsT X.K XT cu t) (hN : (X.suite a ((a, o) :: pn)).N[i]? = some n) (hv : Vis (X.suite a ((a, o) :: pn)).env.scope n) (hc : PE (X.suite a ((a, o) :: pn)) (.Name c p2) (tC cv)) (hcv : ∀ u, RelV cv u → u = cu)
    (hg : Gl (X.suite a ((a, o) :: pn)) "isinstance") (hm : X.mg "isinstance" = none) (hd : (n == ("__debug__" : Str)) = false := by decide) (hcd : (n == ("__classdict__" : Str)) = false := by decide) :
    PE (X.suite a ((a, o) :: pn)) (.Call (.Name "isinstance" p) [.Name n p1, .Name c p2] [] pos) (fun σ H Q => σ[i]? = some (some (.ref a)) ∧ ∃ φ x, XT φ H x cls d ∧ Q (.bl (t x)) H) := by
  refine ⟨fun pins s σ H Q I h => ?_⟩
  obtain ⟨h1, φ, x, xt, q⟩ := h
  obtain ⟨C, rfl, rfl, ec, e⟩ := hi φ H x cls d xt
  have T := pe_callB (p := p) (pos := pos) (call_isE (X := X) (a := a) (pn := pn) ec hz hf) hg hm (by decide +kernel) (pa_cons (pe_var (i := i) (pos := p1) hN hv hd hcd) (pa_cons hc pa_nil))
  exact T.run pins s σ H Q I ⟨.ref a, h1, cv, cu, t x, rfl, hcv, e, q⟩
section
variable {c b e1 e2 : Expr} {rest : List Expr} {m m1 m2 : Exn → Bool} {v1 v2 : MX} {Y : Cx} {j : Nat}
theorem x_test {e : Expr} (h : PE Y e (fun σ H Q => σ[i]? = some (some (.ref a)) ∧ ∃ φ x, XT φ H x cls d ∧ Q (.bl (m x)) H)) (he : ∀ whole, isTrue e Y.env whole = (do let v ← whole; standAt e.pos; holding [v] (truthy v)) := by intro _; rfl) : PT Y e (rdXB XT a i cls d m) :=
  pt_imp (pt_val h he) fun σ H Q h => by
    obtain ⟨h1, φ, x, xt, q⟩ := h
    exact ⟨h1, φ, x, xt, _, rfl, q⟩
theorem x_val {e : Expr} (h : PE Y e (fun σ H Q => σ[i]? = some (some (.ref a)) ∧ ∃ φ x, XT φ H x cls d ∧ Q (.bl (m x)) H)) : PE Y e (rdX Y.K XT a i cls d fun x S => .ok (.bl (m x)) S) :=
  pe_imp h fun σ H Q h => by
    obtain ⟨h1, φ, S, x, st, xt, q⟩ := h
    exact ⟨h1, φ, x, xt, q.give st .mkBl⟩
/-- the exception that a test was told of: as there is one answer for all that may come, one rule serves -/
def One (XT : XA) (cls : Value) (d : Option Addr) (m : Exn → Bool) : Prop := ∀ φ φ' H x x', XT φ H x cls d → XT φ' H x' cls d → m x = m x'
theorem x_and1 (h : PT Y c (rdXB XT a i cls d m)) : PW Y (.BoolOp .And [c] pos) (rdXB XT a i cls d m) := pw_and1 h
theorem x_and (h1 : PT Y c (rdXB XT a i cls d m1)) (h2 : PW Y (.BoolOp .And (b :: rest) pos) (rdXB XT a i cls d m2)) : PW Y (.BoolOp .And (c :: b :: rest) pos) (rdXB XT a i cls d fun x => m1 x && m2 x) :=
  ⟨fun wh pins s σ H Q I h => by
    obtain ⟨g1, φ, x, xt, q⟩ := h
    have T := pw_and (pos := pos) (⟨fun pins s σ H Q I h => h1.run pins s σ H Q I ⟨h.1, φ, x, h.2.1, h.2.2⟩⟩ : PT Y c (fun σ H Q => σ[i]? = some (some (.ref a)) ∧ XT φ H x cls d ∧ Q (m1 x) H)) (⟨fun wh pins s σ H Q I h => h2.run wh pins s σ H Q I ⟨h.1, φ, x, h.2.1, h.2.2⟩⟩ : PW Y (.BoolOp .And (b :: rest) pos) (fun σ H Q => σ[i]? = some (some (.ref a)) ∧ XT φ H x cls d ∧ Q (m2 x) H))
    refine T.run wh pins s σ H Q I ⟨g1, xt, ?_⟩
    cases e : m1 x with
    | true => exact iteT ⟨g1, xt, by simpa only [e, Bool.true_and] using q⟩
    | false => exact iteF (by simpa only [e, Bool.false_and] using q)⟩
theorem x_not (h : PT Y c (rdXB XT a i cls d m)) : PT Y (.UnaryOp .Not c pos) (rdXB XT a i cls d fun x => !m x) := pt_imp (pt_not h) fun σ H Q h => h
theorem x_str {z : Str} {k : Nat} : PE Y (.Constant (.str z) k pos) (rdX Y.K XT a i cls d fun _ S => .ok (.str z) S) := pe_imp pe_str fun σ H Q h => by
  obtain ⟨h1, φ, S, x, st, xt, q⟩ := h
  exact q.give st .mkStr
theorem x_bool {z : Bool} {k : Nat} : PE Y (.Constant (.bool z) k pos) (rdX Y.K XT a i cls d fun _ S => .ok (.bl z) S) := pe_imp pe_bl fun σ H Q h => by
  obtain ⟨h1, φ, S, x, st, xt, q⟩ := h
  exact q.give st .mkBl
theorem x_ite (h : PT Y c (rdXB XT a i cls d m)) (h1 : PE Y e1 (rdX Y.K XT a i cls d v1)) (h2 : PE Y e2 (rdX Y.K XT a i cls d v2)) : PE Y (.IfExp c e1 e2 pos) (rdX Y.K XT a i cls d fun x S => if m x = true then v1 x S else v2 x S) :=
  ⟨fun pins s σ H Q I h0 => by
    obtain ⟨g1, φ, S, x, st, xt, q⟩ := h0
    have T := pe_ifExp (pos := pos) (⟨fun pins s σ H Q I h0 => h.run pins s σ H Q I ⟨h0.1, φ, x, h0.2.1, h0.2.2⟩⟩ : PT Y c (fun σ H Q => σ[i]? = some (some (.ref a)) ∧ XT φ H x cls d ∧ Q (m x) H)) h1 h2
    refine T.run pins s σ H Q I ⟨g1, xt, ?_⟩
    have q : postX Y.K φ H Q (if m x = true then v1 x S else v2 x S) := q
    cases e : m x with
    | true =>
      rw [e, if_pos rfl] at q
      exact iteT ⟨g1, φ, S, x, st, xt, q⟩
    | false =>
      rw [e, if_neg (by decide)] at q
      exact iteF ⟨g1, φ, S, x, st, xt, q⟩⟩
end
/-! ### the clauses together -/
def pickH : List ((Exn → Bool) × MX) → MX
  | [] => fun _ _ => .bad
  | p :: r => fun x S => if p.1 x = true then p.2 x S else pickH r x S
def rtX : R D → RS
  | .ok d S => .rt d S
  | _ => .bad
/-- try: body / except ..: return .. -/
def tryH (n : Nat) (b : MS) (hs : List ((Exn → Bool) × MX)) : MS := fun e S => match b e S with
  | .exc x e1 S1 => if e1.length = n then rtX (pickH hs x S1) else .bad
  | r => r
def Wok (K : PySem.W.Frag) (XT : XA) (n : Nat) (l : List Clause) (hs : List ((Exn → Bool) × MX)) : Prop := ∀ φ σ H S x cls d E, σ.length = n → StOk K φ H S → XT φ H x cls d → postX K φ H E.rt (pickH hs x S) → wishC K E l cls d σ H
section
variable {K : PySem.W.Frag} {n : Nat} {l : List Clause} {hs : List ((Exn → Bool) × MX)}
theorem wok_nil : Wok K XT n [] [] := fun _ _ _ _ _ _ _ _ _ _ _ q => q
theorem wok_named {c : Value} {t : Exn → Bool} {m : MX} (hi : i < n) (hm : ∀ φ H x cls d, XT φ H x cls d → PySem.W.exmOne K cls c = some (t x)) (r : Wok K XT n l hs) :
    Wok K XT n (⟨c, some i, fun a cls d E σ H => rdX K XT a i cls d m σ H E.rt⟩ :: l) ((t, m) :: hs) := by
  intro φ σ H S x cls d E hn st xt q
  have e := hm _ _ _ _ _ xt
  unfold pickH at q
  dsimp only at q
  split at q
  · rename_i h
    refine ⟨true, by rw [e, h], fun _ a na => ⟨?_, φ, S, x, st, xt, q⟩, fun z => nomatch z⟩
    show (σ.set i (some (V.ref a)))[i]? = _
    rw [List.getElem?_set_self (by omega)]
  · rename_i h
    have h : t x = false := by simpa using h
    exact ⟨false, by rw [e, h], (fun z => nomatch z), fun _ => r φ σ H S x cls d E hn st xt q⟩
end
theorem s_tryH {k n : Nat} {W : Wish} {Wx : WX} {h0 : ExceptHandler} {hs : List ExceptHandler} {l : List Clause} {body : List Stmt} {mb : MS} {hh : List ((Exn → Bool) × MX)} (at_ : At X k W Wx XT) (hst : X.stack = X.env :: X.outer) (hf : X.env.frame = some X.env.locals)
    (hb : ∀ (Wb : WX) (pn : List (Addr × Obj)) (xe : Value → Shared → Prop), Takes (X.tr pn xe) Wb → PassesOwn (model X.prog X.w) X.A X.env xe → PSs (X.tr pn xe) body (rdS X.K (wishX XT Wb) mb))
    (hc : ClausesOk X (h0 :: hs) l) (hw : Wok X.K XT n l hh) : PS X (.Try body (h0 :: hs) [] [] pos) (rdS X.K W (tryH n mb hh)) :=
  ps_imp (ps_try_clauses (tb := fun Wb => rdS X.K (wishX XT Wb) mb) hst hf hb hc) fun D σ H h => by
    obtain ⟨φ, e, S, g, p⟩ := h
    refine ⟨φ, e, S, g, ?_⟩
    unfold tryH at p
    cases hr : mb e S with
    | exc y e1 S1 =>
      rw [hr] at p
      simp only at p
      intro φ' σ' H' q k' g' c' od xt
      split at p
      · rename_i hn
        have p2 := postS.mono q k' p
        refine hw φ' σ' H' S1 y c' od D (by rw [g'.env.len]; exact hn) g'.st xt ?_
        cases hx : pickH hh y S1 with
        | ok d S2 =>
          rw [hx] at p2
          exact p2
        | exc _ _ => rw [hx] at p2; exact p2.elim
        | bad => rw [hx] at p2; exact p2.elim
      · exact p.elim
    | bad => rw [hr] at p; exact p
    | nx _ _ => rw [hr] at p; exact p
    | bk _ _ => rw [hr] at p; exact p
    | ct _ _ => rw [hr] at p; exact p
    | rt _ _ => rw [hr] at p; exact p
theorem isT_all {K : PySem.W.Frag} {mg : Str → Option Value} {xs ys : List Str} {cu : Value} (h : ∀ x ∈ xs, ∃ (C : Addr) (b : Bool), mg x = some (.ref C) ∧ ExcC K C ∧ PySem.W.kitOne K (.ref C) cu = some b ∧ decide (x ∈ ys) = b) : IsT K (XTm mg xs) cu (mX ys) := fun φ H y c' od ⟨_, ho, hx, C, hC, hc⟩ => by
  obtain ⟨C', b, h1, h2, h3, h4⟩ := h _ hx
  rw [hC] at h1
  cases h1
  exact ⟨C, hc, ho, h2, by rw [h3, ← h4]; rfl⟩
/-- return e, in a suite -/
theorem x_ret {Y : Cx} {e : Expr} {v : MX} (h : PE Y e (rdX Y.K XT a i cls d v)) : PSs Y [.Return (some e) pos] (fun E σ H => rdX Y.K XT a i cls d v σ H E.rt) := pss_one (ps_ret h)
end
end Mi
namespace Mi
open PySem PySem.W L2
section
variable {K : Frag} {C D : Addr} {T : String} {b : Bool}
theorem has_cls (h : hasDictIn K C = true) : (clsIn K C).isSome = true := by
  obtain ⟨cd, e, _⟩ := any_some h
  rw [e]
  rfl
theorem kit_self : kitOne K (.ref C) (.ref C) = some true := if_pos (by simp)
theorem kit_ref (hd : hasDictIn K C = true) (ht : typeIn K (.ref C) = some (.type "type")) (hs : subIn K (.ref D) (.ref C) = some b) (hb : b = true ∨ D ≠ C) : kitOne K (.ref D) (.ref C) = some b := by
  unfold kitOne
  split
  · rename_i e
    rcases hb with rfl | hb
    · rfl
    · exact absurd (by simpa using e) hb
  · show (if ((clsIn K C).isSome && typeIn K (.ref C) == some (.type "type")) = true then subIn K (.ref D) (.ref C) else none) = _
    rw [has_cls hd, ht, if_pos (by rfl)]
    exact hs
theorem kit_typ (hm : kitMeta T = true) (hs : subIn K (.ref D) (.type T) = some b) : kitOne K (.ref D) (.type T) = some b := by
  unfold kitOne
  rw [if_neg (by simp)]
  show (if kitMeta T = true then subIn K (.ref D) (.type T) else none) = _
  rw [if_pos hm]
  exact hs
end
end Mi

namespace Mi
open PySem PySem.Spec PyProof.Rows L2

/-! ### the tables of lambdas: cells that are never written here -/
def tabsOf : List Addr → Store → List (Addr × Str)
  | a :: φ, c :: S => match c with
    | .tab x => (a, lamQ x) :: tabsOf φ S
    | _ => tabsOf φ S
  | _, _ => []
theorem tabsOf_mem {p : Addr × Str} : ∀ {φ : List Addr} {S : Store}, p ∈ tabsOf φ S → ∃ (n : Nat) (x : Str), φ[n]? = some p.1 ∧ (S[n]? : Option Cell) = some (.tab x) ∧ p.2 = lamQ x
  | [], S, h => by cases S <;> cases h
  | _ :: _, [], h => by cases h
  | a :: φ, c :: S, h => by
    have go : p ∈ tabsOf φ S → ∃ (n : Nat) (x : Str), (a :: φ)[n]? = some p.1 ∧ ((c :: S)[n]? : Option Cell) = some (.tab x) ∧ p.2 = lamQ x := fun h => by
      obtain ⟨n, x, h1, h2⟩ := tabsOf_mem h
      exact ⟨n + 1, x, h1, h2⟩
    unfold tabsOf at h
    split at h
    · rcases List.mem_cons.mp h with rfl | h
      · exact ⟨0, _, rfl, rfl, rfl⟩
      · exact go h
    · exact go h
theorem mem_tabsOf {a : Addr} {x : Str} : ∀ {φ : List Addr} {S : Store} {n : Nat}, φ[n]? = some a → (S[n]? : Option Cell) = some (.tab x) → (a, lamQ x) ∈ tabsOf φ S
  | [], _, _, h, _ => by cases h
  | _ :: _, [], _, _, h => by cases h
  | b :: φ, c :: S, 0, h1, h2 => by
    cases h1; cases h2
    exact List.mem_cons_self
  | b :: φ, c :: S, n + 1, h1, h2 => by
    have := mem_tabsOf (φ := φ) (S := S) (n := n) h1 h2
    unfold tabsOf
    split
    · exact List.mem_cons_of_mem _ this
    · exact this
section
variable {K : PySem.W.Frag} {φ : List Addr} {H H1 : Hp} {S : Store}
theorem StOk.tabs (st : StOk K φ H S) : LamX.Tabs (tabsOf φ S) H := fun p hp => by
  obtain ⟨n, x, h1, h2, h5⟩ := tabsOf_mem hp
  obtain ⟨a, h3, x⟩ := st.at_ n _ h2
  rw [h1] at h3
  cases h3
  rw [h5]
  exact x.2
theorem keep_ext (e : LamX.ExtN H H1) : Keep H H1 := ⟨fun a xs h => e a _ h fun ps z => (by cases z), fun a o u h => e a _ h fun ps z => (by cases z), fun a q h => e a _ h LamX.codeO_ne, fun a fs h => e a _ h fun ps z => (by cases z)⟩
theorem StOk.ext (st : StOk K φ H S) (e : LamX.ExtN H H1) (t : LamX.Tabs (tabsOf φ S) H1) : StOk K φ H1 S := ⟨st.len, st.nd, fun n c hc => by
  obtain ⟨a, h1, x⟩ := st.at_ n c hc
  refine ⟨a, h1, ?_⟩
  cases c with
  | tab q => exact ⟨x.1, t (a, lamQ q) (mem_tabsOf h1 hc)⟩
  | lst ds =>
    have x' := x
    obtain ⟨xs, h2, r⟩ := x
    exact x'.mono (List.prefix_refl φ) (keep_ext e) ((e a _ h2 fun ps z => by cases z).trans h2.symm)
  | dK ds =>
    have x' := x
    obtain ⟨xs, h2, r⟩ := x
    exact x'.mono (List.prefix_refl φ) (keep_ext e) ((e a _ h2 fun ps z => by cases z).trans h2.symm)
  | dT ds =>
    have x' := x
    obtain ⟨xs, h2, r⟩ := x
    exact x'.mono (List.prefix_refl φ) (keep_ext e) ((e a _ h2 fun ps z => by cases z).trans h2.symm)
  | fK ds =>
    have x' := x
    obtain ⟨xs, ⟨o, h2⟩, r⟩ := x
    exact x'.mono (List.prefix_refl φ) (keep_ext e) ((e a _ h2 fun ps z => by cases z).trans h2.symm)
  | fn l caps =>
    have x' := x
    obtain ⟨_, _, _, _, h2, _⟩ := x
    exact x'.mono (List.prefix_refl φ) (keep_ext e) ((e a _ h2 fun ps z => by cases z).trans h2.symm)
  | dead =>
    have x' := x
    obtain ⟨_, h2, _⟩ := x
    exact x'.mono (List.prefix_refl φ) (keep_ext e) ((e a _ h2 fun ps z => by cases z).trans h2.symm)⟩
theorem StOk.tab_one (st : StOk K φ H S) {n : Nat} {a : Addr} {x : Str} (h1 : φ[n]? = some a) (h2 : (S[n]? : Option Cell) = some (.tab x)) : ∀ p ∈ tabsOf φ S, p.1 = a → p.2 = lamQ x := fun p hp e => by
  obtain ⟨m, y, h3, h4, h5⟩ := tabsOf_mem hp
  rw [e] at h3
  have hm : m < φ.length := by
    rcases Nat.lt_or_ge m φ.length with z | z
    · exact z
    · rw [List.getElem?_eq_none z] at h3; cases h3
  have : m = n := (List.getElem?_inj hm st.nd).mp (h3.trans h1.symm)
  subst this
  rw [h2] at h4
  cases h4
  exact h5
end
/-! ### a def, called at one place; what is known of its code object -/
section
variable {P : Program} {w : World} {K : PySem.W.Frag} {mg : Str → Option Value} {base : Heap}
theorem m_here {x qual : Str} {st : Stmt} {f : Addr} {fd : FuncData} {N ps : List Str} {k : Nat} (F : Fun K x qual st f fd) (Sc : FnScope N ps (defScope st)) {A : Around} {outer : List Env} {s : Shared} {H : Hp} {args : Args} {us : List Value} {vs : List V} {Q : VK} {E : XK}
    (hr : Room (k + 1) A) (gu : A.guards = some []) (e0 : Env0 P w K mg base A outer s H) (hb : BindsTo s fd args (ps.zip us)) (r : Vals vs us) (el : vs.length = ps.length)
    (body : ∀ (cdv : Value), fd.code = cdv → Room k (A.deeper (PyProof.Rows.envOfC qual (defScope st) s.heap.objs.size f cdv)) →
      ∃ t, PSs (cxOf (L2.CX P w) P w K mg base N qual (defScope st) f cdv A outer s H E) (defBody st) t ∧ t { nx := fun _ H' => Q .non H', rt := Q } (L2.start N vs) H) :
    codeAny (model P w) A (.call (.ref f) args) (CR (L2.CX P w) outer P w H s Q E) s := by
  obtain ⟨oc, od, kV, doc, pm, an, cdv, ct, osl, rfl, lk, hcd⟩ := F.ex
  have inK : K.In s.heap := e0.mod.kin.keeps fun b o q => (e0.bs b o q).1
  have lim : s.heap.NoLimit := e0.mod.nolimit.keeps fun b o q => (e0.bs b o q).1
  refine codeAny_call_function hr.depth (inK _ _ lk) rfl Sc.co Sc.gen rfl (PySem.W.codeRec_of inK hcd) (hb _ _ _ _ (wpAny_newFunctionEnv_cells Sc.kind (fun ⟨n, v⟩ hy => ?_) fun env he s1 z => ?_))
  · rcases Sc.par n (List.of_mem_zip hy).1 with q | q
    · exact .inl q
    · exact .inr ⟨q, PySem.W.cellsFrom_some _ _ _ (.inl q)⟩
  subst he
  refine ⟨lim.keeps z.toInCall.keep, codeAny_func ?_⟩
  obtain ⟨t, ht, hq⟩ := body cdv rfl (hr.deeper _)
  refine wpAny_mono (ht.run [] s1 (L2.start N vs) H _ (inv_start Sc hr.hd e0 el r z) hq) (fun fl s' hs => ?_) fun e s' hs => hs
  cases fl with
  | ret u =>
    obtain ⟨v, σ', H', J, rv, q⟩ := hs
    exact ⟨v, H', J.os, J.bare, J.base, J.hok, rv, q⟩
  | next =>
    obtain ⟨σ', H', J, q⟩ := hs
    exact ⟨V.non, H', J.os, J.bare, J.base, J.hok, rfl, q⟩
  | brk => exact hs.elim fun _ h => h.elim fun _ h => h.2.elim
  | cont => exact hs.elim fun _ h => h.elim fun _ h => h.2.elim
/-- m_def, where the code object is known -/
theorem m_defC {x qual : Str} {st : Stmt} {f c : Addr} {fd : FuncData} {N ps : List Str} {k : Nat} {sp : Sp} (F : Fun K x qual st f fd) (hc : fd.code = .ref c) (Sc : FnScope N ps (defScope st)) (len : ∀ vs H Q E, sp vs H Q E → vs.length = ps.length)
    (body : ∀ (A : Around) (outer : List Env) (s : Shared) (H : Hp) (vs : List V) (Q : VK) (E : XK), Room k (A.deeper (PyProof.Rows.envOfC qual (defScope st) s.heap.objs.size f (.ref c))) → A.guards = some [] → sp vs H Q E →
      ∃ t, PSs (cxOf (L2.CX P w) P w K mg base N qual (defScope st) f (.ref c) A outer s H E) (defBody st) t ∧ t { nx := fun _ H' => Q .non H', rt := Q } (L2.start N vs) H) :
    FnM P w K mg base (k + 1) f fd ps sp :=
  ⟨len, fun A outer s H args us vs Q E hr gu e0 hb r h => m_here F Sc hr gu e0 hb r (len _ _ _ _ h) fun cdv e hr' => by
    rw [hc] at e
    subst e
    exact body A outer s H vs Q E hr' gu h⟩
end
/-! ### x(): the lambda that the def got -/
/-- what the call of the lambda at f asks of Z, the context of the def that got it; tl: the reading of the lambda's body -/
def ThunkIn (Z : Cx) (a : Str) (f c' : Addr) (q : Str) (tl : XK → Hp → VK → Prop) : Prop := ∀ (Wb : WX) (pn : List (Addr × Obj)) (xe : Value → Shared → Prop) (E : XK) (p1 p2 : Pos), Takes (Z.tr pn xe) Wb → (∀ cls d σ H, E cls d H → Wb cls d σ H) →
  PE (Z.tr pn xe) (.Call (.Name a p1) [] [] p2) (fun σ H Q => σ[0]? = some (some (.ref f)) ∧ H c' = some (LamX.CodeO c' q) ∧ tl E H Q)
section
variable {X : Cx} {pins : List (Addr × Obj)} {σ : L2.St} {H : Hp} {s : Shared}
theorem thunk_run {Eg : XK} {Ng : List Str} {qg : Str} {sg : Scope} {g f c' : Addr} {cdg pm ctv : Value} {params : Arguments} {body : Expr} {scope : Scope} {k : Nat} {a : Str} {tb : XK → TE} (I : Inv X pins σ H s) (gu : X.A.guards = some []) (L : LamX.LamS X.env.scope scope)
    (hf : s.heap.get? f = some (PySem.W.kla_obj "<lambda>" (X.env.qual ++ "<lambda>") params body scope (cloFrom X.env.cells scope.names []) pm c' ctv)) (hfn : H f = none) (hfr : f ∉ frs X.stack)
    (hbind : bindArgs (PySem.W.kla_fn "<lambda>" (X.env.qual ++ "<lambda>") params body scope (cloFrom X.env.cells scope.names []) pm (.ref c') ctv) ⟨[], []⟩ = pure []) (hr : Room (k + 1) (X.A.deeper (envOfC qg sg s.heap.objs.size g cdg)))
    (hbody : ∀ (A : Around) (outer : List Env) (s : Shared) (H : Hp) (E : XK), A.guards = some [] → Room k (A.deeper (LamX.lamEnv X scope s.heap.objs.size f c')) → PE (LamX.lamCx X A outer s H E scope f c') body (tb E))
    (hN : Ng[0]? = some a) (hv : Vis sg a) (hd : (a == ("__debug__" : Str)) = false) (hcd : (a == ("__classdict__" : Str)) = false) :
    ThunkIn (cxOf (L2.CX X.prog X.w) X.prog X.w X.K X.mg X.base Ng qg sg g cdg X.A X.stack s H Eg) a f c' (X.env.qual ++ "<lambda>") (fun E H Q => tb E σ H Q) := fun Wb pn xe E p1 p2 tk hW => by
  refine ⟨fun pz sz σz Hz Q Iz h => ?_⟩
  obtain ⟨h1, h2, h3⟩ := h
  refine wpAny_Call_Name_kw (thn ((pe_var (i := 0) hN hv hd hcd).run pz sz σz Hz (fun v H1 => v = .ref f ∧ H1 = Hz) Iz ⟨_, h1, rfl, rfl⟩) fun u s1 ⟨v, H1, I1, r1, ev, eh⟩ => ?_)
  subst ev eh
  obtain rfl : u = Value.ref f := r1
  have un : Un (frs X.stack) [] H H1 s.heap s1.heap := I1.base
  have o1 := un.keep f _ hf hfn hfr (by simp)
  obtain ⟨⟨oc, vs, t, k1, k2, k3⟩, _, _⟩ := I1.hok c' _ h2
  refine PySem.W.callWith_F0 ⟨_, _, _, _, o1⟩ (wpAny_call (codeAny_mono (?_ : codeAny _ (X.A.deeper (envOfC qg sg s.heap.objs.size g cdg)) _ (CR (L2.CX X.prog X.w) (envOfC qg sg s.heap.objs.size g cdg :: X.stack) X.prog X.w H1 s1 Q E) s1) fun r s2 q => ?_))
  · refine PySem.W.kla_callFunE hr.depth o1 rfl L.co L.gen rfl ⟨c', oc, vs, t, rfl, k1, k2, k3⟩ ?_
    show wpAny _ _ (bindArgs _ ⟨[], []⟩) _ _ _
    rw [hbind]
    refine wpAny_pure (wpAny_newFunctionEnv (fun y hy => (L.own y hy).2) (fun y hy => absurd hy (by simp)) (fun h1 hns sb => ⟨I1.nolimit.fresh _ sb, PySem.W.kla_codeExpr ?_⟩) L.kind)
    have keeps : ∀ b o, s1.heap.get? b = some o → h1.get? b = some o := fun b o e => sb.extBut b o (Nat.ne_of_lt (Heap.lt_size e)) (Heap.get?_push_of_some _ e)
    refine wpAny_mono ((hbody (X.A.deeper (envOfC qg sg s.heap.objs.size g cdg)) _ s1 H1 E gu (hr.deeper _)).run [] _ _ H1 Q (LamX.lam_start2 (E := E) I L I1.env0 hr.hd un hns keeps) h3) (fun v s3 q => ?_) fun e s3 q => q
    obtain ⟨w3, H3, J, rv, q⟩ := q
    exact ⟨w3, H3, J.os, J.bare, J.base, J.hok, rv, q⟩
  · cases r with
    | error e => exact passes_call tk hW pz σz H1 s1 e s2 I1 q
    | ok fl =>
      cases fl with
      | ret u => exact I1.after q
      | next => exact q.elim
      | brk => exact q.elim
      | cont => exact q.elim
end
/-! ### x(lambda: body) -/
def lamV (i : Nat) (y : Str) (G : (Store → R D) → Store → R D) (mb : ME) : ME := fun e S => match S[i]? with
  | some (.tab z) => if z = y then noX (G (fun S' => mb e S') S) else .bad
  | _ => .bad
/-- what the def that gets the lambda makes of the lambda's function -/
def TTm (K : PySem.W.Frag) (XT : XA) (G : (Store → R D) → Store → R D) : (XK → Hp → VK → Prop) → Hp → VK → Prop := fun tl H Q =>
  ∃ φ S th, StOk K φ H S ∧ (∀ (E : XK) φ' H' S' Q', φ <+: φ' → Keep H H' → StOk K φ' H' S' → postC XT K φ' H' Q' E (th S') → tl E H' Q') ∧ postX K φ H Q (G th S)
def GivesM (X : Cx) (Ng : List Str) (x : Str) (st : Stmt) (g : Addr) (a q : Str) (k : Nat) (TT : (XK → Hp → VK → Prop) → Hp → VK → Prop) : Prop :=
  ∀ (cdg : Value) (f c' : Addr) (s : Shared) (H : Hp) (Q : VK) (tl : XK → Hp → VK → Prop), X.A.guards = some [] → Room (k + 1) (X.A.deeper (envOfC x (defScope st) s.heap.objs.size g cdg)) →
    ThunkIn (cxOf (L2.CX X.prog X.w) X.prog X.w X.K X.mg X.base Ng x (defScope st) g cdg X.A X.stack s H fun _ _ _ => False) a f c' q tl → H c' = some (LamX.CodeO c' q) → TT tl H Q →
    ∃ t, PSs (cxOf (L2.CX X.prog X.w) X.prog X.w X.K X.mg X.base Ng x (defScope st) g cdg X.A X.stack s H fun _ _ _ => False) (defBody st) t ∧ t { nx := fun _ H' => Q .non H', rt := Q } (L2.start Ng [.ref f]) H
theorem postX.mono {K : PySem.W.Frag} {φ φ' : List Addr} {H H' : Hp} {Q : VK} (e : φ <+: φ') (k : Keep H H') : ∀ {r : R D}, postX K φ H Q r → postX K φ' H' Q r
  | .ok _ _, h => fun φ'' H'' v q k' => h φ'' H'' v (e.trans q) (k.trans k')
  | .exc _ _, h => h
  | .bad, h => h
section
variable {X : Cx}
theorem q_lam {k k' i : Nat} {W : Wish} {Wx : WX} {XT : XA} {x a y : Str} {g c P : Addr} {st : Stmt} {fd : FuncData} {Ng : List Str} {params : Arguments} {body : Expr} {scope : Scope} {G : (Store → R D) → Store → R D} {mb : ME} {p lpos pos : Pos}
    (at_ : At X k' W Wx XT) (hk' : k + 2 ≤ k') (hg : Gl X x) (hm : X.mg x = some (.ref g)) (hk : PySem.W.keepIn X.K (.ref g) = true) (Fg : Fun X.K x x st g fd) (hb : Binds X.K fd [a] []) (Sg : FnScope Ng [a] (defScope st)) (hN : Ng[0]? = some a) (hv : Vis (defScope st) a)
    (hG : GivesM X Ng x st g a (X.env.qual ++ "<lambda>") k (TTm X.K XT G)) (ht : PySem.W.tabIn X.K y = some (c, P)) (hq : X.env.qual = y ++ (".<locals>." : Str)) (TB : LamX.TabB X.base X.mg c P) (hcode : X.env.code = .ref c) (L : LamX.LamS X.env.scope scope)
    (hdef : defaultsOf params X.env = ([], [])) (hbind : ∀ (q : Str) (cl : List (Str × Addr)) (pm cv ctv : Value), bindArgs (PySem.W.kla_fn "<lambda>" q params body scope cl pm cv ctv) ⟨[], []⟩ = pure [])
    (hbody : ∀ (A : Around) (outer : List Env) (s : Shared) (H : Hp) (E : XK) (f c' : Addr), A.guards = some [] → Room k (A.deeper (LamX.lamEnv X scope s.heap.objs.size f c')) → PE (LamX.lamCx X A outer s H E scope f c') body (rd X.K (wishE XT E) mb))
    (hdb : (x == ("__debug__" : Str)) = false := by decide) (hd : (a == ("__debug__" : Str)) = false := by decide) (hcd : (a == ("__classdict__" : Str)) = false := by decide) :
    PE X (.Call (.Name x p) [.Lambda params body scope lpos] [] pos) (rd X.K W (lamV i y G mb)) := by
  refine ⟨fun pins s σ H Q I h => ?_⟩
  obtain ⟨φ, e, S, g0, p0⟩ := h
  unfold lamV at p0
  split at p0
  · rename_i z hS
    split at p0
    · rename_i ez
      subst ez
      obtain ⟨a', hφ, ⟨c', ht'⟩, tb⟩ := g0.st.at_ i _ hS
      have eP : a' = P := (Prod.mk.inj (Option.some.inj (ht'.symm.trans ht))).2
      subst eP
      have eq : X.env.qual ++ ("<lambda>" : Str) = lamQ z := by rw [hq]; rfl
      refine wpAny_Call_Name_kw (ld_glob I hg hm (PySem.W.callWith_K (h₀ := X.base) I.ok.mod.kin hk ?_ (by rfl) (by rfl)) hdb)
      show wpAny _ _ (spliced ((false, eval (.Lambda params body scope lpos) X.env) :: backTo pos (starEach [] X.env))) _ _ s
      refine Calls.spliced_cons (LamX.lam_make2 (T := tabsOf φ S) I TB hcode (by rw [eq]; exact mem_tabsOf hφ hS) (by rw [eq]; exact g0.st.tab_one hφ hS) g0.st.tabs hdef (L.has I.ok) fun f cl pm ctv H1 s' I1 eN T1 hf hfn hfr hco => ?_)
      refine Calls.spliced_nil ⟨I1.kIn, ?_⟩
      have rm := at_.room.mono hk'
      have st1 := g0.st.ext eN T1
      have kp := keep_ext eN
      refine wpAny_call (codeAny_mono (m_here (E := fun _ _ _ => False) (Q := Q) (vs := [.ref f]) Fg Sg rm at_.gu I1.env0 (hb s' [.ref f] I1.kIn rfl) (.cons rfl .nil) rfl fun cdv _ hr => ?_) fun r s2 q => ?_)
      · refine hG cdv f cl s' H1 Q (fun E H' Q' => rd X.K (wishE XT E) mb σ H' Q') at_.gu hr (thunk_run I1 at_.gu L hf hfn hfr (hbind _ _ _ _ _) hr (fun A outer s H E gu r => hbody A outer s H E f cl gu r) hN hv hd hcd) hco ⟨φ, S, fun S' => mb e S', st1, fun E φ' H' S' Q' e' k2 st' pc => ?_, ?_⟩
        · refine ⟨φ', e, S', ⟨g0.env.mono e' (kp.trans k2), st'⟩, ?_⟩
          dsimp only at pc
          cases hr : mb e S' with
          | ok d S2 => rw [hr] at pc; exact pc
          | bad => rw [hr] at pc; exact pc
          | exc y S2 =>
            rw [hr] at pc
            exact fun φ2 H2 q2 k3 g2 c od xt => pc φ2 H2 c od q2 k3 g2.st xt
        · cases hr : G (fun S' => mb e S') S with
          | ok d S2 =>
            rw [hr] at p0
            exact fun φ2 H2 v q2 k3 => p0 φ2 H2 v q2 (kp.trans k3)
          | bad => rw [hr] at p0; exact p0.elim
          | exc y S2 => rw [hr] at p0; exact p0.elim
      · cases r with
        | error e =>
          obtain ⟨_, _, _, _, _, _, _, _, _, _, _, _, z⟩ := (show L2.CX X.prog X.w X.stack H1 s' (fun _ _ _ => False) e s2 from q)
          exact z.elim
        | ok fl =>
          cases fl with
          | ret u => exact I1.after q
          | next => exact q.elim
          | brk => exact q.elim
          | cont => exact q.elim
    · exact p0.elim
  · exact p0.elim
end
theorem at_lam {X : Cx} {A : Around} {outer : List Env} {s : Shared} {H : Hp} {E : XK} {scope : Scope} {f c' : Addr} {k : Nat} {XT : XA} (gu : A.guards = some []) (hr : Room k (A.deeper (LamX.lamEnv X scope s.heap.objs.size f c'))) :
    At (LamX.lamCx X A outer s H E scope f c') k (wishE XT E) (fun c od _ H => E c od H) XT := ⟨hr, gu, takes_of rfl rfl rfl rfl, link_E⟩
/-! ### def x(a): try: a() / except ..: return ..; rest -/
def restR (m : Nat) (mr : MS) (S : Store) : R D := match mr (List.replicate m none) S with
  | .rt d S2 => .ok d S2
  | .nx _ S2 => .ok .non S2
  | _ => .bad
def tryG (m : Nat) (hh : List ((Exn → Bool) × MX)) (mr : MS) : (Store → R D) → Store → R D := fun th S => match th S with
  | .ok _ S' => restR m mr S'
  | .exc x S' => pickH hh x S'
  | .bad => .bad
/-- def x(a): try: return a() / except ..: return .. -/
def tryGR (hh : List ((Exn → Bool) × MX)) : (Store → R D) → Store → R D := fun th S => match th S with
  | .ok d S' => .ok d S'
  | .exc x S' => pickH hh x S'
  | .bad => .bad
section
variable {X : Cx} {Ng : List Str} {x a q : Str} {st : Stmt} {g : Addr} {k n : Nat} {XT : XA} {h0 : ExceptHandler} {hs : List ExceptHandler} {l : List Clause} {hh : List ((Exn → Bool) × MX)} {rest : List Stmt} {mr : MS} {p1 p2 p3 p4 : Pos}
theorem takes_len {Z : Cx} {Wb : WX} (tk : Takes Z Wb) : Takes Z fun cls d σ H => σ.length = Z.N.length → Wb cls d σ H := fun u s' ⟨a, B, sI, pins, σ, H, cls, d, e, I, nb, up, sky, na, os, ag, w⟩ =>
  tk u s' ⟨a, B, sI, pins, σ, H, cls, d, e, I, nb, up, sky, na, os, ag, w I.len⟩
theorem gives_try (hst : defBody st = .Try [.Expr (.Call (.Name a p1) [] [] p2) p3] (h0 :: hs) [] [] p4 :: rest) (hn : Ng.length = n) (h1 : 1 ≤ Ng.length)
    (hc : ∀ (cdg : Value) (s : Shared) (H : Hp), X.A.guards = some [] → Room (k + 1) (X.A.deeper (envOfC x (defScope st) s.heap.objs.size g cdg)) → ClausesOk (cxOf (L2.CX X.prog X.w) X.prog X.w X.K X.mg X.base Ng x (defScope st) g cdg X.A X.stack s H fun _ _ _ => False) (h0 :: hs) l) (hw : Wok X.K XT n l hh)
    (hr : ∀ (cdg : Value) (s : Shared) (H : Hp), X.A.guards = some [] → Room (k + 1) (X.A.deeper (envOfC x (defScope st) s.heap.objs.size g cdg)) → PSs (cxOf (L2.CX X.prog X.w) X.prog X.w X.K X.mg X.base Ng x (defScope st) g cdg X.A X.stack s H fun _ _ _ => False) rest (rdS X.K noExc mr)) :
    GivesM X Ng x st g a q k (TTm X.K XT (tryG Ng.length hh mr)) := by
  intro cdg f c' s H Q tl gu rm th hco tt
  obtain ⟨φ, S, thk, sk, hth, pq⟩ := tt
  rw [hst]
  have hl : ∀ σ : L2.St, σ.length = Ng.length → σ.length = n := fun σ e => by omega
  have ls : (L2.start Ng [V.ref f]).length = Ng.length := by unfold L2.start; simp; omega
  refine ⟨_, pss_cons (ps_try_clauses (tb := fun Wb D σ H => ∃ E : XK, (∀ cls d σ' H', E cls d H' → σ'.length = Ng.length → Wb cls d σ' H') ∧ σ[0]? = some (some (.ref f)) ∧ H c' = some (LamX.CodeO c' q) ∧ tl E H fun _ H' => D.nx σ H') rfl rfl (fun Wb pn xe tk po => ⟨fun pins s' σ H D I h => ?_⟩) (hc cdg s H gu rm)) (hr cdg s H gu rm), ?_⟩
  · obtain ⟨E, e1, e2, e3, e4⟩ := h
    exact (pss_one (ps_expr (pos := p3) (th _ pn xe E p1 p2 (takes_len tk) fun cls d σ H h e => e1 cls d σ H h e))).run pins s' σ H D I ⟨e2, e3, e4⟩
  · refine ⟨fun cls d H' => ∀ σ' : L2.St, σ'.length = Ng.length → wishC X.K _ l cls d σ' H', fun cls d σ' H' h e => h σ' e, rfl, hco, hth _ φ H S _ (List.prefix_refl φ) (Keep.refl H) sk ?_⟩
    unfold tryG at pq
    cases hs : thk S with
    | bad => rw [hs] at pq; exact pq
    | exc y S' =>
      rw [hs] at pq
      exact fun φ' H' c od e' k' st' xt σ' eσ => hw φ' σ' H' S' y c od _ (hl σ' eσ) st' xt (pq.mono e' k')
    | ok d S' =>
      rw [hs] at pq
      intro φ' H' v e' k' st' rv
      refine ⟨φ', List.replicate Ng.length none, S', ⟨⟨by rw [ls, List.length_replicate], fun i d hi => ?_⟩, st'⟩, ?_⟩
      · rw [List.getElem?_replicate] at hi
        split at hi <;> cases hi
      · simp only at pq
        unfold restR at pq
        cases hm : mr (List.replicate Ng.length none) S' with
        | rt d2 S2 =>
          rw [hm] at pq
          exact fun φ2 H2 v2 q2 k2 => pq φ2 H2 v2 (e'.trans q2) (k'.trans k2)
        | nx e2 S2 =>
          rw [hm] at pq
          exact fun φ2 σ2 H2 q2 k2 g2 => pq φ2 H2 .non (e'.trans q2) (k'.trans k2) g2.st .mkNon
        | bk _ _ => rw [hm] at pq; exact pq.elim
        | ct _ _ => rw [hm] at pq; exact pq.elim
        | exc _ _ _ => rw [hm] at pq; exact pq.elim
        | bad => rw [hm] at pq; exact pq.elim
theorem gives_ret (hst : defBody st = [.Try [.Return (some (.Call (.Name a p1) [] [] p2)) p3] (h0 :: hs) [] [] p4]) (hn : Ng.length = n) (h1 : 1 ≤ Ng.length)
    (hc : ∀ (cdg : Value) (s : Shared) (H : Hp), X.A.guards = some [] → Room (k + 1) (X.A.deeper (envOfC x (defScope st) s.heap.objs.size g cdg)) → ClausesOk (cxOf (L2.CX X.prog X.w) X.prog X.w X.K X.mg X.base Ng x (defScope st) g cdg X.A X.stack s H fun _ _ _ => False) (h0 :: hs) l) (hw : Wok X.K XT n l hh) : GivesM X Ng x st g a q k (TTm X.K XT (tryGR hh)) := by
  intro cdg f c' s H Q tl gu rm th hco tt
  obtain ⟨φ, S, thk, sk, hth, pq⟩ := tt
  rw [hst]
  have hl : ∀ σ : L2.St, σ.length = Ng.length → σ.length = n := fun σ e => by omega
  refine ⟨_, pss_one (ps_try_clauses (tb := fun Wb D σ H => ∃ E : XK, (∀ cls d σ' H', E cls d H' → σ'.length = Ng.length → Wb cls d σ' H') ∧ σ[0]? = some (some (.ref f)) ∧ H c' = some (LamX.CodeO c' q) ∧ tl E H D.rt) rfl rfl (fun Wb pn xe tk po => ⟨fun pins s' σ H D I h => ?_⟩) (hc cdg s H gu rm)), ?_⟩
  · obtain ⟨E, e1, e2, e3, e4⟩ := h
    exact (pss_one (ps_ret (pos := p3) (th _ pn xe E p1 p2 (takes_len tk) fun cls d σ H h e => e1 cls d σ H h e))).run pins s' σ H D I ⟨e2, e3, e4⟩
  · refine ⟨fun cls d H' => ∀ σ' : L2.St, σ'.length = Ng.length → wishC X.K _ l cls d σ' H', fun cls d σ' H' h e => h σ' e, rfl, hco, hth _ φ H S _ (List.prefix_refl φ) (Keep.refl H) sk ?_⟩
    unfold tryGR at pq
    cases hs : thk S with
    | bad => rw [hs] at pq; exact pq
    | exc y S' =>
      rw [hs] at pq
      exact fun φ' H' c od e' k' st' xt σ' eσ => hw φ' σ' H' S' y c od _ (hl σ' eσ) st' xt (pq.mono e' k')
    | ok d S' =>
      rw [hs] at pq
      exact pq
end
end Mi

namespace Mi
open PySem PySem.Spec PyProof.Rows L2

/-! ### the law's end, with tables of lambdas; cs: a def's name, its code object, its table -/
section
variable {P : Program} {w : World} {K : PySem.W.Frag} {mg mb : Str → Option Value} {k : Nat} {fa a : Addr} {fd : FuncData} {x : Str} {s1 : Shared} {vs : List Value} {ns : List Int} {cs : List (Str × Addr × Addr)}
structure TabsIn (K : PySem.W.Frag) (mg : Str → Option Value) (h : Heap) (cs : List (Str × Addr × Addr)) : Prop where
  t : ∀ t ∈ cs, PySem.W.tabIn K t.1 = some (t.2.1, t.2.2)
  e : ∀ t ∈ cs, h.get? t.2.2 = some { cls := .none, data := .fields #[] }
  n : ∀ t ∈ cs, K.lookup t.2.2 = none
  c : ∀ t ∈ cs, PySem.W.CodeHd h t.2.1 t.2.2
  nd : (cs.map fun t => t.2.2).Nodup
theorem law_fromT {sp : Sp} (H : Hp) (T : TabsIn K mg s1.heap cs) (hbm : ∃ (bm : Addr) (ob : Obj), mg "__builtins__" = some (.ref bm) ∧ bm ≠ builtinsNs ∧ s1.heap.get? bm = some ob ∧ ob.cls = .type "module" ∧ ob.dict = some builtinsNs ∧ ob.data = .plain)
    (hA : ∀ b, H b ≠ none → b = a ∨ ∃ t ∈ cs, t.2.2 = b) (hO : ∀ o, H a = some o → ∃ u, o = .frz { cls := .type "list", data := .seq vs.toArray } u) (hP : ∀ t ∈ cs, H t.2.2 = some (.tbl #[])) (hok : HOk P w H s1.heap) (hK : H a ≠ none → K.lookup a = none)
    (ha : s1.heap.get? a = some { cls := .type "list", data := .seq vs.toArray })
    (kin : K.In s1.heap) (hns : s1.heap.Ns mainGlobals mg) (hb : s1.heap.Ns builtinsNs mb) (hbb : ∀ x : Str, x ≠ "__name__" → mb x = bootBuiltins x) (hlim : s1.heap.NoLimit) (hg : s1.gens = #[]) (hr : Room k callerA)
    (F : ∀ base : Heap, K.In base → base.Ns mainGlobals mg → (∀ t ∈ cs, LamX.TabB base mg t.2.1 t.2.2) → FnM P w K mg base k fa fd [x] sp) (bd : ∀ (s : Shared) (u : Value), BindsTo s fd ⟨[u], []⟩ [(x, u)])
    (hsp : sp [.ref a] H (fun v _ => v = .bl true) fun _ _ _ => False) :
    codeAny (model P w) callerA (.call (.ref fa) ⟨[.ref a], []⟩) (fun r s' => r = .ok (.ret (.bool true)) ∧ OldK s1.heap s'.heap ∧ s'.os = s1.os ∧ AllBare s'.gens) s1 := by
  -- an object that is neither a list nor an empty table is not tracked
  have free : ∀ {b : Addr} {o : Obj}, s1.heap.get? b = some o → o.data ≠ .seq vs.toArray → o.data ≠ .fields #[] → H b = none := by
    intro b o e n1 n2
    cases q : H b with
    | none => rfl
    | some u =>
      rcases hA b (by rw [q]; exact fun z => by cases z) with rfl | ⟨t, ht, rfl⟩
      · rw [ha] at e
        cases e
        exact absurd rfl n1
      · rw [T.e t ht] at e
        cases e
        exact absurd rfl n2
  have dct : ∀ {b : Addr} {o : Obj} {es : Array DictEntry} {ep : Nat}, s1.heap.get? b = some o → o.data = .dict es ep → H b = none := fun e d => free e (by rw [d]; intro z; cases z) (by rw [d]; intro z; cases z)
  have nsT : ∀ {b : Addr} {m : Str → Option Value}, s1.heap.Ns b m → (hidT s1.heap H).Ns b m := by
    rintro b m ⟨o, es, ep, e, d, r⟩
    exact ⟨o, es, ep, hidT_get e (dct e d), d, r⟩
  have kinT : K.In (hidT s1.heap H) := by
    intro b o e
    refine hidT_get (kin b o e) ?_
    cases q : H b with
    | none => rfl
    | some u =>
      rcases hA b (by rw [q]; exact fun z => by cases z) with rfl | ⟨t, ht, rfl⟩
      · rw [hK (by rw [q]; exact fun z => by cases z)] at e
        cases e
      · rw [T.n t ht] at e
        cases e
  obtain ⟨mc, l1, l2⟩ := hlim
  have mod : Mod K mg (hidT s1.heap H) := ⟨kinT, nsT hns, ⟨mb, nsT hb, hbb⟩, ⟨mc, nsT l1, l2⟩⟩
  have e0 : Env0 P w K mg (hidT s1.heap H) callerA [] s1 H :=
    { frames := rfl, mod := mod, bs := fun b o e => of_hidT e, bsz := Nat.le_of_eq (hidT_size _ _), funs := trivial, frf := fun b z => (nomatch (show b ∈ ([] : List Addr) from z)), hok := hok, bare := .of_eq hg }
  have TB : ∀ t ∈ cs, LamX.TabB (hidT s1.heap H) mg t.2.1 t.2.2 := by
    intro t ht
    have et := T.e t ht
    refine ⟨?_, ?_, fun z => ?_⟩
    · obtain ⟨o, us, file, tf, flags, tg, inF, text, tt, e1, r1, r2, r3, r4⟩ := T.c t ht
      refine ⟨o, us, file, tf, flags, tg, inF, text, tt, hidT_get e1 (free e1 (by rw [r2]; intro z; cases z) ?_), r1, r2, r3, r4⟩
      rw [r2]
      intro z
      cases z
      simp at r3
    · obtain ⟨bm, ob, b1, b2, b3, b4, b5, b6⟩ := hbm
      refine ⟨bm, ob, b1, b2, fun z => ?_, fun z => ?_, hidT_get b3 (free b3 (by rw [b6]; intro z; cases z) (by rw [b6]; intro z; cases z)), b4, b5, b6⟩
      · obtain ⟨o, es, ep, e, d, _⟩ := hns
        rw [z, e] at b3
        cases b3
        rw [d] at b6
        cases b6
      · rw [z, et] at b3
        cases b3
        cases b6
    · obtain ⟨o, es, ep, e, d, _⟩ := hns
      rw [z, et] at e
      cases e
      cases d
  refine codeAny_mono ((F _ kinT (nsT hns) TB).go callerA [] s1 H ⟨[.ref a], []⟩ [.ref a] [.ref a] _ _ hr rfl e0 (bd s1 (.ref a)) (.cons rfl .nil) hsp) fun r s2 h => ?_
  cases r with
  | error e =>
    obtain ⟨_, _, _, _, _, _, _, _, _, _, _, _, z⟩ := (show L2.CX P w [] H s1 (fun _ _ _ => False) e s2 from h)
    exact z.elim
  | ok fl =>
    cases fl with
    | next => exact h.elim
    | brk => exact h.elim
    | cont => exact h.elim
    | ret u =>
      obtain ⟨v, H', os, bare, un, hok', rv, q⟩ := h
      have q' : v = .bl true := q
      subst q'
      cases (show u = Value.bool true from rv)
      have tabK : ∀ t ∈ cs, ∃ more : Array Value, s2.heap.get? t.2.2 = some { cls := .none, data := .fields more } := fun t ht => by
        obtain ⟨more, z⟩ := un.tbls _ _ (hP t ht)
        exact ⟨_, hok' _ _ z⟩
      have other : ∀ b o, (∀ t ∈ cs, t.2.2 ≠ b) → s1.heap.get? b = some o → s2.heap.get? b = some o := by
        intro b o nb e
        cases hb' : H b with
        | none => exact un.keep b o e hb' (fun z => nomatch (show b ∈ ([] : List Addr) from z)) (fun z => nomatch z)
        | some u =>
          rcases hA b (by rw [hb']; exact fun z => by cases z) with rfl | ⟨t, ht, z⟩
          · obtain ⟨u', rfl⟩ := hO u hb'
            obtain ⟨e2, _⟩ := hok' b _ (un.frzs b _ _ hb')
            rw [ha] at e
            cases e
            exact e2
          · exact absurd z (nb t ht)
      refine ⟨rfl, ⟨fun b o e => ?_, fun b o e => ?_⟩, os, bare⟩
      · by_cases hb : ∃ t ∈ cs, t.2.2 = b
        · obtain ⟨t, ht, rfl⟩ := hb
          obtain ⟨more, hm⟩ := tabK t ht
          rw [T.e t ht] at e
          cases e
          exact .inr (.inl ⟨((T.c t ht).tab (T.e t ht)).isCodeTable, rfl, #[], more, rfl, by rw [Array.empty_append]; exact hm⟩)
        · exact .inl (other b o (fun t ht z => hb ⟨t, ht, z⟩) e)
      · by_cases hb : ∃ t ∈ cs, t.2.2 = b
        · obtain ⟨t, ht, rfl⟩ := hb
          obtain ⟨more, hm⟩ := tabK t ht
          exact ⟨_, hm⟩
        · exact ⟨o, other b o (fun t ht z => hb ⟨t, ht, z⟩) e⟩
theorem stOk_tabs (T : TabsIn K mg s1.heap cs) {H : Hp} (hP : ∀ t ∈ cs, H t.2.2 = some (.tbl #[])) : StOk K (cs.map fun t => t.2.2) H (cs.map fun t => Cell.tab t.1) := by
  refine ⟨by simp, T.nd, fun n c hc => ?_⟩
  rw [List.getElem?_map] at hc
  cases ht : cs[n]? with
  | none => rw [ht] at hc; cases hc
  | some t =>
    rw [ht] at hc
    cases hc
    have hm := List.mem_of_getElem? ht
    exact ⟨t.2.2, by rw [List.getElem?_map, ht]; rfl, ⟨_, T.t t hm⟩, .nil (hP t hm)⟩
theorem law_mT {XT : XA} {f : MF} {S' : Store} (T : TabsIn K mg s1.heap cs) (hbm : ∃ (bm : Addr) (ob : Obj), mg "__builtins__" = some (.ref bm) ∧ bm ≠ builtinsNs ∧ s1.heap.get? bm = some ob ∧ ob.cls = .type "module" ∧ ob.dict = some builtinsNs ∧ ob.data = .plain)
    (kin : K.In s1.heap) (hns : s1.heap.Ns mainGlobals mg) (hb : s1.heap.Ns builtinsNs mb) (hbb : ∀ x : Str, x ≠ "__name__" → mb x = bootBuiltins x) (hlim : s1.heap.NoLimit) (hg : s1.gens = #[]) (hr : Room k callerA)
    (ha : s1.heap.get? a = some { cls := .type "list", data := .seq vs.toArray }) (hi : IntsAre vs ns) (hl : ns.length ≤ sizeLine)
    (F : ∀ base : Heap, K.In base → base.Ns mainGlobals mg → (∀ t ∈ cs, LamX.TabB base mg t.2.1 t.2.2) → FnM P w K mg base k fa fd [x] (spM XT K 1 f)) (bd : ∀ (s : Shared) (u : Value), BindsTo s fd ⟨[u], []⟩ [(x, u)])
    (ok : f [.rol (ns.map D.int)] (cs.map fun t => Cell.tab t.1) = .ok (.bl true) S') :
    codeAny (model P w) callerA (.call (.ref fa) ⟨[.ref a], []⟩) (fun r s' => r = .ok (.ret (.bool true)) ∧ OldK s1.heap s'.heap ∧ s'.os = s1.os ∧ AllBare s'.gens) s1 := by
  have lenV := hi.length
  have rv := L2.vals_ints hi
  have nA : ∀ t ∈ cs, t.2.2 ≠ a := fun t ht z => by
    have e := T.e t ht
    rw [z, ha] at e
    cases e
  have sp1 : ∀ H : Hp, (∀ t ∈ cs, H t.2.2 = some (.tbl #[])) → ((∃ o, H a = some (.frz o (.lst (ns.map V.int)))) ∨ SqL K (fun _ => none) a (ns.map V.int)) → spM XT K 1 f [.ref a] H (fun v _ => v = .bl true) fun _ _ _ => False := by
    intro H hP hq
    refine ⟨_, [.rol (ns.map D.int)], _, stOk_tabs T hP, .cons ?_ .nil, rfl, ?_⟩
    · unfold RepV
      exact ⟨a, ns.map V.int, rfl, hq, rep_ints ns⟩
    · rw [ok]
      exact fun φ' H' v _ _ _ r => r.bl
  cases hk : K.lookup a with
  | some o =>
    have e := kin a o hk
    rw [ha] at e
    cases e
    have sq : SqL K (fun _ => none) a (ns.map V.int) := .inr ⟨_, vs.toArray, _, hk, rfl, rfl, rfl, by rw [List.size_toArray, lenV]; exact hl, by simpa using rv⟩
    have at_ : ∀ t ∈ cs, (fun b => if ∃ t ∈ cs, t.2.2 = b then some (HO.tbl #[]) else none) t.2.2 = some (.tbl #[]) := fun t ht => if_pos ⟨t, ht, rfl⟩
    have noa : (fun b => if ∃ t ∈ cs, t.2.2 = b then some (HO.tbl #[]) else none) a = none := if_neg fun ⟨t, ht, z⟩ => nA t ht z
    refine law_fromT (fun b => if ∃ t ∈ cs, t.2.2 = b then some (.tbl #[]) else none) T hbm (fun b z => ?_) (fun o z => ?_) at_ (fun b u z => ?_) (fun z => absurd noa z) ha kin hns hb hbb hlim hg hr F bd (sp1 _ at_ (.inr sq))
    · by_cases e : ∃ t ∈ cs, t.2.2 = b
      · exact .inr e
      · exact absurd (if_neg e) z
    · cases noa.symm.trans z
    · by_cases e : ∃ t ∈ cs, t.2.2 = b
      · cases (if_pos e).symm.trans z
        obtain ⟨t, ht, rfl⟩ := e
        exact T.e t ht
      · cases (if_neg e).symm.trans z
  | none =>
    have ata : (fun b => if b = a then some (HO.frz { cls := .type "list", data := .seq vs.toArray } (.lst (ns.map V.int))) else if ∃ t ∈ cs, t.2.2 = b then some (HO.tbl #[]) else none) a = some (.frz { cls := .type "list", data := .seq vs.toArray } (.lst (ns.map V.int))) := if_pos rfl
    have at_ : ∀ t ∈ cs, (fun b => if b = a then some (HO.frz { cls := .type "list", data := .seq vs.toArray } (.lst (ns.map V.int))) else if ∃ t ∈ cs, t.2.2 = b then some (HO.tbl #[]) else none) t.2.2 = some (.tbl #[]) := fun t ht => (if_neg (nA t ht)).trans (if_pos ⟨t, ht, rfl⟩)
    refine law_fromT (fun b => if b = a then some (.frz { cls := .type "list", data := .seq vs.toArray } (.lst (ns.map V.int))) else if ∃ t ∈ cs, t.2.2 = b then some (.tbl #[]) else none) T hbm (fun b z => ?_) (fun o z => ?_) at_ (fun b u z => ?_) (fun _ => hk) ha kin hns hb hbb hlim hg hr F bd (sp1 _ at_ (.inl ⟨_, ata⟩))
    · by_cases e : b = a
      · exact .inl e
      · by_cases e2 : ∃ t ∈ cs, t.2.2 = b
        · exact .inr e2
        · exact absurd ((if_neg e).trans (if_neg e2)) z
    · exact ⟨_, Option.some.inj (z.symm.trans ata)⟩
    · by_cases e : b = a
      · subst e
        cases Option.some.inj (z.symm.trans ata)
        exact ⟨ha, by rw [List.length_map]; exact hl, vs, _, rv, ha⟩
      · have z2 := (if_neg e).symm.trans z
        by_cases e2 : ∃ t ∈ cs, t.2.2 = b
        · cases (if_pos e2).symm.trans z2
          obtain ⟨t, ht, rfl⟩ := e2
          exact T.e t ht
        · cases (if_neg e2).symm.trans z2
end
theorem walk_mT {l : PySem.W.OpenLaw} {n k : Nat} {q : Program} {loose : List Str} {XP : (Str → Option Value) → Heap → Prop} {YP : World → Heap → Prop} {d : DefRec} {K : Params → PySem.W.Frag} {XT : World → (Str → Option Value) → XA} {f : MF} {x : Str} {xs : List Str}
    (hn : l.most = some n) (hn2 : n ≤ sizeLine) (hdf : d.params.defaults = []) (hr : Room k callerA) (hY : ∀ (w : World) (h : Heap), YP w h → (K w.params).In h)
    (F : ∀ (w : World) (mg : Str → Option Value) (fa : Addr) (h : Heap), YP w h → (K w.params).In h → h.Ns mainGlobals mg → mg d.name = some (.ref fa) →
      ∃ (fd : FuncData) (cs : List (Str × Addr × Addr)), cs.map (·.1) = xs ∧ TabsIn (K w.params) mg h cs ∧ (∀ (s : Shared) (u : Value), BindsTo s fd ⟨[u], []⟩ [(x, u)]) ∧
        ∀ base : Heap, (K w.params).In base → base.Ns mainGlobals mg → (∀ t ∈ cs, LamX.TabB base mg t.2.1 t.2.2) → FnM l.prog w (K w.params) mg base k fa fd [x] (spM (XT w mg) (K w.params) 1 f))
    (ok : ∀ ns : List Int, ns.length ≤ n → ∃ S', f [.rol (ns.map D.int)] (xs.map Cell.tab) = .ok (.bl true) S') : PySem.W.WalkO q loose XP YP l.row.toRowW d [] (fun f vs => PySem.call f vs) := by
  refine Att.attach_call hn hdf fun w s0 s1 mg mb fa o pm cd doc a vs ns G Y ho hd hcd hmg hobj hints hlen hg => ?_
  obtain ⟨fd, cs, exs, T, bd, hF⟩ := F w mg fa _ Y (hY w _ Y) G.T.g hmg
  obtain ⟨S', e⟩ := ok ns hlen
  exact law_mT T G.T.bmain (hY w _ Y) G.T.g G.T.b G.T.builtins G.T.nolimit hg hr hobj hints (Nat.le_trans hlen hn2) hF bd (by rw [← e, ← exs, List.map_map]; rfl)
end Mi
namespace PySem.W
open PySem
theorem in_left {A B : Frag} {h : Heap} (x : Frag.In (A ++ B) h) : A.In h := fun b o e => x b o (by
  show List.lookup b (A ++ B) = some o
  rw [List.lookup_append]
  have e' : List.lookup b A = some o := e
  rw [e']
  rfl)
end PySem.W

namespace Mi
open PySem PySem.Spec PyProof.Rows L2

/-! ### xs.count(x) -/
def rCountD (K : PySem.W.Frag) : V → List V → Hp → VK → Prop := fun x xs H Q => ∃ (a : Addr) (y : V) (d : PyData) (ds : List PyData), x = V.ref a ∧ xs = [y] ∧ Dp K H (V.ref a) (.list ds) ∧ Dp K H y d ∧ SeqAt.shaped (.list ds) = true ∧ SeqAt.shaped d = true ∧
  Q (.int ((ds.countP fun z => PyData.eqv z d : Nat) : Int)) H
theorem mt_countD {X : Cx} (hu : X.A.units + 65 < cLine) : MtR X "list.count" (rCountD X.K) := by
  intro pins s σ H x xs v us Q I rx rxs h
  obtain ⟨a, y, d, ds, rfl, rfl, hl, hy, sl, sd, q⟩ := h
  cases rx
  cases rxs with
  | cons ry rt =>
    rename_i u ut
    cases rt
    obtain ⟨bs, r1⟩ := Dp.reads I d y u hy ry
    have lay : PyData.canLayAll0 ds = true := SeqAt.canLay_of_shaped sl
    cases hl with
    | lst hs ha =>
      obtain ⟨its, rv, ⟨⟨cls, dd, data, slots⟩, n, ho, hc, hdn, hdt⟩, _⟩ := I.list hs
      simp only at hc hdt
      subst hc hdt
      obtain ⟨as, ra⟩ := Dp.readsAll I ds _ its ha rv
      have em : its.map (SeqAt.readOf s.heap) = ds := SeqAt.readsAll_map ds its as lay ra
      have ec : its.toArray.toList.countP (fun u => PyData.eqv (SeqAt.readOf s.heap u) d) = ds.countP fun z => PyData.eqv z d := by
        rw [← em, List.countP_map]
        rfl
      refine call_meets PySem.F.slot_list_count ⟨_, ho, rfl⟩ PySem.F.entry_list_count (PySem.F.args_list_count_2 _ _) (SeqAt.list_countAt a its.toArray n dd slots u fun u => PyData.eqv (SeqAt.readOf s.heap u) d)
        ⟨ho, SeqAt.items_eqAt (vs := its.toArray) (show ReadsAll s.heap its.toArray.toList ds as from ra) r1 lay (SeqAt.canLay_of_shaped sd) (room_in_shaped sd hu), ?_⟩
      rw [ec]
      exact ⟨.int _, H, I.tok _, ⟨_, rfl⟩, q⟩
def cntO (S : Store) (x y : D) : Option Nat := match toP S 62 x, toP S 62 y with
  | some (.list ds), some d => if SeqAt.shaped (.list ds) && SeqAt.shaped d then some (ds.countP fun z => PyData.eqv z d) else none
  | _, _ => none
def cntV (o a : ME) : ME := fun e S => (o e S).bind fun x S1 => match x with
  | .ref n => match S1[n]? with
    | some (.lst _) => (a e S1).bind fun y S2 => match cntO S2 (.ref n) y with
      | some j => .ok (.int (j : Nat)) S2
      | none => .bad
    | _ => .bad
  | _ => .bad
section
variable {X : Cx} {W : Wish} {mo ma : ME}
theorem q_count {e : Expr} (h : PE X e (tBM X.K "list" (rCountD X.K) (rd X.K W mo) (tCons (rd X.K W ma) tNil))) : PE X e (rd X.K W (cntV mo ma)) :=
  pe_imp h fun σ H Q h => by
    obtain ⟨φ, e, S, g, p⟩ := h
    refine bindG g p fun dx S1 φ1 H1 x e1 k1 g1 rx p1 => ?_
    split at p1
    · rename_i n
      split at p1
      · rename_i ds0 hn
        have rx0 := rx
        obtain ⟨l, hl, rfl⟩ := rx.ref
        obtain ⟨xs0, h0, _⟩ := g1.st.lst hl hn
        refine ⟨.inl ⟨rfl, xs0, .of h0⟩, ?_⟩
        refine bindG g1 p1 fun dy S2 φ2 H2 y e2 k2 g2 ry p2 => ?_
        split at p2
        · rename_i j hj
          unfold cntO at hj
          split at hj
          · rename_i ds d hx hy
            split at hj
            · rename_i hs
              rw [Bool.and_eq_true] at hs
              cases hj
              exact ⟨l, y, d, ds, rfl, rfl, toP_ok g2.st _ _ _ _ (rx0.mono e2 k2) hx, toP_ok g2.st _ _ _ _ ry hy, hs.1, hs.2, p2.give g2.st .mkInt⟩
            · cases hj
          · cases hj
        · exact p2.elim
      · exact p1.elim
    · exact p1.elim
end
@[simp] theorem cntV_ap (o a : ME) (e : Vs) (S : Store) : cntV o a e S = (o e S).bind fun x S1 => match x with
  | .ref n => match S1[n]? with
    | some (.lst _) => (a e S1).bind fun y S2 => match cntO S2 (.ref n) y with
      | some j => .ok (.int (j : Nat)) S2
      | none => .bad
    | _ => .bad
  | _ => .bad := rfl

/-! ### an except suite with statements: the exception is known, its name's slot is not written -/
abbrev MEx := Exn → ME
abbrev MBx := Exn → MB
abbrev MSx := Exn → MS
abbrev MLx := Exn → ML
/-- the exception, the slot of its name -/
structure Held (XT : XA) (a : Addr) (i : Nat) (cls : Value) (d : Option Addr) (x : Exn) (φ : List Addr) (σ : L2.St) (H : Hp) : Prop where
  at_ : σ[i]? = some (some (.ref a))
  xt : XT φ H x cls d
def rdgX {α β : Type} (Rel : List Addr → Hp → α → β → Prop) (K : PySem.W.Frag) (XT : XA) (a : Addr) (i : Nat) (cls : Value) (d : Option Addr) (m : Exn → Vs → Store → R α) : L2.St → Hp → (β → Hp → Prop) → Prop :=
  fun σ H Q => ∃ x φ e S, Held XT a i cls d x φ σ H ∧ Good K φ σ H e S ∧ post Rel K noExc φ σ H e Q (m x e S)
def postSX (K : PySem.W.Frag) (a : Addr) (i : Nat) (φ : List Addr) (H : Hp) (E : Ends) : RS → Prop
  | .nx e S => ∀ φ' σ' H', φ <+: φ' → Keep H H' → Good K φ' σ' H' e S → σ'[i]? = some (some (.ref a)) → E.nx σ' H'
  | .rt d S => ∀ φ' H' v, φ <+: φ' → Keep H H' → StOk K φ' H' S → RepV K φ' H' d v → E.rt v H'
  | _ => False
def rdsX (K : PySem.W.Frag) (XT : XA) (a : Addr) (i : Nat) (cls : Value) (d : Option Addr) (m : MSx) : TS := fun E σ H => ∃ x φ e S, Held XT a i cls d x φ σ H ∧ Good K φ σ H e S ∧ postSX K a i φ H E (m x e S)
/-- what is known of an exception stays -/
structure Stays (XT : XA) : Prop where
  go : ∀ {φ φ' : List Addr} {H H' : Hp} {x : Exn} {cls : Value} {d : Option Addr}, φ <+: φ' → Keep H H' → XT φ H x cls d → XT φ' H' x cls d
theorem xtm_stays {mg : Str → Option Value} {xs : List Str} : Stays (XTm mg xs) := ⟨fun _ _ h => h⟩
section
variable {Y : Cx} {XT : XA} {a : Addr} {i j : Nat} {cls : Value} {d : Option Addr} {pos : Pos} {e : Expr} {st : Stmt} {rest : List Stmt}
theorem Held.mono (sy : Stays XT) {x : Exn} {φ φ' : List Addr} {σ : L2.St} {H H' : Hp} (h : Held XT a i cls d x φ σ H) (q : φ <+: φ') (k : Keep H H') : Held XT a i cls d x φ' σ H' := ⟨h.1, sy.go q k h.2⟩
theorem bindX {α β γ δ : Type} {RA : List Addr → Hp → α → β → Prop} {RC : List Addr → Hp → γ → δ → Prop} {K : PySem.W.Frag} {m : Exn → Vs → Store → R α} {k : α → Store → R γ} {Q : δ → Hp → Prop} {Q' : β → Hp → Prop} {x : Exn} {φ : List Addr} {σ : L2.St} {H : Hp} {e : Vs} {S : Store} (sy : Stays XT)
    (hh : Held XT a i cls d x φ σ H) (g : Good K φ σ H e S) (h : post RC K noExc φ σ H e Q ((m x e S).bind k))
    (nx : ∀ y S1 φ1 H1 v, Held XT a i cls d x φ1 σ H1 → φ <+: φ1 → Keep H H1 → Good K φ1 σ H1 e S1 → RA φ1 H1 y v → post RC K noExc φ1 σ H1 e Q (k y S1) → Q' v H1) : rdgX RA K XT a i cls d m σ H Q' := by
  refine ⟨x, φ, e, S, hh, g, ?_⟩
  cases hm : m x e S with
  | ok y S1 =>
    rw [hm] at h
    exact fun φ' H' v p k' st r => nx y S1 φ' H' v (hh.mono sy p k') p k' (g.mono p k' st) r (post.mono p k' h)
  | exc y S1 =>
    rw [hm] at h
    exact h
  | bad =>
    rw [hm] at h
    exact h
/-- what does not speak of the exception -/
theorem y_val {m : ME} (h : PE Y e (rd Y.K noExc m)) : PE Y e (rdgX (RepV Y.K) Y.K XT a i cls d fun _ => m) := pe_imp h fun σ H Q ⟨x, φ, e, S, _, g, p⟩ => ⟨φ, e, S, g, p⟩
theorem y_test {m : MB} (h : PT Y e (rdB Y.K noExc m)) : PT Y e (rdgX RelB Y.K XT a i cls d fun _ => m) := pt_imp h fun σ H Q ⟨x, φ, e, S, _, g, p⟩ => ⟨φ, e, S, g, p⟩
def conB (m : Exn → Bool) : MBx := fun x _ S => .ok (m x) S
def conV (m : Exn → Bool) : MEx := fun x _ S => .ok (.bl (m x)) S
/-- isinstance(e, C) -/
theorem y_isT {m : Exn → Bool} (h : PT Y e (rdXB XT a i cls d m)) : PT Y e (rdgX RelB Y.K XT a i cls d (conB m)) := pt_imp h fun σ H Q ⟨x, φ, e, S, hh, g, p⟩ => ⟨hh.1, φ, x, hh.2, p.give g.st rfl⟩
theorem y_isV {m : Exn → Bool} (h : PE Y e (fun σ H Q => σ[i]? = some (some (.ref a)) ∧ ∃ φ x, XT φ H x cls d ∧ Q (.bl (m x)) H)) : PE Y e (rdgX (RepV Y.K) Y.K XT a i cls d (conV m)) :=
  pe_imp h fun σ H Q ⟨x, φ, e, S, hh, g, p⟩ => ⟨hh.1, φ, x, hh.2, p.give g.st .mkBl⟩
theorem y_nil : PA Y [] (rdgX (RepL Y.K) Y.K XT a i cls d fun _ => argN) := pa_imp (a_nil (W := noExc)) fun σ H Q ⟨x, φ, e, S, _, g, p⟩ => ⟨φ, e, S, g, p⟩
theorem y_cons (sy : Stays XT) {m : MEx} {ms : MLx} {es : List Expr} (ha : PE Y e (rdgX (RepV Y.K) Y.K XT a i cls d m)) (hr : PA Y es (rdgX (RepL Y.K) Y.K XT a i cls d ms)) (hs : starEach (e :: es) Y.env = (false, eval e Y.env) :: starEach es Y.env := by rfl) :
    PA Y (e :: es) (rdgX (RepL Y.K) Y.K XT a i cls d fun x => argC (m x) (ms x)) := pa_imp (pa_cons ha hr hs) fun σ H Q ⟨x, φ, e, S, hh, g, p⟩ => by
  refine bindX sy hh g p fun y S1 φ1 H1 v h1 q1 k1 g1 r1 p1 => bindX sy h1 g1 p1 fun ys S2 φ2 H2 vs h2 q2 k2 g2 r2 p2 => ?_
  exact p2.give g2.st (.cons (r1.mono q2 k2) r2)
theorem y_lst (sy : Stays XT) {ms : MLx} {es : List Expr} (h : PA Y es (rdgX (RepL Y.K) Y.K XT a i cls d ms)) : PE Y (.List es pos) (rdgX (RepV Y.K) Y.K XT a i cls d fun x => mkL (ms x)) := pe_imp (pe_lst h) fun σ H Q ⟨x, φ, e, S, hh, g, p⟩ => by
  refine bindX sy hh g p fun ds S1 φ1 H1 xs h1 q1 k1 g1 rs p1 => ?_
  split at p1
  · rename_i hl
    exact ⟨by rw [rs.len]; exact lim_ok hl, fun q hq => p1.push g1.st hq (cell_lst hq rs)⟩
  · exact p1.elim
theorem y_ite (sy : Stays XT) {c b f : Expr} {mc : MBx} {m1 m2 : MEx} (hc : PT Y c (rdgX RelB Y.K XT a i cls d mc)) (h1 : PE Y b (rdgX (RepV Y.K) Y.K XT a i cls d m1)) (h2 : PE Y f (rdgX (RepV Y.K) Y.K XT a i cls d m2)) :
    PE Y (.IfExp c b f pos) (rdgX (RepV Y.K) Y.K XT a i cls d fun x => iteV (mc x) (m1 x) (m2 x)) := pe_imp (pe_ifExp hc h1 h2) fun σ H Q ⟨x, φ, e, S, hh, g, p⟩ => by
  refine bindX sy hh g p fun y S1 φ1 H1 v h1 q1 k1 g1 r1 p1 => ?_
  subst r1
  cases v with
  | true => exact iteT ⟨x, φ1, e, S1, h1, g1, p1⟩
  | false => exact iteF ⟨x, φ1, e, S1, h1, g1, p1⟩
theorem y_or1 {c : Expr} {m : MBx} (h : PT Y c (rdgX RelB Y.K XT a i cls d m)) : PW Y (.BoolOp .Or [c] pos) (rdgX RelB Y.K XT a i cls d m) := pw_or1 h
theorem y_or (sy : Stays XT) {c b : Expr} {r : List Expr} {m1 m2 : MBx} (h1 : PT Y c (rdgX RelB Y.K XT a i cls d m1)) (h2 : PW Y (.BoolOp .Or (b :: r) pos) (rdgX RelB Y.K XT a i cls d m2)) : PW Y (.BoolOp .Or (c :: b :: r) pos) (rdgX RelB Y.K XT a i cls d fun x => orB (m1 x) (m2 x)) :=
  pw_imp (pw_or h1 h2) fun σ H Q ⟨x, φ, e, S, hh, g, p⟩ => by
    refine bindX sy hh g p fun y S1 φ1 H1 v h1 q1 k1 g1 r1 p1 => ?_
    subst r1
    cases v with
    | true => exact iteT (p1.give g1.st rfl)
    | false => exact iteF ⟨x, φ1, e, S1, h1, g1, p1⟩
theorem y_not (sy : Stays XT) {c : Expr} {m : MBx} (h : PT Y c (rdgX RelB Y.K XT a i cls d m)) : PT Y (.UnaryOp .Not c pos) (rdgX RelB Y.K XT a i cls d fun x => notB (m x)) :=
  pt_imp (pt_not h) fun σ H Q ⟨x, φ, e, S, hh, g, p⟩ => by
    refine bindX sy hh g p fun y S1 φ1 H1 v h1 q1 k1 g1 r1 p1 => ?_
    subst r1
    exact p1.give g1.st rfl
/-! statements -/
theorem postSX.mono {K : PySem.W.Frag} {φ φ1 : List Addr} {H H1 : Hp} {E : Ends} (p : φ <+: φ1) (k : Keep H H1) : ∀ {r : RS}, postSX K a i φ H E r → postSX K a i φ1 H1 E r
  | .nx _ _, h => fun φ' σ' H' p' k' => h φ' σ' H' (p.trans p') (k.trans k')
  | .rt _ _, h => fun φ' H' v p' k' => h φ' H' v (p.trans p') (k.trans k')
  | .bk _ _, h => h
  | .ct _ _, h => h
  | .exc _ _ _, h => h
  | .bad, h => h
theorem bindXS {α β : Type} {RA : List Addr → Hp → α → β → Prop} {K : PySem.W.Frag} {m : Exn → Vs → Store → R α} {k : α → Store → RS} {E : Ends} {Q' : β → Hp → Prop} {x : Exn} {φ : List Addr} {σ : L2.St} {H : Hp} {e : Vs} {S : Store} (sy : Stays XT)
    (hh : Held XT a i cls d x φ σ H) (g : Good K φ σ H e S) (h : postSX K a i φ H E (exS (m x e S) e k))
    (nx : ∀ y S1 φ1 H1 v, Held XT a i cls d x φ1 σ H1 → φ <+: φ1 → Keep H H1 → Good K φ1 σ H1 e S1 → RA φ1 H1 y v → postSX K a i φ1 H1 E (k y S1) → Q' v H1) : rdgX RA K XT a i cls d m σ H Q' := by
  refine ⟨x, φ, e, S, hh, g, ?_⟩
  cases hm : m x e S with
  | ok y S1 =>
    rw [hm] at h
    exact fun φ' H' v p k' st r => nx y S1 φ' H' v (hh.mono sy p k') p k' (g.mono p k' st) r (postSX.mono p k' h)
  | exc y S1 =>
    rw [hm] at h
    exact h.elim
  | bad =>
    rw [hm] at h
    exact h.elim
theorem y_ret (sy : Stays XT) {m : MEx} (h : PE Y e (rdgX (RepV Y.K) Y.K XT a i cls d m)) : PS Y (.Return (some e) pos) (rdsX Y.K XT a i cls d fun x => retS (m x)) := ps_imp (ps_ret h) fun E σ H ⟨x, φ, e, S, hh, g, p⟩ =>
  bindXS sy hh g p fun y S1 φ1 H1 v h1 q1 k1 g1 r1 p1 => p1 φ1 H1 v (List.prefix_refl φ1) (Keep.refl H1) g1.st r1
theorem y_set (sy : Stays XT) (hij : j ≠ i) {n : Str} {p : Pos} {m : MEx} (h : PS Y (.Assign [.Name n p] e pos) (tAsg (rdgX (RepV Y.K) Y.K XT a i cls d m) (gName j))) :
    PS Y (.Assign [.Name n p] e pos) (rdsX Y.K XT a i cls d fun x => setS j (m x)) := ps_imp h fun E σ H ⟨x, φ, e, S, hh, g, p⟩ =>
  bindXS sy hh g p fun y S1 φ1 H1 v h1 q1 k1 g1 r1 p1 => p1 φ1 _ H1 (List.prefix_refl φ1) (Keep.refl H1) ⟨g1.env.set r1 j, g1.st⟩ (by rw [List.getElem?_set_ne hij]; exact h1.1)
theorem y_if (sy : Stays XT) {c : Expr} {ta tb : List Stmt} {mc : MBx} {m1 m2 : MSx} (hc : PT Y c (rdgX RelB Y.K XT a i cls d mc)) (h1 : PSs Y ta (rdsX Y.K XT a i cls d m1)) (h2 : PSs Y tb (rdsX Y.K XT a i cls d m2)) :
    PS Y (.If c ta tb pos) (rdsX Y.K XT a i cls d fun x => ifS (mc x) (m1 x) (m2 x)) := ps_imp (ps_if hc h1 h2) fun E σ H ⟨x, φ, e, S, hh, g, p⟩ => by
  refine bindXS sy hh g p fun y S1 φ1 H1 v h1 q1 k1 g1 r1 p1 => ?_
  subst r1
  cases v with
  | true => exact iteT ⟨x, φ1, e, S1, h1, g1, p1⟩
  | false => exact iteF ⟨x, φ1, e, S1, h1, g1, p1⟩
theorem y_end : PSs Y [] (rdsX Y.K XT a i cls d fun _ => nxS) := pss_imp pss_nil fun E σ H ⟨x, φ, e, S, hh, g, p⟩ => p φ σ H (List.prefix_refl φ) (Keep.refl H) g hh.1
theorem y_one {m : MSx} (h : PS Y st (rdsX Y.K XT a i cls d m)) : PSs Y [st] (rdsX Y.K XT a i cls d m) := pss_one h
theorem y_seq (sy : Stays XT) {m1 m2 : MSx} (h1 : PS Y st (rdsX Y.K XT a i cls d m1)) (h2 : PSs Y rest (rdsX Y.K XT a i cls d m2)) : PSs Y (st :: rest) (rdsX Y.K XT a i cls d fun x => seqS (m1 x) (m2 x)) := pss_imp (pss_cons h1 h2) fun E σ H ⟨x, φ, e, S, hh, g, p⟩ => by
  refine ⟨x, φ, e, S, hh, g, ?_⟩
  have p : postSX Y.K a i φ H E (match m1 x e S with
    | .nx e1 S1 => m2 x e1 S1
    | r => r) := p
  cases hm : m1 x e S with
  | nx e1 S1 =>
    rw [hm] at p
    exact fun φ' σ' H' q k g' hi => ⟨x, φ', e1, S1, ⟨hi, sy.go q k hh.2⟩, g', postSX.mono q k p⟩
  | rt _ _ => rw [hm] at p; exact p
  | bk _ _ => rw [hm] at p; exact p.elim
  | ct _ _ => rw [hm] at p; exact p.elim
  | exc _ _ _ => rw [hm] at p; exact p.elim
  | bad => rw [hm] at p; exact p.elim
end
/-- a suite as what it gives back -/
def suiX (n : Nat) (m : MSx) : MX := fun x S => match m x (List.replicate n none) S with
  | .rt d S' => .ok d S'
  | _ => .bad
theorem wok_suite {K : PySem.W.Frag} {XT : XA} {n i : Nat} {l : List Clause} {hs : List ((Exn → Bool) × MX)} {c : Value} {t : Exn → Bool} {m : MSx} (hi : i < n) (hm : ∀ φ H x cls d, XT φ H x cls d → PySem.W.exmOne K cls c = some (t x)) (r : Wok K XT n l hs) :
    Wok K XT n (⟨c, some i, fun a cls d E σ H => rdsX K XT a i cls d m E σ H⟩ :: l) ((t, suiX n m) :: hs) := by
  intro φ σ H S x cls d E hn st xt q
  have e := hm _ _ _ _ _ xt
  unfold pickH at q
  dsimp only at q
  split at q
  · rename_i h
    refine ⟨true, by rw [e, h], fun _ a na => ?_, fun z => nomatch z⟩
    have at_ : (σ.set i (some (V.ref a)))[i]? = some (some (.ref a)) := by rw [List.getElem?_set_self (by omega)]
    have env : EnvOk K φ H (σ.set i (some (V.ref a))) (List.replicate n none) := ⟨by rw [List.length_set, List.length_replicate]; omega, fun j d hj => by
      rw [List.getElem?_replicate] at hj
      split at hj <;> cases hj⟩
    refine ⟨x, φ, List.replicate n none, S, ⟨at_, xt⟩, ⟨env, st⟩, ?_⟩
    unfold suiX at q
    cases hr : m x (List.replicate n none) S with
    | rt d2 S2 =>
      rw [hr] at q
      exact q
    | nx _ _ => rw [hr] at q; exact q.elim
    | bk _ _ => rw [hr] at q; exact q.elim
    | ct _ _ => rw [hr] at q; exact q.elim
    | exc _ _ _ => rw [hr] at q; exact q.elim
    | bad => rw [hr] at q; exact q.elim
  · rename_i h
    have h : t x = false := by simpa using h
    exact ⟨false, by rw [e, h], (fun z => nomatch z), fun _ => r φ σ H S x cls d E hn st xt q⟩
end Mi

namespace Mi
open PySem PySem.Spec PyProof.Rows L2

/-! ### cells that are known while a call runs -/
abbrev Gc := Addr → Option Obj
def frzC (g : Gc) (H : Hp) : Hp := fun b => match g b with
  | some o => some (stay o)
  | none => H b
def hidC (g : Gc) (H : Hp) : Hp := fun b => match g b with
  | some _ => none
  | none => H b
section
variable {P : Program} {w : World} {g : Gc} {H H1 : Hp} {h h1 : Heap} {b : Addr} {o : Obj} {fs : List Addr}
theorem frzC_some (e : g b = some o) : frzC g H b = some (stay o) := by unfold frzC; rw [e]
theorem frzC_none (e : g b = none) : frzC g H b = H b := by unfold frzC; rw [e]
theorem hidC_some (e : g b = some o) : hidC g H b = none := by unfold hidC; rw [e]
theorem hidC_none (e : g b = none) : hidC g H b = H b := by unfold hidC; rw [e]
theorem frz_hid : frzC g (hidC g H) = frzC g H := by
  funext b
  cases e : g b with
  | none => rw [frzC_none e, frzC_none e, hidC_none e]
  | some o => rw [frzC_some e, frzC_some e]
theorem frz_same (hs : ∀ b o, g b = some o → H b = some (stay o)) : frzC g H = H := by
  funext b
  cases e : g b with
  | none => rw [frzC_none e]
  | some o => rw [frzC_some e, hs b o e]
theorem hok_frz (ok : HOk P w H h) (hg : ∀ b o, g b = some o → h.get? b = some o) (hn : ∀ b o, g b = some o → H b = none ∨ H b = some (stay o)) : HOk P w (frzC g H) h := fun b u e => by
  have nb : ∀ c u, H c = some u → (∀ o v, u ≠ .frz o v) → frzC g H c = some u := fun c u q n => by
    cases hc : g c with
    | none => rw [frzC_none hc]; exact q
    | some oc =>
      rcases hn c oc hc with z | z
      · rw [z] at q; cases q
      · rw [z] at q
        cases q
        exact absurd rfl (n _ _)
  cases hb : g b with
  | some ob =>
    rw [frzC_some hb] at e
    cases e
    exact ⟨hg b ob hb, ob, hg b ob hb⟩
  | none =>
    rw [frzC_none hb] at e
    exact (ok b u e).stay (fun c v _ q => q) (fun c q => nb c _ q fun o v z => by cases z) fun c xs q => nb c _ q fun o v z => by cases z
theorem hok_hid (ok : HOk P w H h) (hn : ∀ b o, g b = some o → H b = some (stay o)) : HOk P w (hidC g H) h := fun b u e => by
  have nb : ∀ c u, H c = some u → (∀ o v, u ≠ .frz o v) → hidC g H c = some u := fun c u q n => by
    cases hc : g c with
    | none => rw [hidC_none hc]; exact q
    | some oc =>
      rw [hn c oc hc] at q
      cases q
      exact absurd rfl (n _ _)
  cases hb : g b with
  | some ob => rw [hidC_some hb] at e; cases e
  | none =>
    rw [hidC_none hb] at e
    exact (ok b u e).stay (fun c v _ q => q) (fun c q => nb c _ q fun o v z => by cases z) fun c xs q => nb c _ q fun o v z => by cases z
/-- a run over hidden cells, seen with the cells -/
theorem un_show (u : Un fs [] (hidC g H) H1 h h1) (hs : ∀ b o, g b = some o → H b = some (stay o)) : Un fs [] H (frzC g H1) h h1 := by
  have nn : ∀ {b}, H b = none → g b = none := fun {b} n => by
    cases hb : g b with
    | none => rfl
    | some o => rw [hs b o hb] at n; cases n
  have at_ : ∀ {b : Addr} {u : HO}, H b = some u → (∀ o, g b = some o → u ≠ stay o) → g b = none := fun {b u} e n => by
    cases hb : g b with
    | none => rfl
    | some o =>
      rw [hs b o hb] at e
      cases e
      exact absurd rfl (n o hb)
  refine ⟨fun b o e n => u.keep b o e (by rw [hidC_none (nn n)]; exact n), fun b o e n => u.slot b o e (by rw [hidC_none (nn n)]; exact n), fun b o e n x => ?_, u.there, fun b xs e => ?_, fun b o v e => ?_, fun b ps e => ?_⟩
  · rw [frzC_none (nn n)]
    exact u.free b o e (by rw [hidC_none (nn n)]; exact n) x
  · have z := at_ e (fun o _ z => by cases z)
    rw [frzC_none z]
    exact u.tups b xs (by rw [hidC_none z]; exact e)
  · cases hb : g b with
    | some ob =>
      rw [hs b ob hb] at e
      cases e
      exact frzC_some hb
    | none =>
      rw [frzC_none hb]
      exact u.frzs b o v (by rw [hidC_none hb]; exact e)
  · have z := at_ e (fun o _ z => by cases z)
    rw [frzC_none z]
    exact u.tbls b ps (by rw [hidC_none z]; exact e)
/-- a run over known cells, seen without them -/
theorem un_hide (u : Un fs [] (frzC g H) H1 h h1) (ok : HOk P w H1 h1) (hn : ∀ b o, g b = some o → H b = none ∧ h.get? b = some o ∧ b ∉ fs) : Un fs [] H (hidC g H1) h h1 := by
  have at_ : ∀ {b : Addr} {u : HO}, H b = some u → g b = none := fun {b u} e => by
    cases hb : g b with
    | none => rfl
    | some o =>
      rw [(hn b o hb).1] at e
      cases e
  refine ⟨fun b o e n hf hx => ?_, fun b o e n hf hx => ?_, fun b o e n x => ?_, u.there, fun b xs e => ?_, fun b o v e => ?_, fun b ps e => ?_⟩
  · cases hb : g b with
    | none => exact u.keep b o e (by rw [frzC_none hb]; exact n) hf hx
    | some ob =>
      obtain ⟨z, _⟩ := ok b _ (u.frzs b ob _ (frzC_some hb))
      have e2 := (hn b ob hb).2.1
      rw [e] at e2
      cases e2
      exact z
  · cases hb : g b with
    | none => exact u.slot b o e (by rw [frzC_none hb]; exact n) hf hx
    | some ob => exact absurd hf (hn b ob hb).2.2
  · cases hb : g b with
    | none => rw [hidC_none hb]; exact u.free b o e (by rw [frzC_none hb]; exact n) x
    | some ob => exact hidC_some hb
  · rw [hidC_none (at_ e)]
    exact u.tups b xs (by rw [frzC_none (at_ e)]; exact e)
  · rw [hidC_none (at_ e)]
    exact u.frzs b o v (by rw [frzC_none (at_ e)]; exact e)
  · rw [hidC_none (at_ e)]
    exact u.tbls b ps (by rw [frzC_none (at_ e)]; exact e)
theorem keep_frz (hn : ∀ b o, g b = some o → H b = none ∨ H b = some (stay o)) : Keep H (frzC g H) := by
  have nb : ∀ c u, H c = some u → frzC g H c = some u := fun c u q => by
    cases hc : g c with
    | none => rw [frzC_none hc]; exact q
    | some oc =>
      rcases hn c oc hc with z | z
      · rw [z] at q; cases q
      · rw [frzC_some hc, ← q, z]
  exact ⟨fun a xs e => nb _ _ e, fun a o u e => nb _ _ e, fun a q e => nb _ _ e, fun a fs e => nb _ _ e⟩
/-- from the hidden heap to what it became, with the cells -/
theorem keep_show (k : Keep (hidC g H) H1) (hs : ∀ b o, g b = some o → H b = some (stay o)) : Keep H (frzC g H1) := by
  have nb : ∀ c u, H c = some u → (∀ o, u ≠ stay o) → g c = none := fun c u q n => by
    cases hc : g c with
    | none => rfl
    | some oc =>
      rw [hs c oc hc] at q
      cases q
      exact absurd rfl (n _)
  refine ⟨fun a xs e => ?_, fun a o u e => ?_, fun a q e => ?_, fun a fs e => ?_⟩
  · have z := nb _ _ e fun o z => by cases z
    rw [frzC_none z]
    exact k.t _ _ (by rw [hidC_none z]; exact e)
  · cases hc : g a with
    | some oc =>
      rw [hs a oc hc] at e
      cases e
      exact frzC_some hc
    | none =>
      rw [frzC_none hc]
      exact k.f _ _ _ (by rw [hidC_none hc]; exact e)
  · have z := nb _ _ e fun o z => by unfold LamX.CodeO at z; cases z
    rw [frzC_none z]
    exact k.x _ _ (by rw [hidC_none z]; exact e)
  · have z := nb _ _ e fun o z => by cases z
    rw [frzC_none z]
    exact k.d _ _ (by rw [hidC_none z]; exact e)
end
/-! ### what stands without the known cells -/
structure KeepO (H H' : Hp) : Prop where
  t : ∀ a xs, H a = some (.tup xs) → H' a = some (.tup xs)
  f : ∀ a o u, (∀ x, u ≠ .own x) → H a = some (.frz o u) → H' a = some (.frz o u)
  x : ∀ a q, H a = some (LamX.CodeO a q) → H' a = some (LamX.CodeO a q)
theorem KeepO.seqT {K : PySem.W.Frag} {H H' : Hp} (k : KeepO H H') {a : Addr} {xs : List V} (h : SqT K H a xs) : SqT K H' a xs := by
  rcases h with (h | ⟨o, h⟩) | h
  · exact .inl (.inl (k.1 _ _ h))
  · exact .inl (.inr ⟨o, k.2 _ _ _ (fun _ z => by cases z) h⟩)
  · exact .inr h
theorem keepO_hid {g : Gc} {H : Hp} (hn : ∀ b o, g b = some o → H b = some (stay o)) : KeepO H (hidC g H) := by
  have nb : ∀ c u, H c = some u → (∀ o, u ≠ stay o) → hidC g H c = some u := fun c u q n => by
    cases hc : g c with
    | none => rw [hidC_none hc]; exact q
    | some oc =>
      rw [hn c oc hc] at q
      cases q
      exact absurd rfl (n _)
  refine ⟨fun a xs e => nb _ _ e fun o z => ?_, fun a o u n e => nb _ _ e fun o z => ?_, fun a q e => nb _ _ e fun o z => ?_⟩
  · cases z
  · cases z
    exact n 0 rfl
  · unfold LamX.CodeO at z
    cases z
section
variable {K : PySem.W.Frag} {φ : List Addr} {H H' : Hp}
mutual
theorem RepV.monoO (k : KeepO H H') : ∀ (d : D) (v : V), RepV K φ H d v → RepV K φ H' d v
  | .non, _, h => by unfold RepV at h ⊢; exact h
  | .bl _, _, h => by unfold RepV at h ⊢; exact h
  | .int _, _, h => by unfold RepV at h ⊢; exact h
  | .str _, _, h => by unfold RepV at h ⊢; exact h
  | .ty _, _, h => by unfold RepV at h ⊢; exact h
  | .tup ds, _, h => by
    unfold RepV at h ⊢
    obtain ⟨a, xs, e1, s, r⟩ := h
    exact ⟨a, xs, e1, k.seqT s, RepL.monoO k ds xs r⟩
  | .rol ds, _, h => by
    unfold RepV at h ⊢
    obtain ⟨a, xs, e1, s, r⟩ := h
    refine ⟨a, xs, e1, ?_, RepL.monoO k ds xs r⟩
    rcases s with ⟨o, s⟩ | s
    · exact .inl ⟨o, k.2 _ _ _ (fun _ z => by cases z) s⟩
    · exact .inr s
  | .ref _, _, h => by unfold RepV at h ⊢; exact h
theorem RepL.monoO (k : KeepO H H') : ∀ (ds : List D) (xs : List V), RepL K φ H ds xs → RepL K φ H' ds xs
  | [], _, h => by unfold RepL at h ⊢; exact h
  | d :: ds, _, h => by
    unfold RepL at h ⊢
    obtain ⟨v, vs, e1, r, t⟩ := h
    exact ⟨v, vs, e1, RepV.monoO k d v r, RepL.monoO k ds vs t⟩
end
/-- the closures are taken for dead -/
def killF (S : Store) : Store := S.map fun c => match c with
  | .fn _ _ => .dead
  | c => c
/-- .. and live again -/
def revive (S0 S : Store) : Store := S.mapIdx fun i c => match (S0[i]? : Option Cell) with
  | some (.fn l caps) => .fn l caps
  | _ => c
/-- a cell of the store, the known cells hidden -/
theorem cell_hid {g : Gc} {a : Addr} {c : Cell} (x : CellOk K φ H a c) (hs : ∀ b o, g b = some o → H b = some (stay o)) (hc : ∀ b o, g b = some o → ∃ v, o.data = .cell v) (nf : ∀ l caps, c ≠ .fn l caps) : CellOk K φ (hidC g H) a c := by
  have ko := keepO_hid hs
  have gn : ∀ u, H a = some u → (∀ o v, o.data = .cell v → u ≠ stay o) → hidC g H a = some u := fun u e n => by
    cases hb : g a with
    | none => rw [hidC_none hb]; exact e
    | some o =>
      obtain ⟨v, hv⟩ := hc a o hb
      rw [hs a o hb] at e
      cases e
      exact absurd rfl (n o v hv)
  cases c with
  | fn l caps => exact absurd rfl (nf l caps)
  | dead =>
    obtain ⟨o, h1, h2⟩ := x
    exact ⟨o, gn _ h1 (fun o' v hv z => by cases z; exact h2 _ hv), h2⟩
  | lst ds =>
    obtain ⟨xs, h1, r⟩ := x
    exact ⟨xs, gn _ h1 (fun o v hv z => by cases z), RepL.monoO ko _ _ r⟩
  | dK kvs =>
    obtain ⟨ws, h1, r⟩ := x
    exact ⟨ws, gn _ h1 (fun o v hv z => by cases z), Paired.mapP r fun p q z => ⟨z.1, RepV.monoO ko _ _ z.2⟩⟩
  | dT kvs =>
    obtain ⟨ws, h1, r⟩ := x
    exact ⟨ws, gn _ h1 (fun o v hv z => by cases z), Paired.mapP r fun p q z => ⟨z.1, RepV.monoO ko _ _ z.2⟩⟩
  | fK kvs =>
    obtain ⟨ws, ⟨o, h1⟩, r⟩ := x
    exact ⟨ws, ⟨o, gn _ h1 (fun o v hv z => by cases z)⟩, Paired.mapP r fun p q z => ⟨z.1, RepV.monoO ko _ _ z.2⟩⟩
  | tab q =>
    obtain ⟨tq, ps, h1, h2, h3⟩ := x
    refine ⟨tq, ps, gn _ h1 (fun o v hv z => by cases z), h2, fun p cv hcv => ?_⟩
    obtain ⟨c, e1, e2⟩ := h3 p cv hcv
    exact ⟨c, e1, ko.x _ _ e2⟩
theorem cell_dead {g : Gc} {a : Addr} {l : LamI} {caps : List D} (x : CellOk K φ H a (.fn l caps)) (hs : ∀ b o, g b = some o → H b = some (stay o)) (hc : ∀ b o, g b = some o → ∃ v, o.data = .cell v) : CellOk K φ (hidC g H) a .dead := by
  obtain ⟨cl, pm, c', ctv, h1, _, _⟩ := x
  refine ⟨PySem.W.kla_obj "<lambda>" l.qual l.params l.body l.scope cl pm c' ctv, ?_, fun v z => ?_⟩
  · cases hb : g a with
    | none => rw [hidC_none hb]; exact h1
    | some o =>
      obtain ⟨v, hv⟩ := hc a o hb
      rw [hs a o hb] at h1
      cases h1
      cases hv
  · cases z
/-- a closure whose cells are others -/
theorem cell_fn {g : Gc} {a : Addr} {l : LamI} {caps : List D} {cl : List (Str × Addr)} {pm ctv : Value} {c' : Addr} (h1 : H a = some (stay (PySem.W.kla_obj "<lambda>" l.qual l.params l.body l.scope cl pm c' ctv))) (h2 : H c' = some (LamX.CodeO c' l.qual)) (h3 : CapsOk (RepL K φ H) H l.caps caps cl)
    (hs : ∀ b o, g b = some o → H b = some (stay o)) (hc : ∀ b o, g b = some o → ∃ v, o.data = .cell v) (ha : ∀ y c, cl.lookup y = some c → g c = none) : CellOk K φ (hidC g H) a (.fn l caps) := by
  have ko := keepO_hid hs
  refine ⟨cl, pm, c', ctv, ?_, ko.x _ _ h2, h3.inj, fun y c e2 => ?_, ?_⟩
  · cases hb : g a with
    | none => rw [hidC_none hb]; exact h1
    | some o =>
      obtain ⟨v, hv⟩ := hc a o hb
      rw [hs a o hb] at h1
      cases h1
      cases hv
  · obtain ⟨oc, v, a1, a2⟩ := h3.all y c e2
    exact ⟨oc, v, by rw [hidC_none (ha y c e2)]; exact a1, a2⟩
  · obtain ⟨ws, r, hl, hv⟩ := h3.val
    refine ⟨ws, RepL.monoO ko _ _ r, hl, fun j y w e1 e2 => ?_⟩
    obtain ⟨c, oc, u, a1, a2, a3, a4⟩ := hv j y w e1 e2
    exact ⟨c, oc, u, a1, by rw [hidC_none (ha y c a1)]; exact a2, a3, a4⟩
theorem StOk.kill {g : Gc} {S : Store} (st : StOk K φ H S) (hs : ∀ b o, g b = some o → H b = some (stay o)) (hc : ∀ b o, g b = some o → ∃ v, o.data = .cell v) : StOk K φ (hidC g H) (killF S) := by
  refine ⟨by rw [st.len, killF, List.length_map], st.nd, fun n c h => ?_⟩
  unfold killF at h
  rw [List.getElem?_map] at h
  cases h0 : (S[n]? : Option Cell) with
  | none => rw [h0] at h; cases h
  | some c0 =>
    rw [h0] at h
    replace h := Option.some.inj h
    obtain ⟨a, ha, x⟩ := st.at_ n c0 h0
    refine ⟨a, ha, ?_⟩
    dsimp only at h
    split at h
    · subst h
      exact cell_dead x hs hc
    · rename_i nf
      subst h
      exact cell_hid x hs hc nf
/-- the closures made since S0 are dead -/
def killN (S0 S : Store) : Store := S.mapIdx fun i c => match (S0[i]? : Option Cell), c with
  | some (.fn _ _), c => c
  | _, .fn _ _ => .dead
  | _, c => c
theorem killN_app {S0 T : Store} : killN S0 (S0 ++ T) = S0 ++ killF T := by
  apply List.ext_getElem?
  intro i
  unfold killN killF
  rw [List.getElem?_mapIdx]
  rcases Nat.lt_or_ge i S0.length with lt | ge
  · rw [List.getElem?_append_left lt, List.getElem?_append_left lt, List.getElem?_eq_getElem lt]
    cases S0[i] <;> rfl
  · rw [List.getElem?_append_right ge, List.getElem?_append_right ge, List.getElem?_map, List.getElem?_eq_none ge]
    cases T[i - S0.length]? with
    | none => rfl
    | some c => cases c <;> rfl
theorem StOk.killN {φ0 : List Addr} {H0 : Hp} {g : Gc} {S0 S : Store} (st0 : StOk K φ0 H0 S0) (st : StOk K φ H S) (e : φ0 <+: φ) (k : Keep H0 H) (hn : ∀ b o, g b = some o → H0 b = none) (hs : ∀ b o, g b = some o → H b = some (stay o)) (hc : ∀ b o, g b = some o → ∃ v, o.data = .cell v) :
    StOk K φ (hidC g H) (Mi.killN S0 S) := by
  refine ⟨by rw [st.len, Mi.killN, List.length_mapIdx], st.nd, fun n c h => ?_⟩
  unfold Mi.killN at h
  rw [List.getElem?_mapIdx] at h
  cases h1 : (S[n]? : Option Cell) with
  | none => rw [h1] at h; cases h
  | some c1 =>
    rw [h1] at h
    replace h := Option.some.inj h
    obtain ⟨a, ha, x⟩ := st.at_ n c1 h1
    refine ⟨a, ha, ?_⟩
    have hh : (∃ l caps, (S0[n]? : Option Cell) = some (.fn l caps) ∧ c = c1) ∨ ((∃ l caps, c1 = .fn l caps) ∧ c = .dead) ∨ ((∀ l caps, c1 ≠ .fn l caps) ∧ c = c1) := by
      clear h1 x
      dsimp only at h
      split at h
      · exact .inl ⟨_, _, by assumption, h.symm⟩
      · exact .inr (.inl ⟨⟨_, _, rfl⟩, h.symm⟩)
      · rename_i nf1 nf2
        exact .inr (.inr ⟨fun l caps z => by first | exact nf1 _ _ z | exact nf2 _ _ z, h.symm⟩)
    clear h
    rcases hh with ⟨l0, caps0, h0, rfl⟩ | ⟨⟨l, caps, rfl⟩, rfl⟩ | ⟨nf, rfl⟩
    · by_cases nf : ∀ l caps, c ≠ .fn l caps
      · exact cell_hid x hs hc nf
      · simp only [Classical.not_forall, Classical.not_not] at nf
        obtain ⟨l, caps, rfl⟩ := nf
        obtain ⟨a0, ha0, x0⟩ := st0.at_ n _ h0
        have ea : a0 = a := by
          have := pre_get e ha0
          rw [ha] at this
          exact (Option.some.inj this).symm
        subst ea
        obtain ⟨cl0, pm0, c0', ctv0, q1, q2, q3⟩ := x0
        obtain ⟨cl, pm, c', ctv, r1, r2, r3⟩ := x
        have r1' := k.f _ _ _ q1
        rw [r1] at r1'
        have ecl : cl = cl0 := by
          injection r1' with z
          injection z with z _
          injection z with _ _ z
          injection z with z
          injection z
        subst ecl
        refine cell_fn r1 r2 r3 hs hc fun y c ec => ?_
        obtain ⟨oc, v, b1, b2⟩ := q3.all y c ec
        cases hb : g c with
        | none => rfl
        | some o => rw [hn c o hb] at b1; cases b1
    · exact cell_dead x hs hc
    · exact cell_hid x hs hc nf
theorem StOk.revive {φ' : List Addr} {g : Gc} {H1 : Hp} {S S1 : Store} (st0 : StOk K φ H S) (st : StOk K φ' H1 S1) (e : φ <+: φ') (k : Keep H (frzC g H1)) (hn : ∀ b o, g b = some o → H1 b = none) : StOk K φ' (frzC g H1) (revive S S1) := by
  have k2 : Keep H1 (frzC g H1) := keep_frz fun b o z => .inl (hn b o z)
  refine ⟨by rw [st.len, Mi.revive, List.length_mapIdx], st.nd, fun n c h => ?_⟩
  unfold Mi.revive at h
  rw [List.getElem?_mapIdx] at h
  cases h1 : (S1[n]? : Option Cell) with
  | none => rw [h1] at h; cases h
  | some c1 =>
    rw [h1] at h
    replace h := Option.some.inj h
    split at h
    · rename_i l caps h0
      subst h
      obtain ⟨a, ha, x⟩ := st0.at_ n _ h0
      have x' := x
      obtain ⟨cl, pm, c', ctv, q, _, _⟩ := x
      exact ⟨a, pre_get e ha, x'.mono e k ((k.f _ _ _ q).trans q.symm)⟩
    · subst h
      obtain ⟨a, ha, x⟩ := st.at_ n _ h1
      obtain ⟨u, hu⟩ := x.there
      refine ⟨a, ha, x.mono (List.prefix_refl φ') k2 ?_⟩
      cases hb : g a with
      | none => exact frzC_none hb
      | some o => rw [hn a o hb] at hu; cases hu
end
end Mi

namespace Mi
open PySem PySem.Spec PyProof.Rows L2

/-! ### a lambda is made -/
theorem obj_stay {P : Program} {w : World} {H : Hp} {h : Heap} {a : Addr} {o : Obj} (e : h.get? a = some o) : ObjOk P w H h a (stay o) := ⟨e, o, e⟩
section
variable {X : Cx} {pins : List (Addr × Obj)} {σ : L2.St} {H : Hp} {s : Shared}
theorem mk_lam {T : List (Addr × Str)} {c P : Addr} {ps0 : Arguments} {bd : Expr} {sco : Scope} {at_ : Pos} {E Q : Value → Shared → Prop} (I : Inv X pins σ H s) (TB : LamX.TabB X.base X.mg c P) (hcode : X.env.code = .ref c)
    (hm : (P, X.env.qual ++ ("<lambda>" : Str)) ∈ T) (hu : ∀ p ∈ T, p.1 = P → p.2 = X.env.qual ++ ("<lambda>" : Str)) (hT : LamX.Tabs T H)
    (hdef : defaultsOf ps0 X.env = ([], [])) (hfree : ∀ y ∈ sco.names, y.2 = .free → ∃ c, X.env.cells.lookup y.1 = some c)
    (go : ∀ (f c' : Addr) (pm ctv : Value) (H1 : Hp) (s' : Shared), Inv X pins σ (upd H1 f (stay (PySem.W.kla_obj "<lambda>" (X.env.qual ++ ("<lambda>" : Str)) ps0 bd sco (cloFrom X.env.cells sco.names []) pm c' ctv))) s' → H1 f = none →
      LamX.ExtN H H1 → LamX.Tabs T H1 → H1 c' = some (LamX.CodeO c' (X.env.qual ++ ("<lambda>" : Str))) → Q (.ref f) s') :
    wpAny (model X.prog X.w) X.A (eval (.Lambda ps0 bd sco at_) X.env) Q E s := by
  obtain ⟨tb, tP, tr, tc⟩ := hT _ hm
  have bP := TB.bm.keeps I.bk
  have gP := I.mod.glob.keeps I.bk
  have cP := TB.code.keeps I.bk
  have oP : s.heap.get? P = some { cls := .none, data := .fields tb } := I.hok P _ tP
  refine PySem.W.kla_eval hdef ?_
  rcases hc : codeAmong at_ tb.toList with _ | cv
  · refine PySem.W.kla_makeFunction (mg := X.mg) (c := c) (P := P) (ps := tb) (closure_ok hfree) I.ok.glob gP hcode cP oP tr hc TB.gP bP fun c' ctv h' tk hx hge hlt rec_ new => ?_
    obtain ⟨c2, oc, vs, t, e2, o2, d2, v2⟩ := rec_
    cases e2
    have nC : H c' = none := I.hok.fresh hge
    have I1 := LamX.inv_table (t' := tk) (h' := h') I tP hx new hge ⟨oc, vs, t, o2, d2, v2⟩
    have E1 : LamX.ExtN H (upd (upd H P (.tbl (tb ++ #[rawInt at_.line, rawInt at_.col, .ref c']))) c' (LamX.CodeO c' (X.env.qual ++ ("<lambda>" : Str)))) := fun b o e n => by
      have n1 := ne_of_none e nC
      have n2 : b ≠ P := fun z => n tb (Option.some.inj (e.symm.trans (by rw [z]; exact tP)))
      rw [upd_ne n1, upd_ne n2]
      exact e
    have lst : (tb ++ #[rawInt at_.line, rawInt at_.col, .ref c']).toList = tb.toList ++ [rawInt at_.line, rawInt at_.col, .ref c'] := by simp
    have I2 := I1.laid (t' := tk) (h' := h'.push (PySem.W.kla_obj "<lambda>" (X.env.qual ++ ("<lambda>" : Str)) ps0 bd sco (cloFrom X.env.cells sco.names []) ((X.mg "__name__").getD .none) c' ctv)) (fun b u e => Heap.get?_push_of_some _ e) (Nat.le_refl _) (obj_stay (Heap.get?_push_size _ rfl))
    refine go h'.objs.size c' _ ctv _ _ I2 (I1.hok.fresh (Nat.le_refl _)) E1 (fun p hp => ?_) upd_same
    by_cases hb : p.1 = P
    · rw [hu p hp hb, hb]
      refine ⟨_, by rw [upd_ne (ne_of_none tP nC), upd_same], by rw [lst]; exact PySem.TriplesOk_snoc _ _ _ _ tr, fun p' w' hw => ?_⟩
      rw [lst] at hw
      rcases LamX.among_app _ tr hw with z | z
      · obtain ⟨c0, e1, e2⟩ := tc p' w' z
        exact ⟨c0, e1, E1 _ _ e2 LamX.codeO_ne⟩
      · exact ⟨c', z, upd_same⟩
    · obtain ⟨tb2, a1, a2, a3⟩ := hT p hp
      refine ⟨tb2, by rw [upd_ne (ne_of_none a1 nC), upd_ne hb]; exact a1, a2, fun p' w' hw => ?_⟩
      obtain ⟨c0, e1, e2⟩ := a3 p' w' hw
      exact ⟨c0, e1, E1 _ _ e2 LamX.codeO_ne⟩
  · obtain ⟨c', e, hco⟩ := tc at_ cv hc
    subst e
    refine PySem.W.kla_makeFunctionHit (mg := X.mg) (c := c) (P := P) (ps := tb) (closure_ok hfree) I.ok.glob gP hcode cP oP tr hc bP fun ctv h' tk hx hsz => ?_
    have I2 := I.laid (t' := tk) (h' := h'.push (PySem.W.kla_obj "<lambda>" (X.env.qual ++ ("<lambda>" : Str)) ps0 bd sco (cloFrom X.env.cells sco.names []) ((X.mg "__name__").getD .none) c' ctv)) (fun b u e => Heap.get?_push_of_some _ (hx b u e)) hsz (obj_stay (Heap.get?_push_size _ rfl))
    exact go h'.objs.size c' _ ctv H _ I2 (I.hok.fresh hsz) (LamX.ExtN.refl H) hT hco
end
/-! ### the lambda's body -/
/-- its context: f, its code object c', its cells cl -/
def lamC (P : Program) (w : World) (K : PySem.W.Frag) (mg : Str → Option Value) (base : Heap) (N : List Str) (l : LamI) (f c' : Addr) (cl : List (Str × Addr)) (A : Around) (outer : List Env) (s : Shared) (H HX : Hp) : Cx :=
  let v := PySem.W.envX l.qual l.scope s.heap.objs.size f (.ref c') cl
  { prog := P, w := w, K := K, mg := mg, base := base, A := A.deeper v, N := N, s_0 := s, H_0 := H, env := v, outer := outer, stack := v :: outer, ex := [], fn := fun _ => false, calm := true, pn := [],
    xe := fun e s' => wpAny (model P w) (A.deeper v) (leaving v e) (fun _ s2 => L2.CX P w outer HX s (fun _ _ _ => False) e s2) (fun e' s2 => L2.CX P w outer HX s (fun _ _ _ => False) e' s2) s' }
structure LamW (l : LamI) (ps ts N : List Str) : Prop where
  kind : l.scope.kind = .function
  co : l.scope.isCoroutine = false
  gen : l.scope.isGenerator = false
  own : ∀ y ∈ l.scope.names, y.2 ≠ .cell
  par : ∀ x ∈ ps, l.scope.names.lookup x = some .local
  cap : ∀ x ∈ l.caps, l.scope.names.lookup x = some .free
  nd : ps.Nodup
  eq : N = l.caps ++ ps ++ ts
def lamWB (l : LamI) (ps : List Str) : Bool :=
  decide (l.scope.kind = .function) && !l.scope.isCoroutine && !l.scope.isGenerator && (l.scope.names.all fun y => !decide (y.2 = .cell)) && (ps.all fun x => decide (l.scope.names.lookup x = some .local)) && (l.caps.all fun x => decide (l.scope.names.lookup x = some .free)) && decide ps.Nodup
theorem lamW_by {l : LamI} {ps ts N : List Str} (h : lamWB l ps = true) (e : N = l.caps ++ ps ++ ts) : LamW l ps ts N := by
  unfold lamWB at h
  simp only [Bool.and_eq_true, Bool.not_eq_true', decide_eq_true_eq, decide_eq_false_iff_not, List.all_eq_true] at h
  obtain ⟨⟨⟨⟨⟨⟨h1, h2⟩, h3⟩, h4⟩, h5⟩, h6⟩, h7⟩ := h
  exact ⟨h1, h2, h3, h4, h5, h6, h7, e⟩
theorem lookup_nd {β : Type} : ∀ {l : List (Str × β)} {x : Str} {v : β}, (l.map (·.1)).Nodup → (x, v) ∈ l → l.lookup x = some v
  | [], _, _, _, h => by cases h
  | (y, u) :: l, x, v, nd, h => by
    rw [List.map_cons, List.nodup_cons] at nd
    rcases List.mem_cons.mp h with e | h2
    · cases e
      simp [List.lookup]
    · have ne : (x == y) = false := by
        rw [beq_eq_false_iff_ne]
        intro e
        subst e
        exact nd.1 (List.mem_map.mpr ⟨_, h2, rfl⟩)
      rw [List.lookup, ne]
      exact lookup_nd nd.2 h2
theorem lookup_zip {ps : List Str} {us : List Value} (nd : ps.Nodup) {i : Nat} {x : Str} {u : Value} (h1 : ps[i]? = some x) (h2 : us[i]? = some u) (hl : us.length = ps.length) : (ps.zip us).reverse.lookup x = some u := by
  refine lookup_nd ?_ ?_
  · rw [List.map_reverse, List.map_fst_zip (Nat.le_of_eq hl.symm)]
    exact List.pairwise_reverse.mpr (nd.imp fun z => z.symm)
  · rw [List.mem_reverse]
    exact List.mem_of_getElem? (i := i) (List.getElem?_zip_eq_some.mpr ⟨h1, h2⟩)
section
variable {P : Program} {w : World} {K : PySem.W.Frag} {mg : Str → Option Value} {base : Heap}
theorem lam_inv {A : Around} {outer : List Env} {s : Shared} {H HX : Hp} {l : LamI} {ps ts N : List Str} {f c' : Addr} {cl : List (Str × Addr)} {h1 : Heap} {tk : Nat} {ws vs : List V} {us : List Value} (L : LamW l ps ts N) (e0 : Env0 P w K mg base A outer s H) (hd : A.handled = none)
    (hns : h1.Ns s.heap.objs.size fun y => (ps.zip us).reverse.lookup y) (kp : ∀ b o, s.heap.get? b = some o → h1.get? b = some o) (inj : ∀ x y c, cl.lookup x = some c → cl.lookup y = some c → x = y)
    (has : ∀ y ∈ l.scope.names, y.2 = .free → ∃ c, cl.lookup y.1 = some c) (all : ∀ y c, cl.lookup y = some c → H c = none ∧ ∃ oc v, s.heap.get? c = some oc ∧ oc.data = .cell v) (hw : l.caps.length = ws.length) (hp : vs.length = ps.length) (rv : Vals vs us)
    (val : ∀ (j : Nat) (y : Str) (w : V), l.caps[j]? = some y → ws[j]? = some w → ∃ c oc u, cl.lookup y = some c ∧ s.heap.get? c = some oc ∧ oc.data = .cell (some u) ∧ RelV w u) :
    Inv (lamC P w K mg base N l f c' cl A outer s H HX) [] ((ws.map some ++ vs.map some) ++ List.replicate ts.length none) H { s with heap := h1, toks := tk } := by
  have noA : ∀ b : Addr, b ∉ (lamC P w K mg base N l f c' cl A outer s H HX).ex := fun b z => (nomatch (show b ∈ ([] : List Addr) from z))
  have hul : us.length = ps.length := by rw [← hp, rv.length]
  have capF : ∀ {y : Str}, l.scope.names.lookup y = some .free → ∃ c, cl.lookup y = some c := fun {y} hy => has _ (PySem.mem_of_lookup hy) rfl
  refine ⟨⟨e0.mod, L.kind, rfl, rfl, Nat.le_refl _, inj, fun y hy => ?_, fun y c z _ => (nomatch (show false = true from z)), fun _ => hd, Around.frames_deeper e0.frames, .inr ⟨rfl, rfl⟩, fun b z => absurd z (noA b), e0.bs, e0.bsz, fun b _ _ => noA b, fun b z => absurd z (noA b), e0.funs, e0.frf⟩,
    rfl, e0.bare, Un.kept kp, ⟨_, hns, fun i y v e1 e2 e3 => ?_⟩, fun y c e => ?_, e0.hok.fresh (Nat.le_refl _), fun y c e => (all y c e).1, fun q hq => absurd (show q ∈ ([] : List (Addr × Obj)) ++ [] from hq) (by simp), e0.hok.kept kp, ?_⟩
  · have hy : l.scope.names.lookup y = some .cell ∨ l.scope.names.lookup y = some .free := hy
    rcases hy with hy | hy
    · exact absurd rfl (L.own _ (PySem.mem_of_lookup hy))
    · exact capF hy
  · have e1 : N[i]? = some y := e1
    rw [L.eq] at e1
    have e1 : ((l.caps ++ ps) ++ ts)[i]? = some y := e1
    rcases Nat.lt_or_ge i (l.caps ++ ps).length with lt | ge
    · rw [List.getElem?_append_left lt] at e1
      rw [List.getElem?_append_left (by
        rw [List.length_append, List.length_map, List.length_map]
        rw [List.length_append] at lt
        omega)] at e2
      rcases Nat.lt_or_ge i l.caps.length with lt2 | ge2
      · rw [List.getElem?_append_left lt2] at e1
        rw [List.getElem?_append_left (by rw [List.length_map]; omega), List.getElem?_map] at e2
        cases hi : ws[i]? with
        | none => rw [hi] at e2; cases e2
        | some w' =>
          rw [hi] at e2
          cases e2
          obtain ⟨c, oc, u, a1, a2, a3, a4⟩ := val i y _ e1 hi
          exact ⟨u, a4, .inr ⟨.inr (L.cap y (List.mem_of_getElem? e1)), c, a1, oc, kp _ _ a2, a3⟩⟩
      · rw [List.getElem?_append_right ge2] at e1
        rw [List.getElem?_append_right (by rw [List.length_map]; omega), List.length_map, List.getElem?_map, ← hw] at e2
        cases hi : vs[i - l.caps.length]? with
        | none => rw [hi] at e2; cases e2
        | some w' =>
          rw [hi] at e2
          cases e2
          obtain ⟨u, a1, a2⟩ := rv.get hi
          exact ⟨u, a2, .inl ⟨L.par y (List.mem_of_getElem? e1), lookup_zip L.nd e1 a1 hul⟩⟩
    · rw [List.getElem?_append_right (by
        rw [List.length_append, List.length_map, List.length_map]
        rw [List.length_append] at ge
        omega), List.getElem?_replicate] at e2
      split at e2 <;> cases e2
  · obtain ⟨_, oc, v, a1, a2⟩ := all y c e
    exact ⟨v, oc, kp _ _ a1, a2⟩
  · show _ = N.length
    rw [L.eq]
    simp only [List.length_append, List.length_map, List.length_replicate]
    omega
/-- what is promised of a lambda that is called -/
def LamM (P : Program) (w : World) (K : PySem.W.Frag) (mg : Str → Option Value) (base : Heap) (k : Nat) (l : LamI) (n : Nat) (mf : List D → MF) : Prop :=
  ∀ (A : Around) (outer : List Env) (s : Shared) (H : Hp) (f : Addr) (us : List Value) (vs : List V) (Q : VK) (φ : List Addr) (S : Store) (i : Nat) (caps ds : List D), Room k A → A.guards = some [] → Env0 P w K mg base A outer s H → φ[i]? = some f → (S[i]? : Option Cell) = some (.fn l caps) →
    StOk K φ H S → RepL K φ H ds vs → Vals vs us → ds.length = n → postX K φ H Q (mf caps ds S) → codeAny (model P w) A (.call (.ref f) ⟨us, []⟩) (CR (L2.CX P w) outer P w H s Q fun _ _ _ => False) s
def lamF (m : Nat) (mb : ME) : List D → MF := fun caps ds S => match mb ((caps.map some ++ ds.map some) ++ List.replicate m none) (killF S) with
  | .ok d S2 => .ok d (revive S S2)
  | _ => .bad
theorem lamM_bad {k : Nat} {l : LamI} {n : Nat} : LamM P w K mg base k l n fun _ _ _ => .bad := fun _ _ _ _ _ _ _ _ _ _ _ _ _ _ _ _ _ _ _ _ _ _ z => z.elim
theorem envOk_of {φ : List Addr} {H : Hp} {caps ds : List D} {ws vs : List V} {m : Nat} (r1 : RepL K φ H caps ws) (r2 : RepL K φ H ds vs) : EnvOk K φ H ((ws.map some ++ vs.map some) ++ List.replicate m none) ((caps.map some ++ ds.map some) ++ List.replicate m none) := by
  have r := r1.append r2
  have rl := r.len
  rw [← List.map_append, ← List.map_append]
  refine ⟨by rw [List.length_append, List.length_append, List.length_map, List.length_map, rl]; simp, fun i d h => ?_⟩
  rcases Nat.lt_or_ge i (caps ++ ds).length with lt | ge
  · rw [List.getElem?_append_left (by rw [List.length_map]; exact lt), List.getElem?_map] at h
    rw [List.getElem?_append_left (by rw [List.length_map, rl]; exact lt), List.getElem?_map]
    cases hi : (caps ++ ds)[i]? with
    | none => rw [hi] at h; cases h
    | some d' =>
      rw [hi] at h
      cases h
      obtain ⟨v, a1, a2⟩ := r.get hi
      exact ⟨v, by rw [a1]; rfl, a2⟩
  · rw [List.getElem?_append_right (by rw [List.length_map]; exact ge), List.getElem?_replicate] at h
    split at h <;> cases h
theorem lam_ok {k : Nat} {l : LamI} {ps ts N : List Str} {mb : ME} (L : LamW l ps ts N) (has : ∀ y ∈ l.scope.names, y.2 = .free → y.1 ∈ l.caps)
    (hbind : ∀ (cl : List (Str × Addr)) (pm cv ctv : Value) (us : List Value), us.length = ps.length → bindArgs (PySem.W.kla_fn "<lambda>" l.qual l.params l.body l.scope cl pm cv ctv) ⟨us, []⟩ = pure (ps.zip us))
    (hbody : ∀ (f c' : Addr) (cl : List (Str × Addr)) (A : Around) (outer : List Env) (s : Shared) (H HX : Hp), A.guards = some [] → Room k (A.deeper (PySem.W.envX l.qual l.scope s.heap.objs.size f (.ref c') cl)) → PE (lamC P w K mg base N l f c' cl A outer s H HX) l.body (rd K noExc mb)) :
    LamM P w K mg base (k + 1) l ps.length (lamF ts.length mb) := by
  classical
  intro A outer s H f us vs Q φ S i caps ds hr gu e0 hφ hS st rd_ rv hl hp
  obtain ⟨a, ha, cl, pm, c', ctv, h1, h2, h3⟩ := st.at_ i _ hS
  rw [hφ] at ha
  cases ha
  obtain ⟨of_, _⟩ := e0.hok f _ h1
  obtain ⟨⟨oc, vv, t, k1, k2, k3⟩, _, _⟩ := e0.hok c' _ h2
  obtain ⟨ws, rw_, hwl, hwv⟩ := h3.val
  -- the cells, their objects
  generalize hgd : (fun b => if ∃ y, cl.lookup y = some b then s.heap.get? b else none : Gc) = g
  have gS : ∀ b o, g b = some o → H b = some (stay o) ∧ s.heap.get? b = some o ∧ (∃ v, o.data = .cell v) ∧ ∃ y, cl.lookup y = some b := fun b o e => by
    rw [← hgd] at e
    dsimp only at e
    split at e
    · rename_i hy
      obtain ⟨y, hy⟩ := hy
      obtain ⟨o2, v, b1, b2⟩ := h3.all y b hy
      obtain ⟨b3, _⟩ := e0.hok b _ b1
      rw [b3] at e
      cases e
      exact ⟨b1, b3, ⟨v, b2⟩, y, hy⟩
    · cases e
  have gC : ∀ y c, cl.lookup y = some c → ∃ o v, g c = some o ∧ s.heap.get? c = some o ∧ o.data = .cell v := fun y c e => by
    obtain ⟨o2, v, b1, b2⟩ := h3.all y c e
    obtain ⟨b3, _⟩ := e0.hok c _ b1
    refine ⟨o2, v, ?_, b3, b2⟩
    rw [← hgd]
    dsimp only
    rw [if_pos ⟨y, e⟩]
    exact b3
  have hs : ∀ b o, g b = some o → H b = some (stay o) := fun b o e => (gS b o e).1
  have noF : ∀ b o, g b = some o → b ∉ frs outer := fun b o e z => by
    have := e0.frf b z
    rw [hs b o e] at this
    cases this
  have e1 : Env0 P w K mg base A outer s (hidC g H) :=
    { frames := e0.frames, mod := e0.mod, bs := fun b o q => ⟨(e0.bs b o q).1, by
        cases hb : g b with
        | none => rw [hidC_none hb]; exact (e0.bs b o q).2
        | some ob => exact hidC_some hb⟩,
      bsz := e0.bsz, funs := e0.funs, frf := fun b z => by
        cases hb : g b with
        | none => rw [hidC_none hb]; exact e0.frf b z
        | some ob => exact hidC_some hb
      hok := hok_hid e0.hok hs, bare := e0.bare }
  have lim : s.heap.NoLimit := e0.mod.nolimit.keeps fun b o q => (e0.bs b o q).1
  have hvl : vs.length = ps.length := by rw [rd_.len, hl]
  have hul : us.length = ps.length := by rw [← rv.length, hvl]
  refine PySem.W.kla_callFunE hr.depth of_ rfl L.co L.gen rfl ⟨c', oc, vv, t, rfl, k1, k2, k3⟩ ?_
  show wpAny _ _ (bindArgs _ ⟨us, []⟩) _ _ _
  rw [hbind _ _ _ _ _ hul]
  refine wpAny_pure (wpAny_newFunctionEnv L.own (fun y hy => L.par y.1 (List.of_mem_zip hy).1) (fun h' hns sb => ⟨lim.fresh _ sb, PySem.W.kla_codeExpr ?_⟩) L.kind)
  have kp : ∀ b o, s.heap.get? b = some o → h'.get? b = some o := fun b o e => sb.extBut b o (Nat.ne_of_lt (Heap.lt_size e)) (Heap.get?_push_of_some _ e)
  have J := lam_inv (HX := H) (f := f) (c' := c') (tk := s.toks + (ps.zip us).length) L e1 hr.hd hns kp h3.inj (fun y hy e => by
      obtain ⟨j, hj⟩ := List.mem_iff_getElem?.mp (has y hy e)
      have hj2 : j < ws.length := by
        rw [← hwl]
        exact (List.getElem?_eq_some_iff.mp hj).1
      obtain ⟨c, _, _, a1, _⟩ := hwv j y.1 ws[j] hj (List.getElem?_eq_getElem hj2)
      exact ⟨c, a1⟩)
    (fun y c e => by
      obtain ⟨o, v, q1, q2, q3⟩ := gC y c e
      exact ⟨hidC_some q1, o, v, q2, q3⟩) hwl hvl rv (fun j y w a1 a2 => by
      obtain ⟨c, o2, u, b1, b2, b3, b4⟩ := hwv j y w a1 a2
      obtain ⟨b5, _⟩ := e0.hok c _ b2
      exact ⟨c, o2, u, b1, b5, b3, b4⟩)
  have ko := keepO_hid hs
  have hpost : post (RepV K) K noExc φ ((ws.map some ++ vs.map some) ++ List.replicate ts.length none) (hidC g H) ((caps.map some ++ ds.map some) ++ List.replicate ts.length none) (fun v H2 => (∀ b o, g b = some o → H2 b = none) → Q v (frzC g H2)) (mb ((caps.map some ++ ds.map some) ++ List.replicate ts.length none) (killF S)) := by
    unfold lamF at hp
    cases hm : mb ((caps.map some ++ ds.map some) ++ List.replicate ts.length none) (killF S) with
    | bad => rw [hm] at hp; exact hp
    | exc _ _ => rw [hm] at hp; exact hp.elim
    | ok d S2 =>
      rw [hm] at hp
      intro φ' H2 v q k2 st2 r2 fr
      have k3 := keep_show k2 hs
      exact hp φ' (frzC g H2) v q k3 (StOk.revive st st2 q k3 fr) (r2.mono (List.prefix_refl _) (keep_frz fun b o e => .inl (fr b o e)))
  refine wpAny_mono ((hbody f c' cl A outer s (hidC g H) H gu (hr.deeper _)).run [] _ _ _ _ J ⟨φ, _, killF S, ⟨envOk_of (RepL.monoO ko _ _ rw_) (RepL.monoO ko _ _ rd_), StOk.kill st hs fun b o e => (gS b o e).2.2.1⟩, hpost⟩) (fun v s3 q => ?_) fun e s3 q => q
  obtain ⟨v3, H3, J3, r3, q3⟩ := q
  have un : Un (frs outer) [] (hidC g H) H3 s.heap s3.heap := J3.base
  have fr : ∀ b o, g b = some o → H3 b = none := fun b o e => un.free b o (gS b o e).2.1 (hidC_some e) (by simp)
  have kc : ∀ b o, g b = some o → s3.heap.get? b = some o := fun b o e => un.keep b o (gS b o e).2.1 (hidC_some e) (noF b o e) (by simp)
  exact ⟨v3, frzC g H3, J3.os, J3.bare, un_show un hs, hok_frz J3.hok kc fun b o e => .inl (fr b o e), r3, q3 fr⟩
end
end Mi

namespace Mi
open PySem PySem.Spec PyProof.Rows L2

/-! ### x(..), where x holds a lambda -/
def callF (i : Nat) (mf : LamI → List D → MF) (ms : ML) : ME := fun e S => match (e[i]? : Option (Option D)) with
  | some (some (.ref n)) => (match (S[n]? : Option Cell) with
    | some (.fn _ _) => (ms e S).bind fun ds S1 => (match (S1[n]? : Option Cell) with
      | some (.fn l caps) => noX (mf l caps ds S1)
      | _ => .bad)
    | _ => .bad)
  | _ => .bad
theorem postX_of {K : PySem.W.Frag} {W : Wish} {φ : List Addr} {σ : L2.St} {H : Hp} {e : Vs} {Q : VK} {r : R D} (h : post (RepV K) K W φ σ H e Q (noX r)) : postX K φ H Q r := by
  cases r with
  | ok d S => exact h
  | exc x S => exact h.elim
  | bad => exact h.elim
section
variable {X : Cx} {k n i : Nat} {W : Wish} {Wx : WX} {XT : XA} {x : Str} {p pos : Pos} {a : Expr} {es : List Expr} {ms : ML} {mf : LamI → List D → MF}
theorem q_callF (at_ : At X k W Wx XT) (LM : ∀ l, LamM X.prog X.w X.K X.mg X.base k l n (mf l)) (hN : X.N[i]? = some x) (hv : Vis X.env.scope x) (ha : PA X (a :: es) (rdL X.K W ms))
    (hl : ∀ e S ds S1, ms e S = .ok ds S1 → ds.length = n) (hdb : (x == ("__debug__" : Str)) = false := by decide) (hcd : (x == ("__classdict__" : Str)) = false := by decide) (he : starEach (a :: es) X.env = (false, eval a X.env) :: starEach es X.env := by rfl) (hpl : (backTo pos (starEach es X.env)).any (·.1) = false := by rfl) :
    PE X (.Call (.Name x p) (a :: es) [] pos) (rd X.K W (callF i mf ms)) := by
  refine ⟨fun pins s σ H Q I h => ?_⟩
  obtain ⟨φ, e, S, g, p0⟩ := h
  unfold callF at p0
  split at p0
  · rename_i n0 hi
    split at p0
    · rename_i l0 caps0 hS0
      obtain ⟨v, h1, r⟩ := g.env.at_ i _ hi
      obtain ⟨f, hf, rfl⟩ := r.ref
      obtain ⟨f', hf', x0⟩ := g.st.at_ n0 _ hS0
      rw [hf] at hf'
      cases hf'
      obtain ⟨cl, pm, c', ctv, q1, _, _⟩ := x0
      obtain ⟨o1, _⟩ := I.hok f _ q1
      refine wpAny_Call_Name_kw (thn ((pe_var (pos := p) (i := i) hN hv hdb hcd).run pins s σ H (fun v H1 => v = .ref f ∧ H1 = H) I ⟨_, h1, rfl, rfl⟩) fun u s1 ⟨v, H1, I1, r1, ev, eh⟩ => ?_)
      subst ev eh
      obtain rfl : u = Value.ref f := r1
      obtain ⟨o2, _⟩ := I1.hok f _ q1
      refine PySem.W.callWith_F ⟨_, _, _, _, o2⟩ ?_ he hpl
      refine thn (ha.run pos pins s1 σ _ (fun vs H2 => ∃ φ2 ds S2 l caps, StOk X.K φ2 H2 S2 ∧ φ2[n0]? = some f ∧ (S2[n0]? : Option Cell) = some (.fn l caps) ∧ RepL X.K φ2 H2 ds vs ∧ ds.length = n ∧ postX X.K φ2 H2 Q (mf l caps ds S2)) I1 ?_) fun us s2 q => ?_
      · refine ⟨φ, e, S, g, ?_⟩
        cases hm : ms e S with
        | bad => rw [hm] at p0; exact p0
        | exc y S2 => rw [hm] at p0; exact p0
        | ok ds S2 =>
          rw [hm] at p0
          dsimp only [R.bind] at p0
          intro φ2 H2 vs e2 k2 st2 r2
          split at p0
          · rename_i l caps hS2
            exact ⟨φ2, ds, S2, l, caps, st2, pre_get e2 hf, hS2, r2, hl _ _ _ _ hm, postX_of (W := W) (σ := σ) (e := e) (post.mono e2 k2 p0)⟩
          · exact p0.elim
      · obtain ⟨vs, H2, I2, r, φ2, ds, S2, l, caps, st2, hf2, hS2, rl, hn, px⟩ := q
        obtain ⟨f2, hf2', x2⟩ := st2.at_ n0 _ hS2
        rw [hf2] at hf2'
        cases hf2'
        obtain ⟨cl2, pm2, c2, ctv2, q2, _, _⟩ := x2
        obtain ⟨o3, _⟩ := I2.hok f _ q2
        refine ⟨⟨_, _, _, _, o3⟩, wpAny_call (codeAny_mono (LM l X.A X.stack s2 H2 f us vs Q φ2 S2 n0 caps ds at_.room at_.gu I2.env0 hf2 hS2 st2 rl r hn px) fun res s3 hq => ?_)⟩
        cases res with
        | error er =>
          obtain ⟨_, _, _, _, _, _, _, _, _, _, _, _, z⟩ := (show L2.CX X.prog X.w X.stack H2 s2 (fun _ _ _ => False) er s3 from hq)
          exact z.elim
        | ok fl =>
          cases fl with
          | ret u => exact I2.after hq
          | next => exact hq.elim
          | brk => exact hq.elim
          | cont => exact hq.elim
    · exact p0.elim
  · exact p0.elim
end
/-! ### g(a, lambda ..: ..) -/
def capsOf (e : Vs) : List Nat → Option (List D)
  | [] => some []
  | j :: js => match (e[j]? : Option (Option D)), capsOf e js with
    | some (some d), some ds => some (d :: ds)
    | _, _ => none
def finN (S0 : Store) : R D → R D
  | .ok d S => .ok d (killN S0 S)
  | _ => .bad
/-- the def's function mf, at the values of the arguments and the lambda -/
def lamCall (i : Nat) (y : Str) (l : LamI) (js : List Nat) (mf : MF) (ma : ME) : ME := fun e S => (ma e S).bind fun d S1 => match (S1[i]? : Option Cell), capsOf e js with
  | some (.tab z), some caps => if z = y then finN S1 (mf [d, .ref S1.length] (S1 ++ [.fn l caps])) else .bad
  | _, _ => .bad
def tLamE (X : Cx) (i : Nat) (y : Str) (ps0 : Arguments) (bd : Expr) (sco : Scope) : TE := fun σ H Q => ∃ φ S, StOk X.K φ H S ∧ (S[i]? : Option Cell) = some (.tab y) ∧ ∀ (f c' : Addr) (pm ctv : Value) (H1 : Hp),
  H1 f = some (stay (PySem.W.kla_obj "<lambda>" (X.env.qual ++ ("<lambda>" : Str)) ps0 bd sco (cloFrom X.env.cells sco.names []) pm c' ctv)) → H1 c' = some (LamX.CodeO c' (X.env.qual ++ ("<lambda>" : Str))) → Keep H H1 → StOk X.K (φ ++ [f]) H1 (S ++ [.dead]) → StOk X.K φ H1 S → Q (.ref f) H1
theorem capsOf_rep {K : PySem.W.Frag} {φ : List Addr} {H : Hp} {σ : L2.St} {e : Vs} (g : EnvOk K φ H σ e) : ∀ {js : List Nat} {caps : List D}, capsOf e js = some caps → ∃ ws, RepL K φ H caps ws ∧ ws.length = js.length ∧ ∀ (j : Nat) (i : Nat) (w : V), js[j]? = some i → ws[j]? = some w → σ[i]? = some (some w)
  | [], caps, h => by
    cases h
    exact ⟨[], .nil, rfl, fun j i w e => by cases e⟩
  | j :: js, caps, h => by
    unfold capsOf at h
    split at h
    · rename_i d ds h1 h2
      cases h
      obtain ⟨ws, r, hl, hv⟩ := capsOf_rep g h2
      obtain ⟨v, a1, a2⟩ := g.at_ j d h1
      refine ⟨v :: ws, .cons a2 r, by rw [List.length_cons, List.length_cons, hl], fun q i w e1 e2 => ?_⟩
      cases q with
      | zero => cases e1; cases e2; exact a1
      | succ q => exact hv q i w e1 e2
    · cases h
section
variable {X : Cx}
theorem pe_lamE {k' : Nat} {W : Wish} {Wx : WX} {XT : XA} {i : Nat} {y : Str} {c P : Addr} {ps0 : Arguments} {bd : Expr} {sco : Scope} {lpos : Pos} (at_ : At X k' W Wx XT) (ht : PySem.W.tabIn X.K y = some (c, P)) (hq : X.env.qual = y ++ (".<locals>." : Str)) (TB : LamX.TabB X.base X.mg c P) (hcode : X.env.code = .ref c)
    (hdef : defaultsOf ps0 X.env = ([], [])) (hfr : ∀ z ∈ sco.names, z.2 = .free → X.env.scope.names.lookup z.1 = some .cell ∨ X.env.scope.names.lookup z.1 = some .free) : PE X (.Lambda ps0 bd sco lpos) (tLamE X i y ps0 bd sco) := by
  refine ⟨fun pins s σ H Q I h => ?_⟩
  obtain ⟨φ, S, st, hS, h⟩ := h
  obtain ⟨a', hφ, ⟨c', ht'⟩, tb⟩ := st.at_ i _ hS
  have eP : a' = P := (Prod.mk.inj (Option.some.inj (ht'.symm.trans ht))).2
  subst eP
  have eq : X.env.qual ++ ("<lambda>" : Str) = lamQ y := by rw [hq]; rfl
  refine mk_lam (T := tabsOf φ S) I TB hcode (by rw [eq]; exact mem_tabsOf hφ hS) (by rw [eq]; exact st.tab_one hφ hS) st.tabs hdef (fun z hz e => ?_) fun f cc pm ctv H1 s' I1 hf eN T1 hco => ?_
  · rcases hfr z hz e with q | q
    · exact I.ok.has _ (.inl q)
    · exact I.ok.has _ (.inr q)
  · have st1 := st.ext eN T1
    have st2 := st1.push (c := .dead) (o := stay (PySem.W.kla_obj "<lambda>" (X.env.qual ++ ("<lambda>" : Str)) ps0 bd sco (cloFrom X.env.cells sco.names []) pm cc ctv)) hf ⟨_, upd_same, fun v z => by cases z⟩
    refine ⟨.ref f, _, I1, rfl, h f cc pm ctv _ upd_same (by rw [upd_ne (ne_of_none hco hf)]; exact hco) ((keep_ext eN).trans (Keep.new hf)) st2 (st1.new hf)⟩
end
end Mi

namespace Mi
open PySem PySem.Spec PyProof.Rows L2

theorem keep_hide {g : Gc} {H H1 : Hp} (k : Keep (frzC g H) H1) (hn : ∀ b o, g b = some o → H b = none) : Keep H (hidC g H1) := by
  have nb : ∀ c u, H c = some u → g c = none := fun c u q => by
    cases hc : g c with
    | none => rfl
    | some o => rw [hn c o hc] at q; cases q
  refine ⟨fun a xs e => ?_, fun a o u e => ?_, fun a q e => ?_, fun a fs e => ?_⟩
  · rw [hidC_none (nb _ _ e)]
    exact k.t _ _ (by rw [frzC_none (nb _ _ e)]; exact e)
  · rw [hidC_none (nb _ _ e)]
    exact k.f _ _ _ (by rw [frzC_none (nb _ _ e)]; exact e)
  · rw [hidC_none (nb _ _ e)]
    exact k.x _ _ (by rw [frzC_none (nb _ _ e)]; exact e)
  · rw [hidC_none (nb _ _ e)]
    exact k.d _ _ (by rw [frzC_none (nb _ _ e)]; exact e)
section
variable {X : Cx}
/-- the call of the def that got the lambda n0: the lambda's cells are known as long as it runs -/
theorem run_lam {k n0 : Nat} {js : List Nat} {pins : List (Addr × Obj)} {σ : L2.St} {H : Hp} {s : Shared} {Q : VK} {us : List Value} {vs : List V} {φ : List Addr} {S : Store} {e : Vs} {ds caps : List D} {l : LamI} {f c' g : Addr} {pm ctv : Value} {fd : FuncData} {ps : List Str} {XT : XA} {mf : MF} {n : Nat}
    (hr : Room k X.A) (gu : X.A.guards = some []) (F : FnM X.prog X.w X.K X.mg X.base k g fd ps (spM XT X.K n mf)) (hb : Binds X.K fd ps []) (hfn : ∀ y, X.fn y = true) (hql : l.qual = X.env.qual ++ ("<lambda>" : Str))
    (hfree : ∀ y ∈ l.scope.names, y.2 = .free → ∃ c, X.env.cells.lookup y.1 = some c) (hcap : ∀ x ∈ l.caps, l.scope.names.lookup x = some .free ∧ X.env.scope.names.lookup x = some .cell) (hjl : js.length = l.caps.length) (hjN : ∀ (j i : Nat) (y : Str), js[j]? = some i → l.caps[j]? = some y → X.N[i]? = some y)
    (I : Inv X pins σ H s) (env : EnvOk X.K φ H σ e) (hcs : capsOf e js = some caps) (hf : H f = some (stay (PySem.W.kla_obj "<lambda>" l.qual l.params l.body l.scope (cloFrom X.env.cells l.scope.names []) pm c' ctv))) (hc : H c' = some (LamX.CodeO c' l.qual))
    (st : StOk X.K φ H (S ++ [.dead])) (hn0 : S.length = n0) (hφ : φ[n0]? = some f) (r : Vals vs us) (rl : RepL X.K φ H ds vs) (hn : ds.length = n)
    (hp : ∃ d S2, mf ds (S ++ [.fn l caps]) = .ok d S2 ∧ ∀ φ' H' v, φ <+: φ' → Keep H H' → StOk X.K φ' H' (killN S S2) → RepV X.K φ' H' d v → Q v H') (stS : ∃ φ0, φ = φ0 ++ [f] ∧ StOk X.K φ0 H S) : wpAny (model X.prog X.w) X.A (call (.ref g) us) (EP X pins σ Q) X.xe s := by
  classical
  generalize hcl : cloFrom X.env.cells l.scope.names [] = cl at hf
  have cm : ∀ {y c}, cl.lookup y = some c → X.env.cells.lookup y = some c := fun {y c} e => by
    rw [← hcl] at e
    rcases cloFrom_mem (PySem.mem_of_lookup e) with z | ⟨z1, z2⟩
    · cases z
    · obtain ⟨c1, h1⟩ := hfree _ z1 rfl
      have h1 : X.env.cells.lookup y = some c1 := h1
      rw [z2, h1]
      rfl
  have cellAt : ∀ {y c}, cl.lookup y = some c → ∃ o v, s.heap.get? c = some o ∧ o.data = .cell v := fun {y c} e => by
    obtain ⟨v, o, h1, h2⟩ := I.cell y c (cm e)
    exact ⟨o, v, h1, h2⟩
  generalize hgd : (fun b => if ∃ y, cl.lookup y = some b then s.heap.get? b else none : Gc) = gc
  have gS : ∀ b o, gc b = some o → H b = none ∧ s.heap.get? b = some o ∧ (∃ v, o.data = .cell v) ∧ ∃ y, X.env.cells.lookup y = some b := fun b o e => by
    rw [← hgd] at e
    dsimp only at e
    split at e
    · rename_i hy
      obtain ⟨y, hy⟩ := hy
      obtain ⟨o2, v, b1, b2⟩ := cellAt hy
      rw [b1] at e
      cases e
      exact ⟨I.freeC y b (cm hy), b1, ⟨v, b2⟩, y, cm hy⟩
    · cases e
  have gC : ∀ y c, cl.lookup y = some c → ∃ o v, gc c = some o ∧ o.data = .cell v := fun y c e => by
    obtain ⟨o2, v, b1, b2⟩ := cellAt e
    refine ⟨o2, v, ?_, b2⟩
    rw [← hgd]
    dsimp only
    rw [if_pos ⟨y, e⟩]
    exact b1
  have low : ∀ b o, gc b = some o → X.s_0.heap.objs.size ≤ b := fun b o e => by
    obtain ⟨_, _, _, y, hy⟩ := gS b o e
    exact I.ok.cab y b (hfn y) hy
  have noF : ∀ b o, gc b = some o → b ∉ frs X.stack := fun b o e z => by
    obtain ⟨_, h2, ⟨v, h3⟩, _⟩ := gS b o e
    rcases List.mem_cons.mp (I.stkSub b z) with q | q
    · obtain ⟨m, ⟨ob, es, ep, h4, h5, _⟩, _⟩ := I.loc
      rw [← q, h2] at h4
      cases h4
      rw [h3] at h5
      cases h5
    · obtain ⟨_, ob, h4, _⟩ := I.ok.funs.mem q
      exact Nat.lt_irrefl _ (Nat.lt_of_lt_of_le (Heap.lt_size h4) (low b o e))
  have hnn : ∀ b o, gc b = some o → H b = none := fun b o e => (gS b o e).1
  have kf : Keep H (frzC gc H) := keep_frz fun b o e => .inl (hnn b o e)
  have e0 := I.env0
  have e1 : Env0 X.prog X.w X.K X.mg X.base X.A X.stack s (frzC gc H) :=
    { frames := e0.frames, mod := e0.mod, bs := fun b o q => ⟨(e0.bs b o q).1, by
        cases hb : gc b with
        | none => rw [frzC_none hb]; exact (e0.bs b o q).2
        | some ob => exact absurd (Heap.lt_size q) (Nat.not_lt.mpr (Nat.le_trans I.ok.bsz (low b ob hb)))⟩,
      bsz := e0.bsz, funs := e0.funs, frf := fun b z => by
        cases hb : gc b with
        | none => rw [frzC_none hb]; exact e0.frf b z
        | some ob => exact absurd z (noF b ob hb)
      hok := hok_frz e0.hok (fun b o e => (gS b o e).2.1) (fun b o e => .inl (hnn b o e)), bare := e0.bare }
  obtain ⟨φ0, eφ, st0⟩ := stS
  -- the closure, alive
  obtain ⟨ws, rw_, hwl, hwv⟩ := capsOf_rep env hcs
  have st1 : StOk X.K φ (frzC gc H) (S ++ [.fn l caps]) := by
    refine ⟨by rw [st.len, List.length_append, List.length_append]; rfl, st.nd, fun m c hm => ?_⟩
    rcases Nat.lt_or_ge m S.length with lt | ge
    · rw [List.getElem?_append_left lt] at hm
      obtain ⟨a, ha, x⟩ := st.at_ m c (by rw [List.getElem?_append_left lt]; exact hm)
      obtain ⟨u, hu⟩ := x.there
      refine ⟨a, ha, x.mono (List.prefix_refl φ) kf ?_⟩
      cases hb : gc a with
      | none => exact frzC_none hb
      | some o => rw [hnn a o hb] at hu; cases hu
    · rw [List.getElem?_append_right ge] at hm
      have em : m - S.length = 0 := by
        rcases Nat.lt_or_ge (m - S.length) 1 with q | q
        · omega
        · rw [List.getElem?_eq_none (by simpa using q)] at hm; cases hm
      rw [em] at hm
      cases hm
      have em2 : m = n0 := by omega
      subst em2
      refine ⟨f, hφ, cl, pm, c', ctv, kf.f _ _ _ hf, kf.x _ _ hc, fun x y c a b => I.ok.inj x y c (cm a) (cm b), fun y c e => ?_, ws, rw_.mono (List.prefix_refl φ) kf, by rw [hwl, hjl], fun j y w a b => ?_⟩
      · obtain ⟨o, v, h1, h2⟩ := gC y c e
        exact ⟨o, v, frzC_some h1, h2⟩
      · have hj : j < js.length := by
          rw [hjl]
          exact (List.getElem?_eq_some_iff.mp a).1
        have hi := List.getElem?_eq_getElem hj
        have hσ := hwv j _ w hi b
        obtain ⟨k1, k2⟩ := hcap y (List.mem_of_getElem? a)
        obtain ⟨m2, _, hloc⟩ := I.loc
        obtain ⟨u, hu, hlook⟩ := hloc _ y w (hjN j _ y hi a) hσ (.inr (.inl k2))
        rcases hlook with ⟨z, _⟩ | ⟨_, c, hc1, o1, ho1, ho2⟩
        · have z : X.env.scope.names.lookup y = some .local := z
          rw [k2] at z
          cases z
        · have hin : (y, NameKind.free) ∈ l.scope.names := PySem.mem_of_lookup k1
          obtain ⟨c2, hc2⟩ := mem_lookup (cloFrom_has (cells := X.env.cells) (acc := []) hin)
          have hc2 : cl.lookup y = some c2 := by rw [← hcl]; exact hc2
          have e2 := cm hc2
          rw [hc1] at e2
          cases e2
          obtain ⟨o, v, h1, h2⟩ := gC y c hc2
          obtain ⟨_, h3, _, _⟩ := gS c o h1
          rw [ho1] at h3
          cases h3
          exact ⟨c, o1, u, hc2, frzC_some h1, ho2, hu⟩
  obtain ⟨d, S2, hmf, hp⟩ := hp
  have el : (us ++ ([] : List Value)).length = ps.length := by
    rw [List.append_nil, ← r.length]
    exact F.len vs (frzC gc H) (fun v H2 => Q v (hidC gc H2)) (fun _ _ _ => True) ⟨φ, ds, S ++ [.fn l caps], st1, rl.mono (List.prefix_refl φ) kf, hn, by
      rw [hmf]
      exact fun φ' H2 v q k2 st2 rv => hp φ' (hidC gc H2) v q (keep_hide k2 hnn) (StOk.killN st0 st2 ((by rw [eφ]; exact pre_push f : φ0 <+: φ).trans q) (kf.trans k2) hnn (fun b o e => k2.f _ _ _ (frzC_some e)) fun b o e => (gS b o e).2.2.1) (RepV.monoO (keepO_hid fun b o e => k2.f _ _ _ (frzC_some e)) _ _ rv)⟩
  have bt := hb s us I.kIn el
  rw [List.append_nil] at bt
  refine wpAny_call (codeAny_mono (F.go X.A X.stack s (frzC gc H) ⟨us, []⟩ us vs (fun v H2 => Q v (hidC gc H2)) (fun _ _ _ => False) hr gu e1 bt r ⟨φ, ds, S ++ [.fn l caps], st1, rl.mono (List.prefix_refl φ) kf, hn, by
      rw [hmf]
      exact fun φ' H2 v q k2 st2 rv => hp φ' (hidC gc H2) v q (keep_hide k2 hnn) (StOk.killN st0 st2 ((by rw [eφ]; exact pre_push f : φ0 <+: φ).trans q) (kf.trans k2) hnn (fun b o e => k2.f _ _ _ (frzC_some e)) fun b o e => (gS b o e).2.2.1) (RepV.monoO (keepO_hid fun b o e => k2.f _ _ _ (frzC_some e)) _ _ rv)⟩) fun res s' hq => ?_)
  cases res with
  | error er =>
    obtain ⟨_, _, _, _, _, _, _, _, _, _, _, _, z⟩ := (show L2.CX X.prog X.w X.stack (frzC gc H) s (fun _ _ _ => False) er s' from hq)
    exact z.elim
  | ok fl =>
    cases fl with
    | ret u =>
      obtain ⟨v, H2, os, bare, un, hok, rv, q⟩ := hq
      have hs2 : ∀ b o, gc b = some o → H2 b = some (stay o) := fun b o e => un.frzs b o _ (frzC_some e)
      exact I.after ⟨v, hidC gc H2, os, bare, un_hide un hok (fun b o e => ⟨hnn b o e, (gS b o e).2.1, noF b o e⟩), hok_hid hok hs2, rv, q⟩
    | next => exact hq.elim
    | brk => exact hq.elim
    | cont => exact hq.elim
/-- g(a, lambda ..: ..) -/
theorem q_lamcall {k k' i : Nat} {js : List Nat} {W : Wish} {Wx : WX} {XT XT' : XA} {x y : Str} {g c P : Addr} {fd : FuncData} {ps : List Str} {ps0 : Arguments} {bd ea : Expr} {sco : Scope} {caps : List Str} {mf : MF} {ma : ME} {p lpos pos : Pos}
    (at_ : At X k' W Wx XT) (F : FnM X.prog X.w X.K X.mg X.base k g fd ps (spM XT' X.K 2 mf)) (hkk : k ≤ k') (hg : Gl X x) (hm : X.mg x = some (.ref g)) (hk : PySem.W.keepIn X.K (.ref g) = true) (hb : Binds X.K fd ps []) (ha : PE X ea (rd X.K W ma))
    (ht : PySem.W.tabIn X.K y = some (c, P)) (hq : X.env.qual = y ++ (".<locals>." : Str)) (TB : LamX.TabB X.base X.mg c P) (hcode : X.env.code = .ref c) (hdef : defaultsOf ps0 X.env = ([], []))
    (hfr : ∀ z ∈ sco.names, z.2 = .free → X.env.scope.names.lookup z.1 = some .cell ∨ X.env.scope.names.lookup z.1 = some .free) (hfn : ∀ y, X.fn y = true)
    (hcap : ∀ x ∈ caps, sco.names.lookup x = some .free ∧ X.env.scope.names.lookup x = some .cell) (hjl : js.length = caps.length) (hjN : ∀ (j i : Nat) (y : Str), js[j]? = some i → caps[j]? = some y → X.N[i]? = some y)
    (hdb : (x == ("__debug__" : Str)) = false := by decide) (he : starEach [ea, .Lambda ps0 bd sco lpos] X.env = (false, eval ea X.env) :: starEach [.Lambda ps0 bd sco lpos] X.env := by rfl) (he2 : starEach [.Lambda ps0 bd sco lpos] X.env = (false, eval (.Lambda ps0 bd sco lpos) X.env) :: starEach [] X.env := by rfl) (hpl : (backTo pos (starEach [.Lambda ps0 bd sco lpos] X.env)).any (·.1) = false := by rfl) :
    PE X (.Call (.Name x p) [ea, .Lambda ps0 bd sco lpos] [] pos) (rd X.K W (lamCall i y ⟨X.env.qual ++ ("<lambda>" : Str), ps0, bd, sco, caps⟩ js mf ma)) := by
  refine ⟨fun pins s σ H Q I h => ?_⟩
  obtain ⟨φ, e, S, g0, p0⟩ := h
  have hl := pe_lamE (i := i) (lpos := lpos) (bd := bd) at_ ht hq TB hcode hdef hfr
  have hA := pa_cons ha (pa_cons hl pa_nil he2) he
  refine wpAny_Call_Name_kw (ld_glob I hg hm ?_ hdb)
  refine PySem.W.callWith_K (h₀ := X.base) I.ok.mod.kin hk (thn (hA.run pos pins s σ H (fun vs H2 => ∃ d v S1 cs φ1 f c' pm ctv, (ma e S) = .ok d S1 ∧ (S1[i]? : Option Cell) = some (.tab y) ∧ capsOf e js = some cs ∧ φ <+: φ1 ∧ Keep H H2 ∧
      H2 f = some (stay (PySem.W.kla_obj "<lambda>" (X.env.qual ++ ("<lambda>" : Str)) ps0 bd sco (cloFrom X.env.cells sco.names []) pm c' ctv)) ∧ H2 c' = some (LamX.CodeO c' (X.env.qual ++ ("<lambda>" : Str))) ∧ StOk X.K (φ1 ++ [f]) H2 (S1 ++ [.dead]) ∧ StOk X.K φ1 H2 S1 ∧ vs = [v, .ref f] ∧ RepV X.K (φ1 ++ [f]) H2 d v ∧ EnvOk X.K (φ1 ++ [f]) H2 σ e) I ?_) fun us s2 q => ?_) he hpl
  · refine ⟨φ, e, S, g0, ?_⟩
    unfold lamCall at p0
    cases hm : ma e S with
    | bad => rw [hm] at p0; exact p0
    | exc y2 S2 => rw [hm] at p0; exact p0
    | ok d S1 =>
      rw [hm] at p0
      dsimp only [R.bind] at p0
      intro φ1 H1 v q1 k1 st1 rv
      split at p0
      · rename_i z cs hS1 hcs
        split at p0
        · rename_i ez
          subst ez
          refine ⟨φ1, S1, st1, hS1, fun f c' pm ctv H2 hf hc k2 st2 st3 => ⟨d, v, S1, cs, φ1, f, c', pm, ctv, rfl, hS1, hcs, q1, k1.trans k2, hf, hc, st2, st3, rfl, rv.mono (pre_push f) k2, g0.env.mono (q1.trans (pre_push f)) (k1.trans k2)⟩⟩
        · exact p0.elim
      · exact p0.elim
  · obtain ⟨vs, H2, I2, r, d, v, S1, cs, φ1, f, c', pm, ctv, hma, hS1, hcs, q1, k1, hf, hc, st2, st3, rfl, rv, ev⟩ := q
    refine ⟨I2.kIn, run_lam (n0 := S1.length) (js := js) (caps := cs) (l := ⟨X.env.qual ++ ("<lambda>" : Str), ps0, bd, sco, caps⟩) (ds := [d, .ref S1.length]) (at_.room.mono hkk) at_.gu F hb hfn rfl (fun z hz e => ?_) hcap hjl hjN I2 ev hcs hf hc st2 rfl (st3.at_new f) r (.cons rv (.cons (RepV.mkRef (st3.at_new f)) .nil)) rfl ?_ ⟨φ1, rfl, st3⟩⟩
    · rcases hfr z hz e with q | q
      · exact I2.ok.has _ (.inl q)
      · exact I2.ok.has _ (.inr q)
    · unfold lamCall at p0
      rw [hma] at p0
      dsimp only [R.bind] at p0
      rw [hS1, hcs] at p0
      dsimp only at p0
      rw [if_pos rfl] at p0
      unfold finN at p0
      split at p0
      · rename_i d2 S3 hmf
        exact ⟨d2, S3, hmf, fun φ' H' v q k st rv => p0 φ' H' v ((q1.trans (pre_push f)).trans q) (k1.trans k) st rv⟩
      · exact p0.elim
end
end Mi

namespace Mi
open PySem PySem.Spec PyProof.Rows L2

/-! ### a def with one keyword-only parameter behind the others: called without it, and with it -/
structure BindK (K : PySem.W.Frag) (fd : FuncData) (ps : List Str) (n : Nat) (kw : Str) (d0 : D) : Prop where
  ex : ∃ (v0 : V) (dv : Value), RelV v0 dv ∧ (∀ φ H, RepV K φ H d0 v0) ∧ ∀ (s : Shared) (us : List Value), K.In s.heap → us.length = n → BindsTo s fd ⟨us, []⟩ (ps.zip (us ++ [dv]))
  to : ∀ (s : Shared) (us : List Value) (w : Value), K.In s.heap → us.length = n → BindsTo s fd ⟨us, [(kw, w)]⟩ (ps.zip (us ++ [w]))
def argS (ms : ML) (mk : ME) : ML := fun e S => (ms e S).bind fun ds S1 => (mk e S1).bind fun d S2 => .ok (ds ++ [d]) S2
section
variable {X : Cx} {W : Wish} {Wx : WX} {XT : XA} {k n m : Nat} {f : Addr} {fd : FuncData} {ps : List Str} {x kw : Str} {p pos kpos : Pos} {a ke : Expr} {es : List Expr} {ms : ML} {mk : ME} {mf : MF} {d0 : D}
theorem Vals.snoc {vs : List V} {us : List Value} {v : V} {u : Value} (r : Vals vs us) (h : RelV v u) : Vals (vs ++ [v]) (us ++ [u]) := r.append (.cons h .nil)
theorem q_callD (at_ : At X k W Wx XT) (F : FnM X.prog X.w X.K X.mg X.base k f fd ps (spM XT X.K m mf)) (hmn : m = n + 1) (hg : Gl X x) (hm : X.mg x = some (.ref f)) (hk : PySem.W.keepIn X.K (.ref f) = true) (hb : BindK X.K fd ps n kw d0) (ha : PA X (a :: es) (rdL X.K W ms))
    (hl : ∀ e S ds S1, ms e S = .ok ds S1 → ds.length = n) (hdb : (x == ("__debug__" : Str)) = false := by decide) (he : starEach (a :: es) X.env = (false, eval a X.env) :: starEach es X.env := by rfl) (hpl : (backTo pos (starEach es X.env)).any (·.1) = false := by rfl) :
    PE X (.Call (.Name x p) (a :: es) [] pos) (rd X.K W (callV (fun ds S => mf (ds ++ [d0]) S) ms)) := by
  refine ⟨fun pins s σ H Q I h => ?_⟩
  obtain ⟨v0, dv, r0, rep0, to0⟩ := hb.ex
  refine wpAny_Call_Name_kw (ld_glob I hg hm ?_ hdb)
  have h1 := ha.run pos pins s σ H _ I (rd_call at_.lk h hl)
  refine PySem.W.callWith_K (h₀ := X.base) I.ok.mod.kin hk (thn h1 fun us s1 ⟨vs, H1, I1, r, q⟩ => ⟨I1.kIn, ?_⟩) he hpl
  obtain ⟨φ, ds, S, st, rl, hn, pc⟩ := q
  have hul : us.length = n := by rw [← r.length, rl.len, hn]
  refine wpAny_call (codeAny_mono (F.go X.A X.stack s1 H1 ⟨us, []⟩ (us ++ [dv]) (vs ++ [v0]) Q (WE Wx σ) at_.room at_.gu I1.env0 (to0 s1 us I1.kIn hul) (Vals.snoc r r0) ⟨φ, ds ++ [d0], S, st, rl.append (.cons (rep0 _ _) .nil), by rw [List.length_append, hn, hmn]; rfl, pc⟩) fun res s' hq => ?_)
  cases res with
  | error e => exact passAt at_.tk σ pins H1 s1 e s' I1 hq
  | ok fl =>
    cases fl with
    | ret u => exact I1.after hq
    | next => exact hq.elim
    | brk => exact hq.elim
    | cont => exact hq.elim
theorem q_callKw (at_ : At X k W Wx XT) (F : FnM X.prog X.w X.K X.mg X.base k f fd ps (spM XT X.K m mf)) (hmn : m = n + 1) (hg : Gl X x) (hm : X.mg x = some (.ref f)) (hk : PySem.W.keepIn X.K (.ref f) = true) (hb : BindK X.K fd ps n kw d0) (ha : PA X (a :: es) (rdL X.K W ms)) (hke : PE X ke (rd X.K W mk))
    (hl : ∀ e S ds S1, ms e S = .ok ds S1 → ds.length = n) (hdb : (x == ("__debug__" : Str)) = false := by decide) (hall : (backToKw pos (keywordEach [⟨some kw, ke, kpos⟩] X.env)).all (·.1.isSome) = true := by rfl) (hks : (backToKw pos (keywordEach [⟨some kw, ke, kpos⟩] X.env)).filterMap (·.1) = [kw] := by rfl)
    (he : starEach (a :: es) X.env = (false, eval a X.env) :: starEach es X.env := by rfl) (hpl : ((backTo pos (starEach (a :: es) X.env)).any (·.1) || (backToKw pos (keywordEach [⟨some kw, ke, kpos⟩] X.env)).any (·.1.isNone)) = false := by rfl) :
    PE X (.Call (.Name x p) (a :: es) [⟨some kw, ke, kpos⟩] pos) (rd X.K W (callV mf (argS ms mk))) := by
  refine ⟨fun pins s σ H Q I h => ?_⟩
  refine wpAny_Call_Name_kw (ld_glob I hg hm ?_ hdb)
  have hl2 : ∀ e S ds S1, argS ms mk e S = .ok ds S1 → ds.length = m := fun e S ds S1 q => by
    unfold argS at q
    cases h1 : ms e S with
    | bad => rw [h1] at q; cases q
    | exc _ _ => rw [h1] at q; cases q
    | ok da S2 =>
      simp only [h1, R.bind] at q
      cases h2 : mk e S2 with
      | bad => rw [h2] at q; cases q
      | exc _ _ => rw [h2] at q; cases q
      | ok d S3 =>
        simp only [h2] at q
        cases q
        rw [List.length_append, hl _ _ _ _ h1, hmn]
        rfl
  obtain ⟨φ, e, S, g, p0⟩ := rd_call at_.lk h hl2
  have h1 : (rdL X.K W ms) σ H fun vs H1 => (tCons (rd X.K W mk) tNil) σ H1 fun zs H2 => ∃ z, zs = [z] ∧ spM XT X.K m mf (vs ++ [z]) H2 Q (WE Wx σ) := by
    refine bindG g p0 fun ds S1 φ1 H1 vs e1 k1 g1 rl p1 => ?_
    refine bindG g1 p1 fun d S2 φ2 H2 v e2 k2 g2 rv p2 => ?_
    refine ⟨v, rfl, ?_⟩
    have rl2 : RepL X.K φ2 H2 ds vs := rl.mono e2 k2
    exact p2 φ2 H2 (vs ++ [v]) (List.prefix_refl _) (Keep.refl _) g2.st (rl2.append (.cons rv .nil))
  refine PySem.W.callWith_KW (h₀ := X.base) I.ok.mod.kin hk hall (thn (ha.run pos pins s σ H _ I h1) fun us s1 ⟨vs, H1, I1, r, q⟩ => ?_) hpl he
  refine thn ((pk_cons (nm := some kw) hke pk_nil).run pos pins s1 σ H1 _ I1 q) fun ws s2 ⟨zs, H2, I2, rz, q2⟩ => ⟨I2.kIn, ?_⟩
  obtain ⟨z, rfl, φ2, ds, S2, st, rl, hn, pc⟩ := q2
  obtain ⟨w, rfl, rw_⟩ := Vals.one rz
  have hvl : vs.length = n := by
    have := rl.len
    rw [List.length_append, hn, hmn] at this
    simpa using this
  have hul : us.length = n := by rw [← r.length, hvl]
  rw [hks]
  refine wpAny_call (codeAny_mono (F.go X.A X.stack s2 H2 ⟨us, [(kw, w)]⟩ (us ++ [w]) (vs ++ [z]) Q (WE Wx σ) at_.room at_.gu I2.env0 (hb.to s2 us w I2.kIn hul) (Vals.snoc r rw_) ⟨φ2, ds, S2, st, rl, hn, pc⟩) fun res s' hq => ?_)
  cases res with
  | error e => exact passAt at_.tk σ pins H2 s2 e s' I2 hq
  | ok fl =>
    cases fl with
    | ret u => exact I2.after hq
    | next => exact hq.elim
    | brk => exact hq.elim
    | cont => exact hq.elim
end
end Mi

namespace Mi
open PySem PySem.Spec PyProof.Rows L2

theorem LamM.up {P : Program} {w : World} {K : PySem.W.Frag} {mg : Str → Option Value} {base : Heap} {j k : Nat} {l : LamI} {n : Nat} {mf : List D → MF} (F : LamM P w K mg base j l n mf) (h : j ≤ k) : LamM P w K mg base k l n mf :=
  fun A outer s H f us vs Q φ S i caps ds hr => F A outer s H f us vs Q φ S i caps ds (hr.mono h)
theorem lamHas_by {l : LamI} (h : (l.scope.names.all fun y => !decide (y.2 = .free) || decide (y.1 ∈ l.caps)) = true) : ∀ y ∈ l.scope.names, y.2 = .free → y.1 ∈ l.caps := fun y hy e => by
  have z := List.all_eq_true.mp h y hy
  rw [Bool.or_eq_true] at z
  rcases z with z | z
  · rw [e] at z
    exact absurd z (by decide)
  · exact of_decide_eq_true z
def lamFrB (sc : Scope) (l : LamI) : Bool := l.scope.names.all fun y => !decide (y.2 = .free) || decide (sc.names.lookup y.1 = some .cell) || decide (sc.names.lookup y.1 = some .free)
theorem lamFr_by {sc : Scope} {l : LamI} (h : lamFrB sc l = true) : ∀ z ∈ l.scope.names, z.2 = .free → sc.names.lookup z.1 = some .cell ∨ sc.names.lookup z.1 = some .free := fun y hy e => by
  have z := List.all_eq_true.mp h y hy
  rw [Bool.or_eq_true, Bool.or_eq_true] at z
  rcases z with (z | z) | z
  · rw [e] at z
    exact absurd z (by decide)
  · exact .inl (of_decide_eq_true z)
  · exact .inr (of_decide_eq_true z)
def lamCapB (sc : Scope) (l : LamI) : Bool := l.caps.all fun x => decide (l.scope.names.lookup x = some .free) && decide (sc.names.lookup x = some .cell)
theorem lamCap_by {sc : Scope} {l : LamI} (h : lamCapB sc l = true) : ∀ x ∈ l.caps, l.scope.names.lookup x = some .free ∧ sc.names.lookup x = some .cell := fun y hy => by
  have z := List.all_eq_true.mp h y hy
  rw [Bool.and_eq_true] at z
  exact ⟨of_decide_eq_true z.1, of_decide_eq_true z.2⟩
def lamIxB (N : List Str) : List Nat → List Str → Bool
  | [], [] => true
  | j :: js, x :: xs => decide (N[j]? = some x) && lamIxB N js xs
  | _, _ => false
theorem lamIx_by {N : List Str} : ∀ {js : List Nat} {xs : List Str}, lamIxB N js xs = true → js.length = xs.length ∧ ∀ (j i : Nat) (y : Str), js[j]? = some i → xs[j]? = some y → N[i]? = some y
  | [], [], _ => ⟨rfl, fun j i y e => by cases e⟩
  | [], _ :: _, h => by cases h
  | _ :: _, [], h => by cases h
  | j :: js, x :: xs, h => by
    unfold lamIxB at h
    rw [Bool.and_eq_true] at h
    obtain ⟨h1, h2⟩ := lamIx_by h.2
    refine ⟨by rw [List.length_cons, List.length_cons, h1], fun q i y e1 e2 => ?_⟩
    cases q with
    | zero =>
      cases e1
      cases e2
      exact of_decide_eq_true h.1
    | succ q => exact h2 q i y e1 e2
theorem at_lamC {P : Program} {w : World} {K : PySem.W.Frag} {mg : Str → Option Value} {base : Heap} {N : List Str} {l : LamI} {f c_ : Addr} {cl : List (Str × Addr)} {A : Around} {outer : List Env} {s : Shared} {H HX : Hp} {k : Nat} {XT : XA} (gu : A.guards = some []) (hr : Room k (A.deeper (PySem.W.envX l.qual l.scope s.heap.objs.size f (.ref c_) cl))) :
    At (lamC P w K mg base N l f c_ cl A outer s H HX) k noExc (fun _ _ _ _ => False) XT := ⟨hr, gu, takes0, link0⟩
theorem q_lamcall2 {X : Cx} {k k' i : Nat} {js : List Nat} {W : Wish} {Wx : WX} {XT XT' : XA} {x y : Str} {g c P : Addr} {fd : FuncData} {ps : List Str} {ps0 : Arguments} {bd ea : Expr} {sco : Scope} {caps : List Str} {mf : MF} {ma : ME} {p lpos pos : Pos} {l : LamI}
    (at_ : At X k' W Wx XT) (F : FnM X.prog X.w X.K X.mg X.base k g fd ps (spM XT' X.K 2 mf)) (hkk : k ≤ k') (hg : Gl X x) (hm : X.mg x = some (.ref g)) (hk : PySem.W.keepIn X.K (.ref g) = true) (hb : Binds X.K fd ps []) (ha : PE X ea (rd X.K W ma))
    (ht : PySem.W.tabIn X.K y = some (c, P)) (hq : X.env.qual = y ++ (".<locals>." : Str)) (TB : LamX.TabB X.base X.mg c P) (hcode : X.env.code = .ref c) (hdef : defaultsOf ps0 X.env = ([], []))
    (h1 : lamFrB X.env.scope l = true) (hfn : ∀ y, X.fn y = true) (h2 : lamCapB X.env.scope l = true) (h3 : lamIxB X.N js l.caps = true) (hl : l = ⟨X.env.qual ++ ("<lambda>" : Str), ps0, bd, sco, caps⟩)
    (hdb : (x == ("__debug__" : Str)) = false := by decide) (he : starEach [ea, .Lambda ps0 bd sco lpos] X.env = (false, eval ea X.env) :: starEach [.Lambda ps0 bd sco lpos] X.env := by rfl) (he2 : starEach [.Lambda ps0 bd sco lpos] X.env = (false, eval (.Lambda ps0 bd sco lpos) X.env) :: starEach [] X.env := by rfl) (hpl : (backTo pos (starEach [.Lambda ps0 bd sco lpos] X.env)).any (·.1) = false := by rfl) :
    PE X (.Call (.Name x p) [ea, .Lambda ps0 bd sco lpos] [] pos) (rd X.K W (lamCall i y l js mf ma)) := by
  subst hl
  obtain ⟨a1, a2⟩ := lamIx_by h3
  exact q_lamcall at_ F hkk hg hm hk hb ha ht hq TB hcode hdef (lamFr_by h1) hfn (lamCap_by h2) a1 a2 hdb he he2 hpl
end Mi

namespace Mi
open PySem PySem.Spec PyProof.Rows L2

/-! ### sum of a list or a tuple of whole numbers -/
def sumTD : F1 := fun ds S => match ds with
  | [d] => match intsO S d with
    | some (_, is) => .ok (.int is.sum) S
    | _ => .bad
  | _ => .bad
def rSumT (X : Cx) : List V → Hp → VK → Prop := fun vs H Q => rSum X.K vs H Q ∨ ∃ (a : Addr) (is : List Int), vs = [V.ref a] ∧ SqT X.K H a (is.map V.int) ∧ Q (.int is.sum) H
section
variable {X : Cx}
theorem cr_sumT (hc : X.calm = true) : CallR X (.builtin "sum") (rSumT X) := by
  intro pins s σ H vs us Q I r h
  rcases h with h | ⟨a, is, rfl, hs, q⟩
  · exact cr_sum hc pins s σ H vs us Q I r h
  obtain ⟨its, rv, hl, _⟩ := I.tuple hs
  rw [Vals.ref1 r]
  obtain ⟨xs, e⟩ := (Vals.ints rv).allInts.items
  have hn : numsOf (intItems xs).toList = is := by rw [← e]; exact (Vals.ints rv).numsOf
  rw [nums_intItems] at hn
  rw [e] at hl
  refine PySem.W.ktm_sumG (I.ok.hd hc) hl fun h' tk t' hk => ?_
  refine ⟨.int is.sum, H, I.kept hk, ⟨t', ?_⟩, q⟩
  have hz := List.take_of_length_le (l := xs.toList.map (·.1)) (i := xs.size) (by simp)
  rw [preSum_eq, hz, hn]
theorem sumT_rule : RuleC X.K sumTD (rSumT X) := by
  intro W φ σ H e S Q xs ds st r p
  unfold sumTD at p
  split at p
  · rename_i d
    obtain ⟨v, rfl, rv⟩ := r.one
    split at p
    · rename_i b is h
      obtain ⟨a, rfl, ⟨_, s⟩ | ⟨_, s⟩⟩ := intsO_ok st rv h
      · exact .inl ⟨a, is, rfl, s, p.give st .mkInt⟩
      · exact .inr ⟨a, is, rfl, s, p.give st .mkInt⟩
    · exact p.elim
  · exact p.elim
end
end Mi

namespace Mi.B
open PySem PySem.Spec L2
variable {s : SysF} {S : Store} {n : Nat}

/-! ### optima, forms -/
def SysF.mn (s : SysF) (f : Nat → Int) : Int := minL (fl s.n f)
theorem fl_ne (hs : s.Ok) (f : Nat → Int) : fl s.n f ≠ [] := by
  intro e
  have := congrArg List.length e
  have := hs.n2
  simp at *
  omega
theorem mn_le {f : Nat → Int} {i : Nat} (hi : i < s.n) : s.mn f ≤ f i := minL_le _ (List.mem_map.mpr ⟨i, List.mem_range.mpr hi, rfl⟩)
theorem mn_mem (hs : s.Ok) (f : Nat → Int) : ∃ i, i < s.n ∧ s.mn f = f i := by
  have := minL_mem (fl_ne hs f)
  simp only [fl, List.mem_map, List.mem_range] at this
  obtain ⟨i, hi, e⟩ := this
  exact ⟨i, hi, e.symm⟩
theorem mn_is (f : Nat → Int) {m : Int} {i : Nat} (hi : i < s.n) (e : f i = m) (h : ∀ j < s.n, m ≤ f j) : s.mn f = m :=
  minL_is (List.mem_map.mpr ⟨i, List.mem_range.mpr hi, e⟩) fun x hx => by
    simp only [fl, List.mem_map, List.mem_range] at hx
    obtain ⟨j, hj, rfl⟩ := hx
    exact h j hj
theorem min1_wD (hs : s.Ok) (f : Nat → Int) : min1D [wD s f] S = .ok (.int (s.mn f)) S := min1_tup (fl_ne hs f)
def oL (s : SysF) (q : List Nat) (k : Nat) : List Int := (List.range (k + 1)).map fun k => s.mn (waF s (q.take k))
def OP (s : SysF) (q : List Nat) (S : Store) (k : Nat) (e : Vs) (S' : Store) : Prop := Gr S S' ∧ S'[S.length]? = some (.lst ((oL s q k).map D.int)) ∧ ∃ a, e = [some s.d, some (seqD q), some (wD s (waF s (q.take k))), some (.ref S.length), a]
theorem optima_at (hs : s.Ok) {q : List Nat} (hq : ∀ r ∈ q, r < s.m) (hl : q.length ≤ 1000) : wpR (f_optima_of_prefixes [s.d, seqD q] S) fun d S' => d = intsD (oL s q q.length) ∧ Gr S S' := by
  simp only [f_optima_of_prefixes, b_optima_of_prefixes, wp_run, wp_seq, wp_ifS]
  simp [begin_work_at hs, min1_wD hs]
  simp [seqD_eq]
  refine wp_forL (OP s q S) ⟨Gr.app _ _, by rw [get_last]; simp [oL, waF], none, by simp [waF, seqD_eq]⟩ (fun _ _ _ _ => rfl) ?_ ?_
  · rintro k d e S1 hd ⟨g1, h1, a, rfl⟩
    have hk : k < q.length := by simpa using (List.getElem?_eq_some_iff.mp hd).1
    obtain ⟨r, hrk⟩ : ∃ r, q[k]? = some r := ⟨_, List.getElem?_eq_getElem hk⟩
    have hd' : d = natD r := by
      rw [List.getElem?_map, hrk] at hd; simpa using hd.symm
    subst hd'
    simp [natD]
    refine wpR_mono (advance_work_at hs (hq r (List.mem_of_getElem? hrk))) ?_
    rintro _ S2 ⟨rfl, g2⟩
    have h2 := g2.get h1
    have e : q.take (k + 1) = q.take k ++ [r] := by rw [List.take_add_one, hrk]; rfl
    simp [min1_wD hs, h2]
    rw [if_pos (by simp [oL]; omega), wp_ok]
    refine ⟨(g1.trans g2).set (Nat.le_refl _), ?_, some (.int r), by rw [e, waF_snoc]⟩
    rw [set_get h2]
    have eo : oL s q (k + 1) = oL s q k ++ [s.mn (s.nw (waF s (q.take k)) r)] := by
      unfold oL
      rw [List.range_succ, List.map_append]
      simp [e, waF_snoc]
    rw [eo, List.map_append]
    rfl
  · rintro e S1 ⟨g1, h1, a, rfl⟩
    rw [List.length_map] at h1 ⊢
    simp [tupOfD, h1]
    exact ⟨rfl, g1⟩
theorem oL_last (q : List Nat) (h : oL s q q.length ≠ []) : (oL s q q.length).getLast h = s.mn (waF s q) := by
  have : oL s q q.length = ((List.range q.length).map fun k => s.mn (waF s (q.take k))) ++ [s.mn (waF s q)] := by
    unfold oL
    rw [List.range_succ, List.map_append]
    simp
  simp only [this]
  simp
theorem optimum_at (hs : s.Ok) {q : List Nat} (hq : ∀ r ∈ q, r < s.m) (hl : q.length ≤ 400) : wpR (f_optimum [s.d, seqD q] S) fun d S' => d = .int (s.mn (waF s q)) ∧ Gr S S' := by
  simp only [f_optimum, b_optimum, wp_run, wp_seq, wp_ifS]
  simp [check_system_at hs, check_sequence_at hq hl]
  refine wpR_mono (optima_at hs hq (by omega)) ?_
  rintro _ S1 ⟨rfl, g1⟩
  have hne : oL s q q.length ≠ [] := by simp [oL]
  have : ixD (intsD (oL s q q.length)) (.int (-1)) S1 = .ok (.int (s.mn (waF s q))) S1 := by
    unfold intsD
    rw [ix_tup_ap, atI_last (by simpa using hne), List.getLast_map, oL_last q hne]
  simp [this, g1]
theorem prefix_optima_at (hs : s.Ok) {q : List Nat} (hq : ∀ r ∈ q, r < s.m) (hl : q.length ≤ 400) : wpR (f_prefix_optima [s.d, seqD q] S) fun d S' => d = intsD (oL s q q.length) ∧ Gr S S' := by
  simp only [f_prefix_optima, b_prefix_optima, wp_run, wp_seq, wp_ifS]
  simp [check_system_at hs, check_sequence_at hq hl]
  exact optima_at hs hq (by omega)
def fmD (s : SysF) (f : Nat → Int) : D := .tup [wD s (fun i => f i - s.mn f), .int (s.mn f)]
theorem split_work_at (hs : s.Ok) (f : Nat → Int) : wpR (f_split_work [wD s f] S) fun d S' => d = fmD s f ∧ Gr S S' := by
  have hn := hs.n10
  simp only [f_split_work, b_split_work, wp_run, wp_seq, wp_ifS]
  simp [min1_wD hs]
  simp [wD_tabl]
  refine wp_lcM (fun d => match d with
    | .int i => .int (i - s.mn f)
    | _ => .non) (by simp; omega) (fun _ _ => rfl) ?_ ?_
  · intro d S1 hd g1
    obtain ⟨i, hi, rfl⟩ := tabl_mem hd
    simp [wipeE, Gr.refl]
  · intro J
    have e : (tabl s.n fun i => D.int (f i)).map (fun d => match d with
      | .int i => D.int (i - s.mn f)
      | _ => .non) = (fl s.n fun i => f i - s.mn f).map D.int := by simp [tabl, fl]
    rw [e]
    have h := Gr.last S (Cell.lst ((fl s.n fun i => f i - s.mn f).map D.int)) J
    have g := Gr.app S (Cell.lst ((fl s.n fun i => f i - s.mn f).map D.int) :: J)
    generalize S ++ Cell.lst ((fl s.n fun i => f i - s.mn f).map D.int) :: J = S1 at *
    simp [tupOfD, h]
    exact ⟨rfl, g⟩
theorem form_of_at (hs : s.Ok) {f : Nat → Int} (hf : WorkF s f) : wpR (f_form_of [s.d, wD s f] S) fun d S' => d = fmD s f ∧ Gr S S' := by
  simp only [f_form_of, b_form_of, wp_run, wp_seq, wp_ifS]
  simp [check_system_at hs, check_work_at hs hf]
  exact split_work_at hs f
theorem check_form_at (hs : s.Ok) {f : Nat → Int} (hf : WorkF s f) (h0 : s.mn f = 0) : f_check_form [s.d, wD s f] S = .ok .non S := by
  have e : f_fits_form [s.d, wD s f] S = .ok (.bl true) S := by
    simp only [f_fits_form, b_fits_form]
    rw [runB_ap]
    simp [retS_ap, exS_ok, fits_work_at hs hf, min1_wD hs, h0]
  simp only [f_check_form, b_check_form]
  rw [runB_ap]
  simp [ifS_ap, e, nxS_ap, exS_ok]
theorem advance_form_at (hs : s.Ok) {f : Nat → Int} {r : Nat} (hr : r < s.m) : wpR (f_advance_form [s.d, wD s f, .int r] S) fun d S' => d = fmD s (s.nw f r) ∧ Gr S S' := by
  simp only [f_advance_form, b_advance_form, wp_run, wp_seq, wp_ifS]
  simp
  refine wpR_mono (advance_work_at hs hr) ?_
  rintro _ S1 ⟨rfl, g1⟩
  refine wpR_mono (split_work_at hs _) ?_
  rintro _ S2 ⟨rfl, g2⟩
  exact ⟨rfl, g1.trans g2⟩
theorem next_form_at (hs : s.Ok) {f : Nat → Int} (hf : WorkF s f) (h0 : s.mn f = 0) {r : Nat} (hr : r < s.m) : wpR (f_next_form [s.d, wD s f, .int r] S) fun d S' => d = fmD s (s.nw f r) ∧ Gr S S' := by
  simp only [f_next_form, b_next_form, wp_run, wp_seq, wp_ifS]
  simp [check_system_at hs, check_form_at hs hf h0, check_request_at hr]
  exact advance_form_at hs hr
/-! what moves with what -/
theorem nw_shift (hs : s.Ok) {f : Nat → Int} {c : Int} {r t : Nat} (hr : r < s.m) : s.nw (fun i => f i - c) r t = s.nw f r t - c := by
  obtain ⟨i, hi, ho, e⟩ := nw_mem hs (f := f) (t := t) hr
  obtain ⟨j, hj, hp, e2⟩ := nw_mem hs (f := fun i => f i - c) (t := t) hr
  have h1 := nw_le (f := f) (t := t) hj hp
  have h2 := nw_le (f := fun i => f i - c) (t := t) hi ho
  omega
theorem nw_mono (hs : s.Ok) {f g : Nat → Int} {c : Int} {r t : Nat} (hr : r < s.m) (h : ∀ i < s.n, f i ≤ g i + c) : s.nw f r t ≤ s.nw g r t + c := by
  obtain ⟨i, hi, ho, e⟩ := nw_mem hs (f := g) (t := t) hr
  have h1 := nw_le (f := f) (t := t) hi ho
  have h2 := h i hi
  omega
theorem mn_shift (hs : s.Ok) {f : Nat → Int} {c : Int} : s.mn (fun i => f i - c) = s.mn f - c := by
  obtain ⟨i, hi, e⟩ := mn_mem hs f
  exact mn_is _ hi (by rw [e]) fun j hj => by have := mn_le (f := f) hj; omega
theorem form_work (hs : s.Ok) {f : Nat → Int} (hf : WorkF s f) : WorkF s (fun i => f i - s.mn f) := by
  refine ⟨fun i hi => ?_, fun i hi j hj => ?_⟩
  · have := mn_le (f := f) hi; show 0 ≤ f i - s.mn f; omega
  · have := hf.2 i hi j hj; show f j - s.mn f ≤ f i - s.mn f + s.sw i j; omega
theorem form_mn (hs : s.Ok) {f : Nat → Int} : s.mn (fun i => f i - s.mn f) = 0 := by rw [mn_shift hs]; omega
theorem al_sub {r : Nat} : ∀ i ∈ s.al r, i < s.n := fun i hi => (SysF.al_mem.mp hi).1
theorem nw_congr {f g : Nat → Int} {r t : Nat} (h : ∀ i < s.n, f i = g i) : s.nw f r t = s.nw g r t := by
  unfold SysF.nw
  congr 1
  exact List.map_congr_left fun i hi => by rw [h i (al_sub i hi)]
end Mi.B

namespace Mi.B
open PySem PySem.Spec L2
variable {s : SysF} {S : Store} {n : Nat}

/-! ### drawn work functions -/
def Top (f : Nat → Int) (k : Nat) (B : Int) : Prop := ∀ i < k, 0 ≤ f i ∧ f i ≤ B
def BIG : Int := 10 ^ 30 + 5000
theorem BIG_le {i : Int} (h0 : -1000000 ≤ i) (h : i ≤ BIG + 1000000) : i.natAbs ≤ 10 ^ 40 := by
  have h1 : (10 ^ 30 + 5000 : Nat) + 1000000 ≤ 10 ^ 40 := by decide +kernel
  have h2 : BIG = ((10 ^ 30 + 5000 : Nat) : Int) := by decide +kernel
  rw [h2] at h
  generalize (10 ^ 30 + 5000 : Nat) = a at *
  generalize (10 ^ 40 : Nat) = b at *
  have : 1000000 ≤ b := by omega
  omega
def low (s : SysF) (en : Nat → Int) (t : Nat) : Int := minL ((List.range s.n).map fun i => en i + s.sw i t)
theorem low_work (hs : s.Ok) {en : Nat → Int} {B : Int} (h : Top en s.n B) : WorkF s (low s en) ∧ Top (low s en) s.n B := by
  have hn : 0 < s.n := by have := hs.n2; omega
  have hne : ∀ t, ((List.range s.n).map fun i => en i + s.sw i t) ≠ [] := fun t z => by
    have := congrArg List.length z
    simp at this; omega
  have le : ∀ t i, i < s.n → low s en t ≤ en i + s.sw i t := fun t i hi => minL_le _ (List.mem_map.mpr ⟨i, List.mem_range.mpr hi, rfl⟩)
  have at' : ∀ t, ∃ i, i < s.n ∧ low s en t = en i + s.sw i t := fun t => by
    have := minL_mem (hne t)
    obtain ⟨i, hi, e⟩ := List.mem_map.mp this
    exact ⟨i, List.mem_range.mp hi, e.symm⟩
  refine ⟨⟨fun t ht => ?_, fun t ht u hu => ?_⟩, fun t ht => ⟨?_, ?_⟩⟩
  · obtain ⟨i, hi, e⟩ := at' t
    have := (h i hi).1; have := hs.nonneg i hi t ht; omega
  · obtain ⟨i, hi, e⟩ := at' t
    have := le u i hi
    have := hs.tri i hi t ht u hu
    omega
  · obtain ⟨i, hi, e⟩ := at' t
    have := (h i hi).1; have := hs.nonneg i hi t ht; omega
  · have := le t t ht
    have := (h t ht).2
    have := hs.diag t ht
    omega
def geD (xs : List D) (i : Nat) : Int := geti xs i
def AO (s : SysF) (en : Nat → Int) (n m q tp : Nat) (b : Int) (A : Store) (k : Nat) (e : Vs) (S' : Store) : Prop := Gr A S' ∧ S'[m]? = some (.lst (tabl s.n fun i => .int (en i))) ∧ S'[q]? = some (.lst ((fl k (low s en)).map D.int)) ∧
  ∃ x y, e = [some (.ref n), some s.d, some (.int s.n), some (.int tp), some (.int b), some (.ref m), x, some (.ref q), y]
theorem any_work (hs : s.Ok) (h : Strm n S) : wpR (f_law_any_work [.ref n, s.d] S) fun d S' => Ext n S S' ∧ ∃ f, d = wD s f ∧ WorkF s f ∧ Top f s.n BIG := by
  have hn10 := hs.n10
  have hn2 := hs.n2
  have hl := h.lt
  simp only [f_law_any_work, b_law_any_work, wp_run, wp_seq, wp_ifS]
  simp [SysF.tabD]
  have x0 := Ext.app h [Cell.lst [.int 2, .int 4, .int 30, .int 3000]]
  have e0 : (S ++ [Cell.lst [.int 2, .int 4, .int 30, .int 3000]])[S.length]? = some (.lst [.int 2, .int 4, .int 30, .int 3000]) := get_last
  generalize S ++ [Cell.lst [.int 2, .int 4, .int 30, .int 3000]] = S0 at *
  refine wpR_mono (drawT 4 rfl x0.1 (by decide) (by decide)) ?_
  rintro _ S1 ⟨⟨r1, rfl, hr1⟩, x1, _⟩
  have e1 := x1.get (show S.length ≠ n by omega) e0
  obtain ⟨tp, hix, ht1, ht2⟩ : ∃ tp : Nat, ixD (.ref S.length) (.int r1) S1 = .ok (.int tp) S1 ∧ 2 ≤ tp ∧ tp ≤ 3000 := by
    rw [ix_ref_ap, e1]
    have : r1 = 0 ∨ r1 = 1 ∨ r1 = 2 ∨ r1 = 3 := by omega
    rcases this with rfl | rfl | rfl | rfl
    · exact ⟨2, rfl, by decide, by decide⟩
    · exact ⟨4, rfl, by decide, by decide⟩
    · exact ⟨30, rfl, by decide, by decide⟩
    · exact ⟨3000, rfl, by decide, by decide⟩
  rw [hix]
  simp
  rw [if_pos (by decide +kernel)]
  simp only [wp_ok]
  have y1 := x0.trans x1
  have y2 := y1.appR [Cell.lst [.int 0, .int 0, .int 1, .int 1000000000000000000000000000000]]
  have e2 : (S1 ++ [Cell.lst [.int 0, .int 0, .int 1, .int 1000000000000000000000000000000]])[S1.length]? = some (.lst [.int 0, .int 0, .int 1, .int 1000000000000000000000000000000]) := get_last
  have hl1 := y1.1.lt
  generalize S1 ++ [Cell.lst [.int 0, .int 0, .int 1, .int 1000000000000000000000000000000]] = S2 at *
  refine wpR_mono (drawT 4 rfl y2.1 (by decide) (by decide)) ?_
  rintro _ S3 ⟨⟨r2, rfl, hr2⟩, x3, _⟩
  have e3 := x3.get (show S1.length ≠ n by omega) e2
  obtain ⟨b, hib, hb1, hb2⟩ : ∃ b : Int, ixD (.ref S1.length) (.int r2) S3 = .ok (.int b) S3 ∧ 0 ≤ b ∧ b + 5000 ≤ BIG := by
    rw [ix_ref_ap, e3]
    have : r2 = 0 ∨ r2 = 1 ∨ r2 = 2 ∨ r2 = 3 := by omega
    rcases this with rfl | rfl | rfl | rfl
    · exact ⟨0, rfl, by decide, by decide +kernel⟩
    · exact ⟨0, rfl, by decide, by decide +kernel⟩
    · exact ⟨1, rfl, by decide, by decide +kernel⟩
    · exact ⟨_, rfl, by decide, by decide +kernel⟩
  rw [hib]
  simp only [wp_ok]
  have y3 := y2.trans x3
  rw [src1_nat (n := s.n) (S1 := S3) (by simp) (by omega)]
  simp only [wp_ok]
  refine wp_lcD y3.1 (fun d => ∃ v : Int, d = .int v ∧ 0 ≤ v ∧ v ≤ BIG) (by rw [rangeD_len]; omega) ?_ ?_
  · intro d S4 hd x4
    simp [wipeE]
    refine wpR_mono (drawT tp rfl x4.1 (by omega) (by omega)) ?_
    rintro _ S5 ⟨⟨v, rfl, hv⟩, x5, _⟩
    simp
    exact ⟨x5, by omega, by omega⟩
  · rintro acc S4 x4 hacc hal hP
    rw [rangeD_len] at hal
    have y4 := y3.trans x4
    have key : ∀ i < s.n, acc[i]? = some (.int (geti acc i)) ∧ 0 ≤ geti acc i ∧ geti acc i ≤ BIG := fun i hi => by
      have hx : acc[i]? = some acc[i] := List.getElem?_eq_getElem (by omega)
      obtain ⟨v, e, h1, h2⟩ := hP _ (List.getElem_mem (by omega : i < acc.length))
      have : geti acc i = v := by unfold geti; rw [hx, e]
      rw [this, hx, e]; exact ⟨rfl, h1, h2⟩
    have hat : acc = tabl s.n fun i => .int (geti acc i) := tabl_of hal fun i hi => (key i hi).1
    generalize geti acc = en at *
    subst hat
    obtain ⟨lw, lt⟩ := low_work hs (en := en) (B := BIG) fun i hi => (key i hi).2
    have k4 := (Gr.app S4 [.lst []]).get hacc
    have k5 : (S4 ++ [Cell.lst []])[S4.length]? = some (.lst []) := get_last
    have hlt := get_lt hacc
    rw [src1_nat (n := s.n) (S1 := S4 ++ [.lst []]) (by simp) (by omega)]
    simp only [wp_ok]
    refine wp_forR (AO s en n S3.length S4.length tp b S4) ⟨Gr.app _ _, k4, by simpa [fl] using k5, _, _, rfl⟩ ?_ ?_
    · rintro t e S5 ht ⟨g5, m1, m2, x, y, rfl⟩
      simp [m2]
      rw [src1_nat (n := s.n) (S1 := S5) (by simp) (by omega)]
      simp only [wp_ok]
      refine wp_lcX (fun d => match d with
        | .int i => some (.int (en i.toNat + s.sw i.toNat t))
        | _ => none) (by rw [rangeD_len]; omega) (fun _ _ => rfl) ?_ ?_
      · intro d S6 hd g6
        rw [rangeD0] at hd
        obtain ⟨i, hi, rfl⟩ := tabl_mem hd
        have hx : atI (tabl s.n fun i => D.int (en i)) (i : Int) = some (.int (en i)) := tabl_at hi
        simp [wipeE, natD, ix_ref_ap, g6.get m1, hx, ix_tabD hi, ix_rowD ht]
      · have e6 : (rangeD 0 s.n).filterMap (fun d => match d with
            | .int i => some (D.int (en i.toNat + s.sw i.toNat t))
            | _ => none) = ((List.range s.n).map fun i => en i + s.sw i t).map D.int := by
          rw [rangeD0]
          simp only [tabl]
          induction List.range s.n with
          | nil => rfl
          | cons a l ih =>
            simp only [List.map_cons, List.filterMap_cons, natD, Int.toNat_natCast] at *
            rw [ih]
        have hne : ((List.range s.n).map fun i => en i + s.sw i t) ≠ [] := fun z => by
          have := congrArg List.length z
          simp at this; omega
        simp only [e6]
        rw [min1_lst get_last hne, wp_ok]
        have j1 := (Gr.app S5 [.lst (((List.range s.n).map fun i => en i + s.sw i t).map D.int)]).get m1
        have j2 := (Gr.app S5 [.lst (((List.range s.n).map fun i => en i + s.sw i t).map D.int)]).get m2
        have g7 := g5.appR [.lst (((List.range s.n).map fun i => en i + s.sw i t).map D.int)]
        generalize S5 ++ [Cell.lst (((List.range s.n).map fun i => en i + s.sw i t).map D.int)] = S7 at *
        simp only [j2]
        rw [if_pos (by simp; omega), wp_ok]
        refine ⟨g7.set (Nat.le_refl _), ?_, ?_, _, _, rfl⟩
        · rw [List.getElem?_set_ne (by omega)]; exact j1
        · rw [set_get j2]
          simp [fl, List.range_succ, low]
    · rintro e S5 ⟨g5, m1, m2, x, y, rfl⟩
      simp [tupOfD, m2]
      exact ⟨y4.trans (g5.ext y4.1), _, rfl, lw, lt⟩
def Wm (n : Nat) (S : Store) (k b : Nat) (d : D) : Prop := ∃ w, wt n S 0 k d = some w ∧ w ≤ b
theorem Wm.ext {S S' : Store} {k b : Nat} {d : D} (h : Wm n S k b d) (e : Ext n S S') : Wm n S' k b d := by
  obtain ⟨w, h, hw⟩ := h; exact ⟨w, wt_ext e h, hw⟩
theorem Wm.le {k b c : Nat} {d : D} (h : Wm n S k b d) (hb : b ≤ c) : Wm n S k c d := by
  obtain ⟨w, h, i⟩ := h; exact ⟨w, h, by omega⟩
theorem Wm.up {k j b : Nat} {d : D} (h : Wm n S k b d) (hk : k ≤ j) : Wm n S j b d := by
  obtain ⟨w, h, i⟩ := h; exact ⟨w, wt_mono (fun _ _ _ e => e) (Nat.le_refl _) k j d w hk h, i⟩
theorem Wm.tup {k b l : Nat} {ds : List D} (h : ∀ x ∈ ds, Wm n S k b x) (hl : ds.length ≤ l) : Wm n S (k + 1) (60 + l * b) (.tup ds) := by
  obtain ⟨w, h, i⟩ := wt_tup h
  exact ⟨w, h, Nat.le_trans i (Nat.add_le_add_left (Nat.mul_le_mul_right _ hl) _)⟩
theorem Wm.lst {k b l m : Nat} {ds : List D} (hm : m ≠ n) (e : S[m]? = some (.lst ds)) (h : ∀ x ∈ ds, Wm n S k b x) (hl : ds.length ≤ l) : Wm n S (k + 1) (60 + l * b) (.ref m) := by
  obtain ⟨ws, g1, g2⟩ := wt_list ds h
  refine ⟨60 + ws.sum, ?_, Nat.le_trans (Nat.add_le_add_left g2 _) (Nat.add_le_add_left (Nat.mul_le_mul_right _ hl) _)⟩
  unfold wt
  rw [if_neg hm, e]
  exact Option.map_eq_some_iff.mpr ⟨ws, g1, rfl⟩
theorem Wm.int {k : Nat} {i : Int} (h : i.natAbs ≤ 10 ^ 40) : Wm n S (k + 1) 60 (.int i) := wt_int h
theorem Wm.non {k : Nat} : Wm n S (k + 1) 60 .non := ⟨60, rfl, Nat.le_refl _⟩
theorem Wm.bl {k : Nat} (b : Bool) : Wm n S (k + 1) 60 (.bl b) := ⟨60, rfl, Nat.le_refl _⟩
theorem Wm.str {k : Nat} : Wm n S (k + 1) 60 (.str (Str.ofString "0")) := ⟨60, by unfold wt; rw [if_pos (.inr (.inl rfl))], Nat.le_refl _⟩
theorem Wm.small {k : Nat} {i : Int} (h0 : -1000000000 ≤ i) (h1 : i ≤ 1000000000) : Wm n S (k + 1) 60 (.int i) := .int (small_le (b := 1000000000) (by omega) (by decide))
theorem Wm.fine {k b : Nat} {d : D} (h : Wm n S k b d) (hk : k ≤ 60) (hb : b ≤ 100000) : Fine S d := by
  obtain ⟨w, h, hw⟩ := h
  obtain ⟨p, h1, h2, h3, h4⟩ := wt_ok (by decide) k d w h
  refine ⟨p, toR_le hk h1, ?_⟩
  simp [okShow, h2]
  omega
def Cw (n : Nat) (S : Store) (d : D) : Prop := Wm n S 5 20000 d ∧ ∀ xs, d = .tup xs → xs.length ≤ 100
theorem Cw.ext {S S' : Store} {d : D} (h : Cw n S d) (e : Ext n S S') : Cw n S' d := ⟨h.1.ext e, h.2⟩
theorem Cw.work (hs : s.Ok) {f : Nat → Int} (h : Top f s.n BIG) : Cw n S (wD s f) := by
  have hn10 := hs.n10
  refine ⟨((Wm.tup (k := 1) (b := 60) (l := 10) (fun x hx => ?_) (by simpa using hn10)).up (by decide)).le (by decide), fun xs e => ?_⟩
  · simp [fl] at hx
    obtain ⟨i, hi, rfl⟩ := hx
    exact .int (BIG_le (by have := (h i hi).1; omega) (by have := (h i hi).2; omega))
  · have := congrArg (fun d => match d with | D.tup l => l.length | _ => 0) e
    simp [wD, intsD] at this
    omega
theorem changed_work (hs : s.Ok) {f : Nat → Int} (hf : Top f s.n BIG) (h : Strm n S) : wpR (f_law_changed_work [.ref n, wD s f] S) fun d S' => Ext n S S' ∧ Cw n S' d := by
  have hn10 := hs.n10
  have hn2 := hs.n2
  have hl := h.lt
  simp only [f_law_changed_work, b_law_changed_work, wp_run, wp_seq, wp_ifS]
  simp
  refine wpR_mono (drawT s.n rfl h (by omega) (by omega)) ?_
  rintro _ S1 ⟨⟨j, rfl, hj⟩, x1, _⟩
  simp [ix_wD hj]
  rw [if_pos (by decide +kernel), wp_ok]
  generalize hodds : [D.non, D.bl true, D.int (-1), D.str (Str.ofString "0"), D.tup [], D.int 0, D.int 10000000000000000000000000000000000000000, D.int (f j + 1), D.int (f j + 1000), D.int (f j - 1)] = odds
  have wodds : ∀ S, ∀ x ∈ odds, Wm n S 4 60 x := fun S x hx => by
    obtain ⟨f0, f1⟩ := hf j hj
    rw [← hodds] at hx
    simp only [List.mem_cons, List.not_mem_nil, or_false] at hx
    rcases hx with rfl | rfl | rfl | rfl | rfl | rfl | rfl | rfl | rfl | rfl
    · exact .non
    · exact .bl _
    · exact .small (by decide) (by decide)
    · exact .str
    · exact (Wm.tup (k := 3) (b := 0) (l := 0) (by simp) (by simp)).le (by decide)
    · exact .small (by decide) (by decide)
    · exact .int (by decide +kernel)
    · exact .int (BIG_le (by omega) (by omega))
    · exact .int (BIG_le (by omega) (by omega))
    · exact .int (BIG_le (by omega) (by omega))
  have lodds : odds.length = 10 := by rw [← hodds]; rfl
  have x2 := x1.appR [Cell.lst odds]
  have e2 : (S1 ++ [Cell.lst odds])[S1.length]? = some (.lst odds) := get_last
  have hl1 := x1.1.lt
  generalize S1 ++ [Cell.lst odds] = S2 at *
  refine wpR_mono (drawT 10 rfl x2.1 (by decide) (by decide)) ?_
  rintro _ S3 ⟨⟨r, rfl, hr⟩, x3, _⟩
  have e3 := x3.get (show S1.length ≠ n by omega) e2
  have hix : ixD (.ref S1.length) (.int r) S3 = .ok odds[r] S3 := by
    rw [ix_ref_ap, e3]
    simp only [atI_nat' (show r < odds.length by omega), List.getElem?_eq_getElem (show r < odds.length by omega)]
  rw [hix, wp_ok]
  have wo : ∀ S, Wm n S 4 60 odds[r] := fun S => wodds S _ (List.getElem_mem _)
  generalize odds[r] = odd at *
  have y3 := x2.trans x3
  obtain ⟨T, hT, wT3, hTl⟩ : ∃ T : List D, wD s f = .tup T ∧ (∀ S, ∀ x ∈ T, Wm n S 3 60 x) ∧ T.length = s.n := by
    refine ⟨(fl s.n f).map D.int, rfl, fun S x hx => ?_, by simp⟩
    simp [fl] at hx
    obtain ⟨i, hi, rfl⟩ := hx
    exact .int (BIG_le (by have := (hf i hi).1; omega) (by have := (hf i hi).2; omega))
  rw [hT]
  have wT : ∀ S, ∀ x ∈ T, Wm n S 4 60 x := fun S x hx => (wT3 S x hx).up (by decide)
  obtain ⟨m, hm⟩ : ∃ m, ∀ S : Store, slD (.tup T) (some (j : Int)) (some ((j : Int) + 1)) S = .ok (.tup ((T.drop j).take m)) S := sl_mid rfl rfl
  have hjT : j ≤ T.length := by omega
  have l1 : ∀ j, (T.take j).length ≤ 10 := fun j => by rw [List.length_take]; omega
  have l2 : ∀ j, (T.drop j).length ≤ 10 := fun j => by rw [List.length_drop]; omega
  have l3 : ((T.drop j).take m).length ≤ 10 := by have := l2 j; rw [List.length_take]; omega
  have l11 := l1 j
  have l22 := l2 (j + 1)
  have ad : ∀ (a b : List D) (S : Store), a.length + b.length ≤ 100 → addD (.tup a) (.tup b) S = .ok (.tup (a ++ b)) S := fun a b S h => by rw [add_tup, if_pos (by omega)]
  have lst : ∀ S, lstOfD [.tup T] S = .ok (.ref S.length) (S ++ [.lst T]) := fun S => rfl
  have sd : ∀ S : Store, slD (.tup T) (some ((j : Int) + 1)) none S = .ok (.tup (T.drop (j + 1))) S := fun S => sl_drop (j := j + 1) (by omega)
  rw [sl_to hjT, wp_ok, ad _ _ _ (by simp; omega), wp_ok, sd, wp_ok, ad _ _ _ (by simp; omega), wp_ok, sl_to hjT, wp_ok, sd, wp_ok, ad _ _ _ (by omega), wp_ok, hm, wp_ok, ad _ _ _ (by omega), wp_ok, lst, wp_ok]
  simp only [wp_ok]
  have hl3 := y3.1.lt
  have y4 := y3.appR [Cell.lst T]
  have e4 : (S3 ++ [Cell.lst T])[S3.length]? = some (.lst T) := get_last
  have z4 : (S3 ++ [Cell.lst T]).length = S3.length + 1 := by simp
  generalize S3 ++ [Cell.lst T] = S4 at *
  rw [sl_to hjT, wp_ok, ad _ _ _ (by simp; omega), wp_ok, sd, wp_ok, ad _ _ _ (by simp; omega), wp_ok]
  generalize hfour : ([.tup (T.take j ++ [odd] ++ T.drop (j + 1)), .tup (T.take j ++ T.drop (j + 1)), .tup (T ++ (T.drop j).take m), .ref S3.length] : List D) = four
  have y5 := y4.appR [Cell.lst four]
  have e5 : (S4 ++ [Cell.lst four])[S4.length]? = some (.lst four) := get_last
  have e54 := (Gr.app S4 [Cell.lst four]).get e4
  have z5 : (S4 ++ [Cell.lst four]).length = S4.length + 1 := by simp
  generalize S4 ++ [Cell.lst four] = S5 at *
  generalize htwo : ([.tup T.reverse, .tup [.tup T], .non, .tup (T.take j ++ [odd] ++ T.drop (j + 1))] : List D) = two
  have y6 := y5.appR [Cell.lst two]
  have e6 : (S5 ++ [Cell.lst two])[S5.length]? = some (.lst two) := get_last
  have e65 := (Gr.app S5 [Cell.lst two]).get e5
  have e64 := (Gr.app S5 [Cell.lst two]).get e54
  generalize S5 ++ [Cell.lst two] = S6 at *
  have hadd : addD (.ref S4.length) (.ref S5.length) S6 = .ok (.ref S6.length) (S6 ++ [.lst (four ++ two)]) := by
    unfold addD
    simp only [e6, e65]
    rw [if_pos (by rw [← hfour, ← htwo]; simp)]
  rw [hadd, wp_ok]
  have y7 := y6.appR [Cell.lst (four ++ two)]
  have e7 : (S6 ++ [Cell.lst (four ++ two)])[S6.length]? = some (.lst (four ++ two)) := get_last
  have e74 := (Gr.app S6 [Cell.lst (four ++ two)]).get e64
  have hl6 := y6.1.lt
  generalize S6 ++ [Cell.lst (four ++ two)] = S7 at *
  refine wpR_mono (drawT 8 rfl y7.1 (by decide) (by decide)) ?_
  rintro _ S8 ⟨⟨r', rfl, hr'⟩, x8, _⟩
  have e8 := x8.get (show S6.length ≠ n by omega) e7
  have e84 := x8.get (show S3.length ≠ n by omega) e74
  have ll : (four ++ two).length = 8 := by rw [← hfour, ← htwo]; rfl
  have hix : ixD (.ref S6.length) (.int r') S8 = .ok (four ++ two)[r'] S8 := by
    rw [ix_ref_ap, e8]
    simp only [atI_nat' (show r' < (four ++ two).length by omega), List.getElem?_eq_getElem (show r' < (four ++ two).length by omega)]
  rw [hix, wp_ok]
  refine ⟨y7.trans x8, ?_⟩
  have hx := List.getElem_mem (show r' < (four ++ two).length by omega)
  generalize (four ++ two)[r'] = x at *
  have tk : ∀ j, ∀ x ∈ T.take j, Wm n S8 4 60 x := fun j x hx => wT _ x (List.mem_of_mem_take hx)
  have dr : ∀ j, ∀ x ∈ T.drop j, Wm n S8 4 60 x := fun j x hx => wT _ x (List.mem_of_mem_drop hx)
  have ap : ∀ a b : List D, (∀ x ∈ a, Wm n S8 4 60 x) → (∀ x ∈ b, Wm n S8 4 60 x) → ∀ x ∈ a ++ b, Wm n S8 4 60 x := fun a b ha hb x hx => by
    rcases List.mem_append.mp hx with h | h
    · exact ha x h
    · exact hb x h
  have fin : ∀ a : List D, (∀ x ∈ a, Wm n S8 4 60 x) → a.length ≤ 100 → Cw n S8 (.tup a) := fun a h hl => ⟨(Wm.tup (k := 4) (b := 60) (l := 100) h hl).le (by decide), fun xs e => by cases e; exact hl⟩
  have one : ∀ x ∈ [odd], Wm n S8 4 60 x := fun x hx => by simp at hx; subst hx; exact wo _
  rw [← hfour, ← htwo] at hx
  simp only [List.mem_append, List.mem_cons, List.not_mem_nil, or_false] at hx
  have c1 : Cw n S8 (.tup (T.take j ++ [odd] ++ T.drop (j + 1))) := fin _ (ap _ _ (ap _ _ (tk j) one) (dr (j + 1))) (by rw [List.length_append, List.length_append]; simp; omega)
  rcases hx with (rfl | rfl | rfl | rfl) | (rfl | rfl | rfl | rfl)
  · exact c1
  · exact fin _ (ap _ _ (tk j) (dr (j + 1))) (by rw [List.length_append]; omega)
  · exact fin _ (ap _ _ (wT _) fun x hx => wT _ x (List.mem_of_mem_drop (List.mem_of_mem_take hx))) (by rw [List.length_append]; omega)
  · exact ⟨(Wm.lst (k := 4) (b := 60) (l := 100) (by omega) e84 (wT _) (by omega)).le (by decide), fun xs e => nomatch e⟩
  · exact fin _ (fun x hx => wT _ x (List.mem_reverse.mp hx)) (by simp; omega)
  · refine ⟨?_, fun xs e => by cases e; simp⟩
    refine (Wm.tup (k := 4) (b := 6060) (l := 1) (fun x hx => ?_) (by simp)).le (by decide)
    simp at hx; subst hx
    exact Wm.tup (k := 3) (b := 60) (l := 100) (wT3 _) (by omega)
  · exact ⟨Wm.non.le (by decide), fun xs e => nomatch e⟩
  · exact c1
end Mi.B

namespace Mi.B
open PySem PySem.Spec L2
variable {s : SysF} {S : Store} {n : Nat}

/-! ### forms -/
theorem max1_tupE {is : List Int} (hne : is ≠ []) : ∃ m, max1D [intsD is] S = .ok (.int m) S ∧ m ∈ is ∧ ∀ x ∈ is, x ≤ m := by
  have : intsO S (intsD is) = some (true, is) := by simp only [intsO, intsD, seqO, intO_all]
  cases is with
  | nil => exact absurd rfl hne
  | cons a as =>
    obtain ⟨h1, h2, h3⟩ := maxI_ge as a
    refine ⟨maxI a as, by simp only [max1D, this], ?_, fun x hx => ?_⟩
    · rcases h3 with h3 | h3
      · rw [h3]; exact List.mem_cons_self
      · exact List.mem_cons_of_mem _ h3
    · rcases List.mem_cons.mp hx with rfl | hx
      · exact h1
      · exact h2 x hx
theorem max1_lstE {m : Nat} {is : List Int} (h : S[m]? = some (.lst (is.map D.int))) (hne : is ≠ []) : ∃ v, max1D [.ref m] S = .ok (.int v) S ∧ v ∈ is ∧ ∀ x ∈ is, x ≤ v := by
  have : intsO S (.ref m) = some (false, is) := by simp only [intsO, seqO, h, intO_all]
  cases is with
  | nil => exact absurd rfl hne
  | cons a as =>
    obtain ⟨h1, h2, h3⟩ := maxI_ge as a
    refine ⟨maxI a as, by simp only [max1D, this], ?_, fun x hx => ?_⟩
    · rcases h3 with h3 | h3
      · rw [h3]; exact List.mem_cons_self
      · exact List.mem_cons_of_mem _ h3
    · rcases List.mem_cons.mp hx with rfl | hx
      · exact h1
      · exact h2 x hx
def pD (is : List Int) (c : Int) : D := .tup [intsD is, .int c]
theorem toP_pair {k : Nat} (is : List Int) (c : Int) : toP S (k + 3) (pD is c) = some (.tuple [.tuple (is.map PyData.int), .int c]) := by
  have a : toP S (k + 2) (intsD is) = some (.tuple (is.map PyData.int)) := by
    unfold intsD toP; simp only [toP_ints]; rfl
  have b : toP S (k + 2) (.int c) = some (.int c) := rfl
  unfold pD toP
  rw [List.map_cons, List.map_cons, List.map_nil, a, b]
  rfl
theorem shaped_pair (is : List Int) (c : Int) : SeqAt.shaped (.tuple [.tuple (is.map PyData.int), .int c]) = true := by
  have := depth_ints is
  simp only [SeqAt.shaped, PyData.canLay0, PyData.canLayAll0, canLay_ints, PyData.depth, PyData.depthAll, Bool.true_and, decide_eq_true_eq]
  simp
  omega
theorem eqB_pair {is js : List Int} {c d : Int} : eqB S (pD is c) (pD js d) = some (decide (is = js) && decide (c = d)) := by
  rw [eqB_of (toP_pair is c) (toP_pair js d) (shaped_pair is c) (shaped_pair js d)]
  simp only [PyData.eqv, PyData.eqvAll, eqv_ints]
  have : (c == d) = decide (c = d) := by by_cases z : c = d <;> simp [z]
  rw [this, Bool.and_true]
theorem fmD_pD (f : Nat → Int) : fmD s f = pD (fl s.n fun i => f i - s.mn f) (s.mn f) := rfl
theorem law_shape_at (hs : s.Ok) (f : Nat → Int) : wpR (f_law_shape [wD s f] S) fun d S' => d = fmD s f ∧ Gr S S' := split_work_at hs f
def FormP (s : SysF) (d : D) : Prop := ∃ f, d = wD s f ∧ WorkF s f ∧ s.mn f = 0
theorem FormP.iff {f : Nat → Int} (hs : s.Ok) (hf : WorkF s f) : FormP s (wD s f) ↔ s.mn f = 0 := by
  constructor
  · rintro ⟨g, e, _, h⟩
    have eq := wD_inj e
    have : s.mn f = s.mn g := by unfold SysF.mn; rw [fl_congr eq]
    rw [this, h]
  · exact fun h => ⟨f, rfl, hf, h⟩
theorem is_form_says (hs : s.Ok) {d : D} (h : Live S d) : ∃ b : Bool, f_is_form [s.d, d] S = .ok (.bl b) S ∧ (b = true ↔ FormP s d) := by
  obtain ⟨b, e, hb⟩ := (fits_work_says hs h).is
  have hf : ∃ c : Bool, f_fits_form [s.d, d] S = .ok (.bl c) S ∧ (c = true ↔ FormP s d) := by
    cases b with
    | false =>
      refine ⟨false, ?_, ⟨fun z => (nomatch z), fun h => by obtain ⟨f, e, w, _⟩ := h; exact absurd (hb.mpr ⟨f, e, w⟩) (by decide)⟩⟩
      simp only [f_fits_form, b_fits_form]
      rw [runB_ap]
      simp [retS_ap, exS_ok, e]
    | true =>
      obtain ⟨f, rfl, w⟩ := hb.mp rfl
      refine ⟨decide (s.mn f = 0), ?_, by rw [decide_eq_true_eq]; exact (FormP.iff hs w).symm⟩
      simp only [f_fits_form, b_fits_form]
      rw [runB_ap]
      simp [retS_ap, exS_ok, e, min1_wD hs]
  obtain ⟨c, e2, hc⟩ := hf
  refine ⟨c, ?_, hc⟩
  simp only [f_is_form, b_is_form]
  rw [runB_ap]
  simp [seqS_ap, exprS_ap, retS_ap, exS_ok, check_system_at hs, e2]
theorem Wt.fm (hs : s.Ok) {f : Nat → Int} (h : ∀ i < s.n, 0 ≤ f i ∧ f i ≤ BIG + 1000000) : Wt S 3 2000 (fmD s f) := by
  refine (Wt.tupL (k := 2) (b := 660) (l := 2) (fun x hx => ?_) (by simp)).le (by decide)
  obtain ⟨j, hj, e⟩ := mn_mem hs f
  have := h j hj
  simp at hx
  rcases hx with rfl | rfl
  · exact Wt.work hs fun i hi => BIG_le (by have := mn_le (f := f) hi; omega) (by have := (h i hi).2; omega)
  · exact (Wt.int (k := 1) (BIG_le (by omega) (by omega))).le (by decide)
theorem shal_fm (f : Nat → Int) : shal 3 (fmD s f) = true := by
  show ([wD s (fun i => f i - s.mn f), .int (s.mn f)] : List D).all (shal 2) = true
  rw [List.all_cons, List.all_cons]
  have : shal 2 (wD s (fun i => f i - s.mn f)) = true := shal_ints (k := 0) _
  rw [this]; rfl
end Mi.B

namespace Mi.B
open PySem PySem.Spec L2
variable {S : Store}

/-! ### == of plain data: numbers, None, texts, tuples of such -/
mutual
def plain : Nat → D → Bool
  | 0, _ => false
  | _ + 1, .non => true
  | _ + 1, .int _ => true
  | _ + 1, .str x => PyData.strOk x
  | k + 1, .tup ds => plainL k ds
  | _ + 1, .bl _ => false
  | _ + 1, .rol _ => false
  | _ + 1, .ref _ => false
  | _ + 1, .ty _ => false
def plainL : Nat → List D → Bool
  | _, [] => true
  | k, d :: ds => plain k d && plainL k ds
end
theorem plainL_iff {k : Nat} : ∀ {ds : List D}, plainL k ds = true ↔ ∀ d ∈ ds, plain k d = true
  | [] => by simp [plainL]
  | d :: ds => by simp [plainL, plainL_iff (ds := ds)]
mutual
def pdD : D → PyData
  | .non => .none
  | .int i => .int i
  | .str x => .str x
  | .tup ds => .tuple (pdL ds)
  | .bl b => .bool b
  | .rol _ => .none
  | .ref _ => .none
  | .ty _ => .none
def pdL : List D → List PyData
  | [] => []
  | d :: ds => pdD d :: pdL ds
end
theorem plain_ok : ∀ (k : Nat) (d : D), plain k d = true → (∀ S, toP S k d = some (pdD d)) ∧ (pdD d).canLay0 = true ∧ (pdD d).depth ≤ k
  | 0, d, h => by cases d <;> simp [plain] at h
  | k + 1, .non, _ => ⟨fun _ => rfl, by simp [pdD, PyData.canLay0], by simp [pdD, PyData.depth]⟩
  | k + 1, .int i, _ => ⟨fun _ => rfl, by simp [pdD, PyData.canLay0], by simp [pdD, PyData.depth]⟩
  | k + 1, .str x, h => ⟨fun _ => rfl, by simpa [pdD, PyData.canLay0, plain] using h, by simp [pdD, PyData.depth]⟩
  | k + 1, .tup ds, h => by
    have all : ∀ ds : List D, plainL k ds = true → (∀ S, optAll (ds.map (toP S k)) = some (pdL ds)) ∧ PyData.canLayAll0 (pdL ds) = true ∧ PyData.depthAll (pdL ds) ≤ k := by
      intro ds
      induction ds with
      | nil => intro _; exact ⟨fun _ => rfl, by simp [pdL, PyData.canLayAll0], by simp [pdL, PyData.depthAll]⟩
      | cons d ds ih =>
        intro h
        rw [plainL, Bool.and_eq_true] at h
        obtain ⟨a1, a2, a3⟩ := plain_ok k d h.1
        obtain ⟨b1, b2, b3⟩ := ih h.2
        refine ⟨fun S => ?_, by simp [pdL, PyData.canLayAll0, a2, b2], by simp [pdL, PyData.depthAll]; omega⟩
        rw [List.map_cons, a1]
        unfold optAll
        rw [b1]
        rfl
    rw [plain] at h
    obtain ⟨b1, b2, b3⟩ := all ds h
    refine ⟨fun S => ?_, by simp [pdD, PyData.canLay0, b2], by simp [pdD, PyData.depth]; omega⟩
    unfold toP
    rw [b1]
    rfl
  | k + 1, .bl _, h => by simp [plain] at h
  | k + 1, .rol _, h => by simp [plain] at h
  | k + 1, .ref _, h => by simp [plain] at h
  | k + 1, .ty _, h => by simp [plain] at h
theorem plain_up : ∀ (k : Nat) (d : D), plain k d = true → plain (k + 1) d = true
  | 0, d, h => by cases d <;> simp [plain] at h
  | k + 1, .non, _ => rfl
  | k + 1, .int i, _ => rfl
  | k + 1, .str x, h => by simpa [plain] using h
  | k + 1, .tup ds, h => by
    rw [plain, plainL_iff] at h ⊢
    exact fun d hd => plain_up k d (h d hd)
  | k + 1, .bl _, h => by simp [plain] at h
  | k + 1, .rol _, h => by simp [plain] at h
  | k + 1, .ref _, h => by simp [plain] at h
  | k + 1, .ty _, h => by simp [plain] at h
theorem plain_le {k j : Nat} {d : D} (hk : k ≤ j) (h : plain k d = true) : plain j d = true := by
  induction hk with
  | refl => exact h
  | step _ ih => exact plain_up _ _ ih
theorem plain_eqv : ∀ (k : Nat) (d d' : D), plain k d = true → plain k d' = true → PyData.eqv (pdD d) (pdD d') = D.beq d d'
  | 0, d, d', h, _ => by cases d <;> simp [plain] at h
  | k + 1, d, d', h, h' => by
    have all : ∀ ds es : List D, plainL k ds = true → plainL k es = true → PyData.eqvAll (pdL ds) (pdL es) = D.beqL ds es := by
      intro ds
      induction ds with
      | nil => intro es _ _; cases es <;> simp [pdL, PyData.eqvAll, D.beqL]
      | cons d ds ih =>
        intro es h1 h2
        cases es with
        | nil => simp [pdL, PyData.eqvAll, D.beqL]
        | cons e es =>
          rw [plainL, Bool.and_eq_true] at h1 h2
          simp only [pdL, PyData.eqvAll, D.beqL]
          rw [plain_eqv k d e h1.1 h2.1, ih es h1.2 h2.2]
    cases d with
    | non => cases d' <;> first | (simp [pdD, PyData.eqv, D.beq]; done) | (simp [plain] at h'; done)
    | int i => cases d' <;> first | (simp [pdD, PyData.eqv, D.beq]; done) | (simp [plain] at h'; done)
    | str x =>
      cases d' with
      | str y => simp only [pdD, PyData.eqv, D.beq]; by_cases z : x = y <;> simp [z]
      | _ => first | (simp [pdD, PyData.eqv, D.beq]; done) | (simp [plain] at h'; done)
    | tup ds =>
      cases d' with
      | tup es =>
        rw [plain] at h h'
        simp only [pdD, PyData.eqv, D.beq]
        exact all ds es h h'
      | _ => first | (simp [pdD, PyData.eqv, D.beq]; done) | (simp [plain] at h'; done)
    | bl _ => simp [plain] at h
    | rol _ => simp [plain] at h
    | ref _ => simp [plain] at h
    | ty _ => simp [plain] at h
theorem eqB_plain {k : Nat} {d d' : D} (hk : k ≤ 62) (h : plain k d = true) (h' : plain k d' = true) : eqB S d d' = some (D.beq d d') := by
  obtain ⟨a1, a2, a3⟩ := plain_ok 62 d (plain_le hk h)
  obtain ⟨b1, b2, b3⟩ := plain_ok 62 d' (plain_le hk h')
  have sh : ∀ {d : D}, (pdD d).canLay0 = true → (pdD d).depth ≤ 62 → SeqAt.shaped (pdD d) = true := fun {d} x y => by
    unfold SeqAt.shaped
    rw [x, decide_eq_true (by omega)]
    rfl
  rw [eqB_of (a1 S) (b1 S) (sh a2 a3) (sh b2 b3), plain_eqv k d d' h h']
theorem eqB_same {k : Nat} {d : D} (hk : k ≤ 62) (h : plain k d = true) : eqB S d d = some true := by rw [eqB_plain hk h h, D.beq_self]
theorem eqB_ne {k : Nat} {d d' : D} (hk : k ≤ 62) (h : plain k d = true) (h' : plain k d' = true) (ne : d ≠ d') : eqB S d d' = some false := by
  rw [eqB_plain hk h h']
  cases e : D.beq d d' with
  | true => exact absurd (D.beq_eq _ _ e) ne
  | false => rfl
theorem plain_seq {k : Nat} (q : List Nat) : plain (k + 2) (seqD q) = true := by
  rw [seqD_eq, plain, plainL_iff]
  intro d hd
  obtain ⟨x, _, rfl⟩ := List.mem_map.mp hd
  rfl
theorem plain_tup {k : Nat} {ds : List D} (h : ∀ d ∈ ds, plain k d = true) : plain (k + 1) (.tup ds) = true := by
  rw [plain, plainL_iff]
  exact h
theorem plain_opt {k : Nat} (o : Option Int) : plain (k + 1) (optD o) = true := by cases o <;> rfl
theorem plain_sys {s : SysF} {k : Nat} : plain (k + 4) s.d = true := by
  refine plain_tup fun d hd => ?_
  simp only [List.mem_cons, List.not_mem_nil, or_false] at hd
  rcases hd with rfl | rfl | rfl
  · refine plain_tup fun d hd => ?_
    obtain ⟨i, _, rfl⟩ := tabl_mem hd
    refine plain_tup fun d hd => ?_
    obtain ⟨j, _, rfl⟩ := tabl_mem hd
    rfl
  · refine plain_tup fun d hd => ?_
    obtain ⟨i, _, rfl⟩ := tabl_mem hd
    refine plain_tup fun d hd => ?_
    obtain ⟨j, _, rfl⟩ := tabl_mem hd
    exact plain_opt _
  · rfl
end Mi.B

namespace Mi.K63
open PySem PySem.Spec L2 Mi.B
noncomputable section
def topS (i : Nat) : Stmt := PySem.Challenge.pw_hindcost_k63_device_systems.main.body.getD i (.Pass ⟨0, 0, 0, 0⟩)
abbrev s_is_integer : Stmt := topS 7
abbrev N_is_integer : List Str := ["value"]
theorem sc_is_integer : FnScope N_is_integer ["value"] (defScope s_is_integer) := ⟨rfl, rfl, rfl, by decide +kernel, rfl, by decide +kernel, by decide +kernel⟩
abbrev s_is_integer_from : Stmt := topS 8
abbrev N_is_integer_from : List Str := ["value", "least", "greatest"]
theorem sc_is_integer_from : FnScope N_is_integer_from ["value", "least", "greatest"] (defScope s_is_integer_from) := ⟨rfl, rfl, rfl, by decide +kernel, rfl, by decide +kernel, by decide +kernel⟩
abbrev s_is_tuple_of : Stmt := topS 9
abbrev N_is_tuple_of : List Str := ["value", "size"]
theorem sc_is_tuple_of : FnScope N_is_tuple_of ["value", "size"] (defScope s_is_tuple_of) := ⟨rfl, rfl, rfl, by decide +kernel, rfl, by decide +kernel, by decide +kernel⟩
abbrev s_are_integers_from : Stmt := topS 10
abbrev N_are_integers_from : List Str := ["value", "least", "greatest", "number"]
theorem sc_are_integers_from : FnScope N_are_integers_from ["value", "least", "greatest"] (defScope s_are_integers_from) := ⟨rfl, rfl, rfl, by decide +kernel, rfl, by decide +kernel, by decide +kernel⟩
abbrev s_is_ascending : Stmt := topS 11
abbrev N_is_ascending : List Str := ["values", "at"]
theorem sc_is_ascending : FnScope N_is_ascending ["values"] (defScope s_is_ascending) := ⟨rfl, rfl, rfl, by decide +kernel, rfl, by decide +kernel, by decide +kernel⟩
abbrev s_check_integer_from : Stmt := topS 12
abbrev N_check_integer_from : List Str := ["value", "least", "greatest"]
theorem sc_check_integer_from : FnScope N_check_integer_from ["value", "least", "greatest"] (defScope s_check_integer_from) := ⟨rfl, rfl, rfl, by decide +kernel, rfl, by decide +kernel, by decide +kernel⟩
abbrev s_table_of : Stmt := topS 14
abbrev N_table_of : List Str := ["states", "cost_between", "old", "new"]
theorem sc_table_of : FnScope N_table_of ["states", "cost_between"] (defScope s_table_of) := ⟨rfl, rfl, rfl, by decide +kernel, rfl, by decide +kernel, by decide +kernel⟩
abbrev s_device_system : Stmt := topS 21
abbrev N_device_system : List Str := ["powers", "wakes", "drop", "levels", "switching", "work"]
theorem sc_device_system : FnScope N_device_system ["powers", "wakes", "drop"] (defScope s_device_system) := ⟨rfl, rfl, rfl, by decide +kernel, rfl, by decide +kernel, by decide +kernel⟩
abbrev s_fits_powers : Stmt := topS 22
abbrev N_fits_powers : List Str := ["value"]
theorem sc_fits_powers : FnScope N_fits_powers ["value"] (defScope s_fits_powers) := ⟨rfl, rfl, rfl, by decide +kernel, rfl, by decide +kernel, by decide +kernel⟩
abbrev s_is_system : Stmt := topS 27
abbrev N_is_system : List Str := ["value", "switching", "requests", "start", "size"]
theorem sc_is_system : FnScope N_is_system ["value"] (defScope s_is_system) := ⟨rfl, rfl, rfl, by decide +kernel, rfl, by decide +kernel, by decide +kernel⟩
abbrev s_switching_cost : Stmt := topS 28
abbrev N_switching_cost : List Str := ["system", "first", "second"]
theorem sc_switching_cost : FnScope N_switching_cost ["system", "first", "second"] (defScope s_switching_cost) := ⟨rfl, rfl, rfl, by decide +kernel, rfl, by decide +kernel, by decide +kernel⟩
abbrev s_fits_switching : Stmt := topS 29
abbrev N_fits_switching : List Str := ["value", "state"]
theorem sc_fits_switching : FnScope N_fits_switching ["value"] (defScope s_fits_switching) := ⟨rfl, rfl, rfl, by decide +kernel, rfl, by decide +kernel, by decide +kernel⟩
abbrev s_fits_switching_row : Stmt := topS 30
abbrev N_fits_switching_row : List Str := ["size", "state", "row", "target", "least", "greatest"]
theorem sc_fits_switching_row : FnScope N_fits_switching_row ["size", "state", "row"] (defScope s_fits_switching_row) := ⟨rfl, rfl, rfl, by decide +kernel, rfl, by decide +kernel, by decide +kernel⟩
abbrev s_holds_triangles : Stmt := topS 31
abbrev N_holds_triangles : List Str := ["switching", "size", "first", "between", "last"]
theorem sc_holds_triangles : FnScope N_holds_triangles ["switching"] (defScope s_holds_triangles) := ⟨rfl, rfl, rfl, by decide +kernel, rfl, by decide +kernel, by decide +kernel⟩
abbrev s_fits_requests : Stmt := topS 32
abbrev N_fits_requests : List Str := ["size", "value", "costs"]
theorem sc_fits_requests : FnScope N_fits_requests ["size", "value"] (defScope s_fits_requests) := ⟨rfl, rfl, rfl, by decide +kernel, rfl, by decide +kernel, by decide +kernel⟩
abbrev s_fits_costs : Stmt := topS 33
abbrev N_fits_costs : List Str := ["size", "value", "allowed", "cost"]
theorem sc_fits_costs : FnScope N_fits_costs ["size", "value"] (defScope s_fits_costs) := ⟨rfl, rfl, rfl, by decide +kernel, rfl, by decide +kernel, by decide +kernel⟩
abbrev s_fits_state : Stmt := topS 34
abbrev N_fits_state : List Str := ["system", "value"]
theorem sc_fits_state : FnScope N_fits_state ["system", "value"] (defScope s_fits_state) := ⟨rfl, rfl, rfl, by decide +kernel, rfl, by decide +kernel, by decide +kernel⟩
abbrev s_check_system : Stmt := topS 35
abbrev N_check_system : List Str := ["system"]
theorem sc_check_system : FnScope N_check_system ["system"] (defScope s_check_system) := ⟨rfl, rfl, rfl, by decide +kernel, rfl, by decide +kernel, by decide +kernel⟩
abbrev s_check_state : Stmt := topS 36
abbrev N_check_state : List Str := ["system", "state"]
theorem sc_check_state : FnScope N_check_state ["system", "state"] (defScope s_check_state) := ⟨rfl, rfl, rfl, by decide +kernel, rfl, by decide +kernel, by decide +kernel⟩
abbrev s_law_stream : Stmt := topS 38
abbrev N_law_stream : List Str := ["_law_script", "_law_at", "_law_cell", "_law_great"]
theorem sc_law_stream : FnScope N_law_stream ["_law_script", "_law_at"] (defScope s_law_stream) := ⟨rfl, rfl, rfl, by decide +kernel, rfl, by decide +kernel, by decide +kernel⟩
abbrev s_law_draw : Stmt := topS 39
abbrev N_law_draw : List Str := ["_law_stream_here", "_law_total", "_law_found", "_law_one", "_law_stir", "_law_two"]
theorem sc_law_draw : FnScope N_law_draw ["_law_stream_here", "_law_total"] (defScope s_law_draw) := ⟨rfl, rfl, rfl, by decide +kernel, rfl, by decide +kernel, by decide +kernel⟩
abbrev s_law_device : Stmt := topS 40
abbrev N_law_device : List Str := ["_law_stream_here", "_law_levels", "_law_power", "_law_powers", "_law_level", "_law_top", "_law_wakes"]
theorem sc_law_device : FnScope N_law_device ["_law_stream_here"] (defScope s_law_device) := ⟨rfl, rfl, rfl, by decide +kernel, rfl, by decide +kernel, by decide +kernel⟩
abbrev s_law_expected : Stmt := topS 41
abbrev N_law_expected : List Str := ["_law_powers", "_law_wakes", "_law_fall", "_law_table", "_law_here", "_law_row", "_law_there", "_law_cost", "_law_level"]
theorem sc_law_expected : FnScope N_law_expected ["_law_powers", "_law_wakes", "_law_fall"] (defScope s_law_expected) := ⟨rfl, rfl, rfl, by decide +kernel, rfl, by decide +kernel, by decide +kernel⟩
abbrev s_law : Stmt := topS 42
abbrev N_law : List Str := ["_law_script", "_law_at", "_law_stream_here", "_law_powers", "_law_wakes", "_law_fall", "_law_before", "_law_system", "_law_last", "_law_down", "_law_up", "_law_level", "_law_table"]
theorem sc_law : FnScope N_law ["_law_script"] (defScope s_law) := ⟨rfl, rfl, rfl, by decide +kernel, rfl, by decide +kernel, by decide +kernel⟩
set_option maxHeartbeats 0 in
structure Facts (K : PySem.W.Frag) (mg : Str → Option Value) where
  a_is_integer : Addr
  d_is_integer : FuncData
  F_is_integer : Fun K "is_integer" "is_integer" s_is_integer a_is_integer d_is_integer
  b_is_integer : Binds K d_is_integer ["value"] []
  g_is_integer : mg "is_integer" = some (.ref a_is_integer)
  a_is_integer_from : Addr
  d_is_integer_from : FuncData
  F_is_integer_from : Fun K "is_integer_from" "is_integer_from" s_is_integer_from a_is_integer_from d_is_integer_from
  b_is_integer_from : Binds K d_is_integer_from ["value", "least", "greatest"] []
  g_is_integer_from : mg "is_integer_from" = some (.ref a_is_integer_from)
  a_is_tuple_of : Addr
  d_is_tuple_of : FuncData
  F_is_tuple_of : Fun K "is_tuple_of" "is_tuple_of" s_is_tuple_of a_is_tuple_of d_is_tuple_of
  b_is_tuple_of : Binds K d_is_tuple_of ["value", "size"] []
  g_is_tuple_of : mg "is_tuple_of" = some (.ref a_is_tuple_of)
  a_are_integers_from : Addr
  d_are_integers_from : FuncData
  F_are_integers_from : Fun K "are_integers_from" "are_integers_from" s_are_integers_from a_are_integers_from d_are_integers_from
  b_are_integers_from : Binds K d_are_integers_from ["value", "least", "greatest"] []
  g_are_integers_from : mg "are_integers_from" = some (.ref a_are_integers_from)
  a_is_ascending : Addr
  d_is_ascending : FuncData
  F_is_ascending : Fun K "is_ascending" "is_ascending" s_is_ascending a_is_ascending d_is_ascending
  b_is_ascending : Binds K d_is_ascending ["values"] []
  g_is_ascending : mg "is_ascending" = some (.ref a_is_ascending)
  a_check_integer_from : Addr
  d_check_integer_from : FuncData
  F_check_integer_from : Fun K "check_integer_from" "check_integer_from" s_check_integer_from a_check_integer_from d_check_integer_from
  b_check_integer_from : Binds K d_check_integer_from ["value", "least", "greatest"] []
  g_check_integer_from : mg "check_integer_from" = some (.ref a_check_integer_from)
  a_table_of : Addr
  d_table_of : FuncData
  F_table_of : Fun K "table_of" "table_of" s_table_of a_table_of d_table_of
  b_table_of : Binds K d_table_of ["states", "cost_between"] []
  g_table_of : mg "table_of" = some (.ref a_table_of)
  a_device_system : Addr
  d_device_system : FuncData
  F_device_system : Fun K "device_system" "device_system" s_device_system a_device_system d_device_system
  b_device_system : BindK K d_device_system ["powers", "wakes", "drop"] 2 "drop" (.int 1)
  g_device_system : mg "device_system" = some (.ref a_device_system)
  cc_device_system : Addr
  P_device_system : Addr
  tb_device_system : PySem.W.tabIn K "device_system" = some (cc_device_system, P_device_system)
  cd_device_system : d_device_system.code = .ref cc_device_system
  a_fits_powers : Addr
  d_fits_powers : FuncData
  F_fits_powers : Fun K "fits_powers" "fits_powers" s_fits_powers a_fits_powers d_fits_powers
  b_fits_powers : Binds K d_fits_powers ["value"] []
  g_fits_powers : mg "fits_powers" = some (.ref a_fits_powers)
  a_is_system : Addr
  d_is_system : FuncData
  F_is_system : Fun K "is_system" "is_system" s_is_system a_is_system d_is_system
  b_is_system : Binds K d_is_system ["value"] []
  g_is_system : mg "is_system" = some (.ref a_is_system)
  a_switching_cost : Addr
  d_switching_cost : FuncData
  F_switching_cost : Fun K "switching_cost" "switching_cost" s_switching_cost a_switching_cost d_switching_cost
  b_switching_cost : Binds K d_switching_cost ["system", "first", "second"] []
  g_switching_cost : mg "switching_cost" = some (.ref a_switching_cost)
  a_fits_switching : Addr
  d_fits_switching : FuncData
  F_fits_switching : Fun K "fits_switching" "fits_switching" s_fits_switching a_fits_switching d_fits_switching
  b_fits_switching : Binds K d_fits_switching ["value"] []
  g_fits_switching : mg "fits_switching" = some (.ref a_fits_switching)
  a_fits_switching_row : Addr
  d_fits_switching_row : FuncData
  F_fits_switching_row : Fun K "fits_switching_row" "fits_switching_row" s_fits_switching_row a_fits_switching_row d_fits_switching_row
  b_fits_switching_row : Binds K d_fits_switching_row ["size", "state", "row"] []
  g_fits_switching_row : mg "fits_switching_row" = some (.ref a_fits_switching_row)
  a_holds_triangles : Addr
  d_holds_triangles : FuncData
  F_holds_triangles : Fun K "holds_triangles" "holds_triangles" s_holds_triangles a_holds_triangles d_holds_triangles
  b_holds_triangles : Binds K d_holds_triangles ["switching"] []
  g_holds_triangles : mg "holds_triangles" = some (.ref a_holds_triangles)
  a_fits_requests : Addr
  d_fits_requests : FuncData
  F_fits_requests : Fun K "fits_requests" "fits_requests" s_fits_requests a_fits_requests d_fits_requests
  b_fits_requests : Binds K d_fits_requests ["size", "value"] []
  g_fits_requests : mg "fits_requests" = some (.ref a_fits_requests)
  a_fits_costs : Addr
  d_fits_costs : FuncData
  F_fits_costs : Fun K "fits_costs" "fits_costs" s_fits_costs a_fits_costs d_fits_costs
  b_fits_costs : Binds K d_fits_costs ["size", "value"] []
  g_fits_costs : mg "fits_costs" = some (.ref a_fits_costs)
  a_fits_state : Addr
  d_fits_state : FuncData
  F_fits_state : Fun K "fits_state" "fits_state" s_fits_state a_fits_state d_fits_state
  b_fits_state : Binds K d_fits_state ["system", "value"] []
  g_fits_state : mg "fits_state" = some (.ref a_fits_state)
  a_check_system : Addr
  d_check_system : FuncData
  F_check_system : Fun K "check_system" "check_system" s_check_system a_check_system d_check_system
  b_check_system : Binds K d_check_system ["system"] []
  g_check_system : mg "check_system" = some (.ref a_check_system)
  a_check_state : Addr
  d_check_state : FuncData
  F_check_state : Fun K "check_state" "check_state" s_check_state a_check_state d_check_state
  b_check_state : Binds K d_check_state ["system", "state"] []
  g_check_state : mg "check_state" = some (.ref a_check_state)
  a_law_stream : Addr
  d_law_stream : FuncData
  F_law_stream : Fun K "_law_stream" "_law_stream" s_law_stream a_law_stream d_law_stream
  b_law_stream : Binds K d_law_stream ["_law_script", "_law_at"] []
  g_law_stream : mg "_law_stream" = some (.ref a_law_stream)
  a_law_draw : Addr
  d_law_draw : FuncData
  F_law_draw : Fun K "_law_draw" "_law_draw" s_law_draw a_law_draw d_law_draw
  b_law_draw : Binds K d_law_draw ["_law_stream_here", "_law_total"] []
  g_law_draw : mg "_law_draw" = some (.ref a_law_draw)
  a_law_device : Addr
  d_law_device : FuncData
  F_law_device : Fun K "_law_device" "_law_device" s_law_device a_law_device d_law_device
  b_law_device : Binds K d_law_device ["_law_stream_here"] []
  g_law_device : mg "_law_device" = some (.ref a_law_device)
  a_law_expected : Addr
  d_law_expected : FuncData
  F_law_expected : Fun K "_law_expected" "_law_expected" s_law_expected a_law_expected d_law_expected
  b_law_expected : Binds K d_law_expected ["_law_powers", "_law_wakes", "_law_fall"] []
  g_law_expected : mg "_law_expected" = some (.ref a_law_expected)
  a_law : Addr
  d_law : FuncData
  F_law : Fun K "law" "law" s_law a_law d_law
  b_law : Binds K d_law ["_law_script"] []
  g_law : mg "law" = some (.ref a_law)
  z_abs : mg "abs" = none
  z_bool : mg "bool" = none
  z_int : mg "int" = none
  z_isinstance : mg "isinstance" = none
  z_len : mg "len" = none
  z_list : mg "list" = none
  z_max : mg "max" = none
  z_min : mg "min" = none
  z_range : mg "range" = none
  z_repr : mg "repr" = none
  z_sum : mg "sum" = none
  z_tuple : mg "tuple" = none
  t_MAX_COST : Tok
  c_MAX_COST : mg "MAX_COST" = some (.int 1000 t_MAX_COST)
  t_MAX_DROP : Tok
  c_MAX_DROP : mg "MAX_DROP" = some (.int 100 t_MAX_DROP)
  t_MAX_LEVELS : Tok
  c_MAX_LEVELS : mg "MAX_LEVELS" = some (.int 4 t_MAX_LEVELS)
  t_MAX_POWER : Tok
  c_MAX_POWER : mg "MAX_POWER" = some (.int 100 t_MAX_POWER)
  t_MAX_REQUESTS : Tok
  c_MAX_REQUESTS : mg "MAX_REQUESTS" = some (.int 8 t_MAX_REQUESTS)
  t_MAX_STATES : Tok
  c_MAX_STATES : mg "MAX_STATES" = some (.int 10 t_MAX_STATES)
  t_MAX_WAKE : Tok
  c_MAX_WAKE : mg "MAX_WAKE" = some (.int 100 t_MAX_WAKE)
  t_MIN_LEVELS : Tok
  c_MIN_LEVELS : mg "MIN_LEVELS" = some (.int 2 t_MIN_LEVELS)
  c_InvalidSystem : Addr
  x_InvalidSystem : ExcF K mg "InvalidSystem" c_InvalidSystem
structure TabsB {K : PySem.W.Frag} {mg : Str → Option Value} (T : Facts K mg) (base : Heap) : Prop where
  t_device_system : LamX.TabB base mg T.cc_device_system T.P_device_system
def XS : List Str := ["InvalidSystem"]
def l_device_system : LamI := match (defBody s_device_system).getD 4 (.Pass ⟨0, 0, 0, 0⟩) with
  | .Assign _ (.Call _ [_, .Lambda a b sc _] _ _) _ => ⟨(("device_system" : Str) ++ (".<locals>." : Str)) ++ ("<lambda>" : Str), a, b, sc, ["wakes", "drop"]⟩
  | _ => ⟨"", defArgs s_device_system, .Constant .none 0 ⟨0, 0, 0, 0⟩, defScope s_device_system, []⟩
def mb_device_system : ME := bin addD (app sumTD (argC (slV (vr 0) (oS (vr 3)) (oS (vr 2))) (argN))) (bin mulD (app max2D (argC (bin subD (vr 3) (vr 2)) (argC (cst (.int 0)) (argN)))) (vr 1))
open Classical in
noncomputable def mfT : LamI → List D → MF := fun l => if l = l_device_system then lamF 0 mb_device_system else fun _ _ _ => .bad
abbrev NL_device_system : List Str := ["wakes", "drop", "old", "new"]
def b_are_integers_from : MS := seqS (ifS (notB (tru (app isiD (argC (vr 0) (argC (cst (.ty "tuple")) (argN)))))) (retS (cst (.bl false))) (nxS)) (seqS (forV (srcV (vr 0)) (tgN 3) (ifS (notB (tru (callV f_is_integer_from (argC (vr 3) (argC (vr 1) (argC (vr 2) (argN))))))) (retS (cst (.bl false))) (nxS))) (retS (cst (.bl true))))
def f_are_integers_from : MF := runB 1 b_are_integers_from
def b_is_ascending : MS := seqS (forV (src2 (argC (cst (.int 1)) (argC (app lenD (argC (vr 0) (argN))) (argN)))) (tgN 1) (ifS (tst (bin geD (bin ixD (vr 0) (bin subD (vr 1) (cst (.int 1)))) (bin ixD (vr 0) (vr 1)))) (retS (cst (.bl false))) (nxS))) (retS (cst (.bl true)))
def f_is_ascending : MF := runB 1 b_is_ascending
def b_check_integer_from : MS := ifS (notB (tru (callV f_is_integer_from (argC (vr 0) (argC (vr 1) (argC (vr 2) (argN))))))) (badS) (nxS)
def f_check_integer_from : MF := runB 0 b_check_integer_from
def b_table_of : MS := retS (app tupOfD (argC (lcV (srcV (vr 0)) (tgN 2) (yesB) (app tupOfD (argC (lcV (srcV (vr 0)) (tgN 3) (yesB) (callF 1 mfT (argC (vr 2) (argC (vr 3) (argN)))) [3]) (argN))) [2]) (argN)))
def f_table_of : MF := runB 2 b_table_of
def b_fits_powers : MS := seqS (ifS (orB (notB (tru (callV f_are_integers_from (argC (vr 0) (argC (cst (.int 0)) (argC (cst (.int 100)) (argN))))))) (notB (tst (chn leD leD (cst (.int 2)) (app lenD (argC (vr 0) (argN))) (cst (.int 4)))))) (retS (cst (.bl false))) (nxS)) (retS (callV f_is_ascending (argC (revV (vr 0)) (argN))))
def f_fits_powers : MF := runB 0 b_fits_powers
def b_device_system : MS := seqS (ifS (notB (tru (callV f_fits_powers (argC (vr 0) (argN))))) (badS) (nxS)) (seqS (ifS (orB (notB (tru (callV f_is_tuple_of (argC (vr 1) (argC (bin subD (app lenD (argC (vr 0) (argN))) (cst (.int 1))) (argN)))))) (notB (tru (callV f_are_integers_from (argC (vr 1) (argC (cst (.int 1)) (argC (cst (.int 100)) (argN)))))))) (badS) (nxS)) (seqS (exprS (callV f_check_integer_from (argC (vr 2) (argC (cst (.int 1)) (argC (cst (.int 100)) (argN)))))) (seqS (setS 3 (app tupOfD (argC (lrgV (app lenD (argC (vr 0) (argN)))) (argN)))) (seqS (setS 4 (lamCall 0 "device_system" l_device_system [1, 2] f_table_of (vr 3))) (seqS (setS 5 (bin addD (mkT (argC (cst (.int 0)) (argN))) (bin mulD (mkT (argC (cst .non) (argN))) (bin subD (app lenD (argC (vr 0) (argN))) (cst (.int 1)))))) (retS (mkT (argC (vr 4) (argC (mkT (argC (vr 5) (argC (vr 0) (argN)))) (argC (cst (.int 0)) (argN)))))))))))
def f_device_system : MF := runB 3 b_device_system
def b_law_device : MS := seqS (setS 1 (bin addD (cst (.int 2)) (callV f_law_draw (argC (vr 0) (argC (cst (.int 3)) (argN)))))) (seqS (parS 2 3 (argC (bin ixD (mkL (argC (cst (.int 100)) (argC (cst (.int 40)) (argC (cst (.int 9)) (argN))))) (callV f_law_draw (argC (vr 0) (argC (cst (.int 3)) (argN))))) (argC (mkL (argN)) (argN)))) (seqS (forV (src1 (argC (vr 1) (argN))) (tgN 4) (seqS (exprS (appV (vr 3) (vr 2))) (setS 2 (bin subD (bin subD (vr 2) (cst (.int 1))) (callV f_law_draw (argC (vr 0) (argC (app max2D (argC (cst (.int 1)) (argC (bin fdivD (bin addD (bin addD (bin subD (vr 2) (vr 1)) (vr 4)) (cst (.int 1))) (cst (.int 2))) (argN)))) (argN)))))))) (seqS (setS 5 (bin ixD (mkL (argC (cst (.int 100)) (argC (cst (.int 5)) (argN)))) (callV f_law_draw (argC (vr 0) (argC (cst (.int 2)) (argN)))))) (seqS (setS 6 (app tupOfD (argC (lcV (src1 (argC (bin subD (vr 1) (cst (.int 1))) (argN))) (tgN 4) (yesB) (bin addD (cst (.int 1)) (callV f_law_draw (argC (vr 0) (argC (vr 5) (argN))))) [4]) (argN)))) (retS (mkT (argC (app tupOfD (argC (vr 3) (argN))) (argC (vr 6) (argC (bin ixD (mkL (argC (cst (.int 1)) (argC (cst (.int 1)) (argC (cst (.int 3)) (argC (cst (.int 100)) (argN)))))) (callV f_law_draw (argC (vr 0) (argC (cst (.int 4)) (argN))))) (argN))))))))))
def f_law_device : MF := runB 6 b_law_device
def b_law_expected : MS := seqS (setS 3 (mkL (argN))) (seqS (forV (src1 (argC (app lenD (argC (vr 0) (argN))) (argN))) (tgN 4) (seqS (setS 5 (mkL (argN))) (seqS (forV (src1 (argC (app lenD (argC (vr 0) (argN))) (argN))) (tgN 6) (seqS (setS 7 (cst (.int 0))) (seqS (forV (src1 (argC (app lenD (argC (vr 1) (argN))) (argN))) (tgN 8) (seqS (ifS (tst (chn leD ltD (vr 4) (vr 8) (vr 6))) (setS 7 (bin addD (vr 7) (vr 2))) (nxS)) (ifS (tst (chn leD ltD (vr 6) (vr 8) (vr 4))) (setS 7 (bin addD (vr 7) (bin ixD (vr 1) (vr 8)))) (nxS)))) (exprS (appV (vr 5) (vr 7)))))) (exprS (appV (vr 3) (app tupOfD (argC (vr 5) (argN)))))))) (retS (mkT (argC (app tupOfD (argC (vr 3) (argN))) (argC (mkT (argC (bin addD (mkT (argC (cst (.int 0)) (argN))) (bin mulD (mkT (argC (cst .non) (argN))) (app lenD (argC (vr 1) (argN))))) (argC (vr 0) (argN)))) (argC (cst (.int 0)) (argN)))))))
def f_law_expected : MF := runB 6 b_law_expected
def b_law : MS := seqS (forV (src1 (argC (app max2D (argC (cst (.int 1)) (argC (app min2D (argC (cst (.int 12)) (argC (app lenD (argC (vr 0) (argN))) (argN)))) (argN)))) (argN))) (tgN 1) (seqS (setS 2 (callV f_law_stream (argC (vr 0) (argC (vr 1) (argN))))) (seqS (asgS (callV f_law_device (argC (vr 2) (argN))) (tgT 3 (tsC (tgN 3) (tsC (tgN 4) (tsC (tgN 5) (tsN)))))) (seqS (setS 6 (app reprD (argC (mkT (argC (vr 3) (argC (vr 4) (argN)))) (argN)))) (seqS (setS 7 (callV f_device_system (argS (argC (vr 3) (argC (vr 4) (argN))) (vr 5)))) (seqS (ifS (orB (tst (bin neD (app reprD (argC (vr 7) (argN))) (app reprD (argC (callV f_law_expected (argC (vr 3) (argC (vr 4) (argC (vr 5) (argN))))) (argN))))) (tst (bin nisD (callV f_is_system (argC (vr 7) (argN))) (cst (.bl true))))) (retS (cst (.bl false))) (nxS)) (seqS (ifS (tst (bin neD (app reprD (argC (callV (fun ds S => f_device_system (ds ++ [.int 1]) S) (argC (vr 3) (argC (vr 4) (argN)))) (argN))) (app reprD (argC (callV f_law_expected (argC (vr 3) (argC (vr 4) (argC (cst (.int 1)) (argN))))) (argN))))) (retS (cst (.bl false))) (nxS)) (seqS (setS 8 (bin subD (app lenD (argC (vr 3) (argN))) (cst (.int 1)))) (seqS (setS 9 (app sum1D (argC (lcV (src1 (argC (vr 8) (argN))) (tgN 11) (yesB) (callV f_switching_cost (argC (vr 7) (argC (vr 11) (argC (bin addD (vr 11) (cst (.int 1))) (argN))))) [11]) (argN)))) (seqS (setS 10 (app sum1D (argC (lcV (src1 (argC (vr 8) (argN))) (tgN 11) (yesB) (callV f_switching_cost (argC (vr 7) (argC (bin addD (vr 11) (cst (.int 1))) (argC (vr 11) (argN))))) [11]) (argN)))) (seqS (ifS (tst (bin neD (mkL (argC (callV f_switching_cost (argC (vr 7) (argC (cst (.int 0)) (argC (vr 8) (argN))))) (argC (callV f_switching_cost (argC (vr 7) (argC (vr 8) (argC (cst (.int 0)) (argN))))) (argN)))) (mkL (argC (vr 9) (argC (vr 10) (argN)))))) (retS (cst (.bl false))) (nxS)) (ifS (tst (bin neD (app reprD (argC (mkT (argC (vr 3) (argC (vr 4) (argN)))) (argN))) (vr 6))) (retS (cst (.bl false))) (nxS))))))))))))) (seqS (ifS (tst (bin neD (callV (fun ds S => f_device_system (ds ++ [.int 1]) S) (argC (mkT (argC (cst (.int 3)) (argC (cst (.int 1)) (argN)))) (argC (mkT (argC (cst (.int 4)) (argN))) (argN)))) (mkT (argC (mkT (argC (mkT (argC (cst (.int 0)) (argC (cst (.int 1)) (argN)))) (argC (mkT (argC (cst (.int 4)) (argC (cst (.int 0)) (argN)))) (argN)))) (argC (mkT (argC (mkT (argC (cst (.int 0)) (argC (cst .non) (argN)))) (argC (mkT (argC (cst (.int 3)) (argC (cst (.int 1)) (argN)))) (argN)))) (argC (cst (.int 0)) (argN))))))) (retS (cst (.bl false))) (nxS)) (seqS (setS 12 (mkT (argC (mkT (argC (cst (.int 0)) (argC (cst (.int 2)) (argC (cst (.int 4)) (argN))))) (argC (mkT (argC (cst (.int 5)) (argC (cst (.int 0)) (argC (cst (.int 2)) (argN))))) (argC (mkT (argC (cst (.int 12)) (argC (cst (.int 7)) (argC (cst (.int 0)) (argN))))) (argN)))))) (retS (bin eqD (callV f_device_system (argS (argC (mkT (argC (cst (.int 100)) (argC (cst (.int 50)) (argC (cst (.int 0)) (argN))))) (argC (mkT (argC (cst (.int 5)) (argC (cst (.int 7)) (argN)))) (argN))) (cst (.int 2)))) (mkT (argC (vr 12) (argC (mkT (argC (mkT (argC (cst (.int 0)) (argC (cst .non) (argC (cst .non) (argN))))) (argC (mkT (argC (cst (.int 100)) (argC (cst (.int 50)) (argC (cst (.int 0)) (argN))))) (argN)))) (argC (cst (.int 0)) (argN)))))))))
def f_law : MF := runB 12 b_law
section
variable {P : Program} {w : World} {K : PySem.W.Frag} {mg : Str → Option Value} {base : Heap} {XT : XA}
theorem lm_device_system (T : Facts K mg) (B : TabsB T base) : LamM P w K mg base 1 l_device_system 2 (lamF 0 mb_device_system) :=
  lam_ok (k := 0) (ps := ["old", "new"]) (ts := []) (N := NL_device_system) (lamW_by (by decide +kernel) rfl) (lamHas_by (by decide +kernel)) (fun _ _ _ _ us hl => match us, hl with | [_, _], _ => rfl) fun f c_ cl A outer s H HX gu hr => by
    have hu := Room.units hr
    have hu2 := room2 hr
    have at_ := at_lamC (P := P) (w := w) (K := K) (mg := mg) (base := base) (N := NL_device_system) (l := l_device_system) (f := f) (c_ := c_) (cl := cl) (outer := outer) (H := H) (HX := HX) (XT := fun _ _ _ _ _ => False) gu hr
    exact q_add (q_callB (cr_sumT (by rfl)) sumT_rule (by rfl) T.z_sum (by decide +kernel) (a_cons (q_slice (q_var 0) (o_some (q_var 3)) (o_some (q_var 2))) (a_nil))) (q_mul (q_callB (call_max2 rfl) max2_rule (by rfl) T.z_max (by decide +kernel) (a_cons (q_sub (q_var 3) (q_var 2)) (a_cons (q_int) (a_nil)))) (q_var 1))
theorem ok_mfT (T : Facts K mg) (B : TabsB T base) : ∀ l, LamM P w K mg base 1 l 2 (mfT l) := fun l => by
  unfold mfT
  split
  · rename_i e
    rw [e]
    exact lm_device_system T B
  · exact lamM_bad
theorem ok_is_integer (T : Facts K mg) (B : TabsB T base) : FnM P w K mg base 1 T.a_is_integer T.d_is_integer ["value"] (spM (XTm mg XS) K 1 f_is_integer) :=
  m_def T.F_is_integer sc_is_integer sp_len fun cdv A outer s H vs Q E hr gu h => by
    have hu := Room.units hr
    have hu2 := room2 hr
    have at_ := at_def (P := P) (w := w) (K := K) (mg := mg) (base := base) (N := N_is_integer) (outer := outer) (H := H) (E := E) (XT := XTm mg XS) hr gu
    exact ⟨rdS K (wishE (XTm mg XS) E) b_is_integer, s_one (s_ret (q_and (q_callB call_isi isi_rule (by rfl) T.z_isinstance (by decide +kernel) (a_cons (q_var 0) (a_cons (q_ty (by rfl) T.z_int (by decide +kernel)) (a_nil)))) (q_one (q_not (q_callB call_isi isi_rule (by rfl) T.z_isinstance (by decide +kernel) (a_cons (q_var 0) (a_cons (q_ty (by rfl) T.z_bool (by decide +kernel)) (a_nil)))))))), body_end (m := 0) rfl h⟩
theorem ok_is_integer_from (T : Facts K mg) (B : TabsB T base) : FnM P w K mg base 2 T.a_is_integer_from T.d_is_integer_from ["value", "least", "greatest"] (spM (XTm mg XS) K 3 f_is_integer_from) :=
  m_def T.F_is_integer_from sc_is_integer_from sp_len fun cdv A outer s H vs Q E hr gu h => by
    have hu := Room.units hr
    have hu2 := room2 hr
    have at_ := at_def (P := P) (w := w) (K := K) (mg := mg) (base := base) (N := N_is_integer_from) (outer := outer) (H := H) (E := E) (XT := XTm mg XS) hr gu
    exact ⟨rdS K (wishE (XTm mg XS) E) b_is_integer_from, s_one (s_ret (q_and (q_call at_ ((ok_is_integer T B).up (by first | decide | omega)) (by rfl) T.g_is_integer T.F_is_integer.kp T.b_is_integer (a_cons (q_var 0) (a_nil)) (argC_len (argN_len))) (q_one (q_chain cp_le cp_le (q_var 1) (q_var 0) (q_var 2))))), body_end (m := 0) rfl h⟩
theorem ok_is_tuple_of (T : Facts K mg) (B : TabsB T base) : FnM P w K mg base 1 T.a_is_tuple_of T.d_is_tuple_of ["value", "size"] (spM (XTm mg XS) K 2 f_is_tuple_of) :=
  m_def T.F_is_tuple_of sc_is_tuple_of sp_len fun cdv A outer s H vs Q E hr gu h => by
    have hu := Room.units hr
    have hu2 := room2 hr
    have at_ := at_def (P := P) (w := w) (K := K) (mg := mg) (base := base) (N := N_is_tuple_of) (outer := outer) (H := H) (E := E) (XT := XTm mg XS) hr gu
    exact ⟨rdS K (wishE (XTm mg XS) E) b_is_tuple_of, s_one (s_ret (q_and (q_callB call_isi isi_rule (by rfl) T.z_isinstance (by decide +kernel) (a_cons (q_var 0) (a_cons (q_ty (by rfl) T.z_tuple (by decide +kernel)) (a_nil)))) (q_one (q_comp (cp_eq hu) (q_callB call_len len_rule (by rfl) T.z_len (by decide +kernel) (a_cons (q_var 0) (a_nil))) (q_var 1))))), body_end (m := 0) rfl h⟩
theorem ok_are_integers_from (T : Facts K mg) (B : TabsB T base) : FnM P w K mg base 3 T.a_are_integers_from T.d_are_integers_from ["value", "least", "greatest"] (spM (XTm mg XS) K 3 f_are_integers_from) :=
  m_def T.F_are_integers_from sc_are_integers_from sp_len fun cdv A outer s H vs Q E hr gu h => by
    have hu := Room.units hr
    have hu2 := room2 hr
    have at_ := at_def (P := P) (w := w) (K := K) (mg := mg) (base := base) (N := N_are_integers_from) (outer := outer) (H := H) (E := E) (XT := XTm mg XS) hr gu
    exact ⟨rdS K (wishE (XTm mg XS) E) b_are_integers_from, s_cons (s_if (t_not (t_val (q_callB call_isi isi_rule (by rfl) T.z_isinstance (by decide +kernel) (a_cons (q_var 0) (a_cons (q_ty (by rfl) T.z_tuple (by decide +kernel)) (a_nil)))))) (s_one (s_ret (q_bool))) (s_nil)) (s_cons (s_for (ps_for (passes_of rfl) rfl (i_val (q_var 0)) (g_name sc_are_integers_from.nd rfl (by first | exact Or.inl rfl | exact Or.inr rfl)) (s_one (s_if (t_not (t_val (q_call at_ ((ok_is_integer_from T B).up (by first | decide | omega)) (by rfl) T.g_is_integer_from T.F_is_integer_from.kp T.b_is_integer_from (a_cons (q_var 3) (a_cons (q_var 1) (a_cons (q_var 2) (a_nil)))) (argC_len (argC_len (argC_len (argN_len))))))) (s_one (s_ret (q_bool))) (s_nil))))) (s_one (s_ret (q_bool)))), body_end (m := 1) rfl h⟩
theorem ok_is_ascending (T : Facts K mg) (B : TabsB T base) : FnM P w K mg base 1 T.a_is_ascending T.d_is_ascending ["values"] (spM (XTm mg XS) K 1 f_is_ascending) :=
  m_def T.F_is_ascending sc_is_ascending sp_len fun cdv A outer s H vs Q E hr gu h => by
    have hu := Room.units hr
    have hu2 := room2 hr
    have at_ := at_def (P := P) (w := w) (K := K) (mg := mg) (base := base) (N := N_is_ascending) (outer := outer) (H := H) (E := E) (XT := XTm mg XS) hr gu
    exact ⟨rdS K (wishE (XTm mg XS) E) b_is_ascending, s_cons (s_for (ps_for (passes_of rfl) rfl (i_rng2 (by rfl) T.z_range (a_cons (q_int) (a_cons (q_callB call_len len_rule (by rfl) T.z_len (by decide +kernel) (a_cons (q_var 0) (a_nil))) (a_nil))) (pi_range2 (by rfl) T.z_range (a_cons (q_int) (a_cons (q_callB call_len len_rule (by rfl) T.z_len (by decide +kernel) (a_cons (q_var 0) (a_nil))) (a_nil))))) (g_name sc_is_ascending.nd rfl (by first | exact Or.inl rfl | exact Or.inr rfl)) (s_one (s_if (t_comp cp_ge (q_ix (q_var 0) (q_sub (q_var 1) (q_int))) (q_ix (q_var 0) (q_var 1))) (s_one (s_ret (q_bool))) (s_nil))))) (s_one (s_ret (q_bool))), body_end (m := 1) rfl h⟩
theorem ok_check_integer_from (T : Facts K mg) (B : TabsB T base) : FnM P w K mg base 3 T.a_check_integer_from T.d_check_integer_from ["value", "least", "greatest"] (spM (XTm mg XS) K 3 f_check_integer_from) :=
  m_def T.F_check_integer_from sc_check_integer_from sp_len fun cdv A outer s H vs Q E hr gu h => by
    have hu := Room.units hr
    have hu2 := room2 hr
    have at_ := at_def (P := P) (w := w) (K := K) (mg := mg) (base := base) (N := N_check_integer_from) (outer := outer) (H := H) (E := E) (XT := XTm mg XS) hr gu
    exact ⟨rdS K (wishE (XTm mg XS) E) b_check_integer_from, s_one (s_if (t_not (t_val (q_call at_ ((ok_is_integer_from T B).up (by first | decide | omega)) (by rfl) T.g_is_integer_from T.F_is_integer_from.kp T.b_is_integer_from (a_cons (q_var 0) (a_cons (q_var 1) (a_cons (q_var 2) (a_nil)))) (argC_len (argC_len (argC_len (argN_len))))))) (s_one (s_bad)) (s_nil)), body_end (m := 0) rfl h⟩
theorem ok_table_of (T : Facts K mg) (B : TabsB T base) : FnM P w K mg base 3 T.a_table_of T.d_table_of ["states", "cost_between"] (spM (XTm mg XS) K 2 f_table_of) :=
  m_def T.F_table_of sc_table_of sp_len fun cdv A outer s H vs Q E hr gu h => by
    have hu := Room.units hr
    have hu2 := room2 hr
    have at_ := at_def (P := P) (w := w) (K := K) (mg := mg) (base := base) (N := N_table_of) (outer := outer) (H := H) (E := E) (XT := XTm mg XS) hr gu
    exact ⟨rdS K (wishE (XTm mg XS) E) b_table_of, s_one (s_ret (q_callT call_tuple_of tupOf_rule (by rfl) T.z_tuple (by decide +kernel) (a_cons (q_lc (by decide) (pe_lc (own := [("old", 2)]) rfl sc_table_of.nd (i_val (q_var 0)) (blkOk_by (own := [("old", 2)]) (N := N_table_of) (sc := defScope s_table_of) (by decide +kernel)) (fun _ _ _ _ _ => g_name sc_table_of.nd rfl (by first | exact Or.inl rfl | exact Or.inr rfl)) (fun _ _ _ _ _ => ts_nil) (fun _ _ _ _ _ => q_callT call_tuple_of tupOf_rule (by rfl) T.z_tuple (by decide +kernel) (a_cons (q_lc (by decide) (pe_lc (own := [("new", 3)]) rfl sc_table_of.nd (i_val (q_var 0)) (blkOk_in (own := [("new", 3)]) (N := N_table_of) rfl (by decide +kernel)) (fun _ _ _ _ _ => g_name sc_table_of.nd rfl (by first | exact Or.inl rfl | exact Or.inr rfl)) (fun _ _ _ _ _ => ts_nil) (fun _ _ _ _ _ => q_callF ((at_.blk).blk) (fun l => (ok_mfT T B l).up (by first | decide | omega)) (by rfl) (by first | exact Or.inl rfl | exact Or.inr (Or.inl rfl) | exact Or.inr (Or.inr rfl)) (a_cons (q_var 2) (a_cons (q_var 3) (a_nil))) (argC_len (argC_len (argN_len)))))) (a_nil))))) (a_nil)))), body_end (m := 2) rfl h⟩
theorem ok_fits_powers (T : Facts K mg) (B : TabsB T base) : FnM P w K mg base 4 T.a_fits_powers T.d_fits_powers ["value"] (spM (XTm mg XS) K 1 f_fits_powers) :=
  m_def T.F_fits_powers sc_fits_powers sp_len fun cdv A outer s H vs Q E hr gu h => by
    have hu := Room.units hr
    have hu2 := room2 hr
    have at_ := at_def (P := P) (w := w) (K := K) (mg := mg) (base := base) (N := N_fits_powers) (outer := outer) (H := H) (E := E) (XT := XTm mg XS) hr gu
    exact ⟨rdS K (wishE (XTm mg XS) E) b_fits_powers, s_cons (s_if (PW.pt (w_or (t_not (t_val (q_call at_ ((ok_are_integers_from T B).up (by first | decide | omega)) (by rfl) T.g_are_integers_from T.F_are_integers_from.kp T.b_are_integers_from (a_cons (q_var 0) (a_cons (q_int) (a_cons (q_gint (by rfl) T.c_MAX_POWER) (a_nil)))) (argC_len (argC_len (argC_len (argN_len))))))) (w_or1 (t_not (t_chain cp_le cp_le (q_gint (by rfl) T.c_MIN_LEVELS) (q_callB call_len len_rule (by rfl) T.z_len (by decide +kernel) (a_cons (q_var 0) (a_nil))) (q_gint (by rfl) T.c_MAX_LEVELS)))))) (s_one (s_ret (q_bool))) (s_nil)) (s_one (s_ret (q_call at_ ((ok_is_ascending T B).up (by first | decide | omega)) (by rfl) T.g_is_ascending T.F_is_ascending.kp T.b_is_ascending (a_cons (q_rev (q_var 0)) (a_nil)) (argC_len (argN_len))))), body_end (m := 0) rfl h⟩
theorem ok_device_system (T : Facts K mg) (B : TabsB T base) : FnM P w K mg base 5 T.a_device_system T.d_device_system ["powers", "wakes", "drop"] (spM (XTm mg XS) K 3 f_device_system) :=
  m_defC T.F_device_system T.cd_device_system sc_device_system sp_len fun A outer s H vs Q E hr gu h => by
    have hu := Room.units hr
    have hu2 := room2 hr
    have at_ := at_def (P := P) (w := w) (K := K) (mg := mg) (base := base) (N := N_device_system) (outer := outer) (H := H) (E := E) (XT := XTm mg XS) hr gu
    exact ⟨rdS K (wishE (XTm mg XS) E) b_device_system, s_cons (s_if (t_not (t_val (q_call at_ ((ok_fits_powers T B).up (by first | decide | omega)) (by rfl) T.g_fits_powers T.F_fits_powers.kp T.b_fits_powers (a_cons (q_var 0) (a_nil)) (argC_len (argN_len))))) (s_one (s_bad)) (s_nil)) (s_cons (s_if (PW.pt (w_or (t_not (t_val (q_call at_ ((ok_is_tuple_of T B).up (by first | decide | omega)) (by rfl) T.g_is_tuple_of T.F_is_tuple_of.kp T.b_is_tuple_of (a_cons (q_var 1) (a_cons (q_sub (q_callB call_len len_rule (by rfl) T.z_len (by decide +kernel) (a_cons (q_var 0) (a_nil))) (q_int)) (a_nil))) (argC_len (argC_len (argN_len)))))) (w_or1 (t_not (t_val (q_call at_ ((ok_are_integers_from T B).up (by first | decide | omega)) (by rfl) T.g_are_integers_from T.F_are_integers_from.kp T.b_are_integers_from (a_cons (q_var 1) (a_cons (q_int) (a_cons (q_gint (by rfl) T.c_MAX_WAKE) (a_nil)))) (argC_len (argC_len (argC_len (argN_len)))))))))) (s_one (s_bad)) (s_nil)) (s_cons (s_expr (q_call at_ ((ok_check_integer_from T B).up (by first | decide | omega)) (by rfl) T.g_check_integer_from T.F_check_integer_from.kp T.b_check_integer_from (a_cons (q_var 2) (a_cons (q_int) (a_cons (q_gint (by rfl) T.c_MAX_DROP) (a_nil)))) (argC_len (argC_len (argC_len (argN_len)))))) (s_cons (s_set (i := 3) sc_device_system.nd rfl (by first | exact Or.inl rfl | exact Or.inr rfl) (q_callT call_tuple_of tupOf_rule (by rfl) T.z_tuple (by decide +kernel) (a_cons (q_listRg rfl (by rfl) T.z_list (by rfl) T.z_range (q_callB call_len len_rule (by rfl) T.z_len (by decide +kernel) (a_cons (q_var 0) (a_nil)))) (a_nil)))) (s_cons (s_set (i := 4) sc_device_system.nd rfl (by first | exact Or.inl rfl | exact Or.inr rfl) (q_lamcall2 (XT' := XTm mg XS) at_ (ok_table_of T B) (by first | decide | omega) (by rfl) T.g_table_of T.F_table_of.kp T.b_table_of (q_var 3) T.tb_device_system rfl B.t_device_system rfl rfl (by show lamFrB (defScope s_device_system) l_device_system = true; decide +kernel) (fun _ => rfl) (by show lamCapB (defScope s_device_system) l_device_system = true; decide +kernel) (by show lamIxB N_device_system [1, 2] l_device_system.caps = true; decide +kernel) (by with_unfolding_all rfl))) (s_cons (s_set (i := 5) sc_device_system.nd rfl (by first | exact Or.inl rfl | exact Or.inr rfl) (q_add (q_tup (a_cons (q_int) (a_nil))) (q_mul (q_tup (a_cons (q_none) (a_nil))) (q_sub (q_callB call_len len_rule (by rfl) T.z_len (by decide +kernel) (a_cons (q_var 0) (a_nil))) (q_int))))) (s_one (s_ret (q_tup (a_cons (q_var 4) (a_cons (q_tup (a_cons (q_var 5) (a_cons (q_var 0) (a_nil)))) (a_cons (q_int) (a_nil)))))))))))), body_end (m := 3) rfl h⟩
theorem ok_fits_switching_row (T : Facts K mg) (B : TabsB T base) : FnM P w K mg base 3 T.a_fits_switching_row T.d_fits_switching_row ["size", "state", "row"] (spM (XTm mg XS) K 3 f_fits_switching_row) :=
  m_def T.F_fits_switching_row sc_fits_switching_row sp_len fun cdv A outer s H vs Q E hr gu h => by
    have hu := Room.units hr
    have hu2 := room2 hr
    have at_ := at_def (P := P) (w := w) (K := K) (mg := mg) (base := base) (N := N_fits_switching_row) (outer := outer) (H := H) (E := E) (XT := XTm mg XS) hr gu
    exact ⟨rdS K (wishE (XTm mg XS) E) b_fits_switching_row, s_cons (s_if (t_not (t_val (q_call at_ ((ok_is_tuple_of T B).up (by first | decide | omega)) (by rfl) T.g_is_tuple_of T.F_is_tuple_of.kp T.b_is_tuple_of (a_cons (q_var 2) (a_cons (q_var 0) (a_nil))) (argC_len (argC_len (argN_len)))))) (s_one (s_ret (q_bool))) (s_nil)) (s_cons (s_for (ps_for (passes_of rfl) rfl (i_rng1 (by rfl) T.z_range (a_cons (q_var 0) (a_nil))) (g_name sc_fits_switching_row.nd rfl (by first | exact Or.inl rfl | exact Or.inr rfl)) (s_cons (s_asg (ps_asg (q_ite (t_comp (cp_eq hu) (q_var 3) (q_var 1)) (q_tup (a_cons (q_int) (a_cons (q_int) (a_nil)))) (q_tup (a_cons (q_int) (a_cons (q_gint (by rfl) T.c_MAX_COST) (a_nil))))) (g_tup (pg_tup (by rfl) (gs_cons (pgs_cons (g_name sc_fits_switching_row.nd rfl (by first | exact Or.inl rfl | exact Or.inr rfl)) (gs_cons (pgs_cons (g_name sc_fits_switching_row.nd rfl (by first | exact Or.inl rfl | exact Or.inr rfl)) (gs_nil))))))))) (s_one (s_if (t_not (t_val (q_call at_ ((ok_is_integer_from T B).up (by first | decide | omega)) (by rfl) T.g_is_integer_from T.F_is_integer_from.kp T.b_is_integer_from (a_cons (q_ix (q_var 2) (q_var 3)) (a_cons (q_var 4) (a_cons (q_var 5) (a_nil)))) (argC_len (argC_len (argC_len (argN_len))))))) (s_one (s_ret (q_bool))) (s_nil)))))) (s_one (s_ret (q_bool)))), body_end (m := 3) rfl h⟩
theorem ok_holds_triangles (T : Facts K mg) (B : TabsB T base) : FnM P w K mg base 1 T.a_holds_triangles T.d_holds_triangles ["switching"] (spM (XTm mg XS) K 1 f_holds_triangles) :=
  m_def T.F_holds_triangles sc_holds_triangles sp_len fun cdv A outer s H vs Q E hr gu h => by
    have hu := Room.units hr
    have hu2 := room2 hr
    have at_ := at_def (P := P) (w := w) (K := K) (mg := mg) (base := base) (N := N_holds_triangles) (outer := outer) (H := H) (E := E) (XT := XTm mg XS) hr gu
    exact ⟨rdS K (wishE (XTm mg XS) E) b_holds_triangles, s_cons (s_set (i := 1) sc_holds_triangles.nd rfl (by first | exact Or.inl rfl | exact Or.inr rfl) (q_callB call_len len_rule (by rfl) T.z_len (by decide +kernel) (a_cons (q_var 0) (a_nil)))) (s_cons (s_for (ps_for (passes_of rfl) rfl (i_rng1 (by rfl) T.z_range (a_cons (q_var 1) (a_nil))) (g_name sc_holds_triangles.nd rfl (by first | exact Or.inl rfl | exact Or.inr rfl)) (s_one (s_for (ps_for (passes_of rfl) rfl (i_rng1 (by rfl) T.z_range (a_cons (q_var 1) (a_nil))) (g_name sc_holds_triangles.nd rfl (by first | exact Or.inl rfl | exact Or.inr rfl)) (s_one (s_for (ps_for (passes_of rfl) rfl (i_rng1 (by rfl) T.z_range (a_cons (q_var 1) (a_nil))) (g_name sc_holds_triangles.nd rfl (by first | exact Or.inl rfl | exact Or.inr rfl)) (s_one (s_if (t_comp cp_gt (q_ix (q_ix (q_var 0) (q_var 2)) (q_var 4)) (q_add (q_ix (q_ix (q_var 0) (q_var 2)) (q_var 3)) (q_ix (q_ix (q_var 0) (q_var 3)) (q_var 4)))) (s_one (s_ret (q_bool))) (s_nil))))))))))) (s_one (s_ret (q_bool)))), body_end (m := 4) rfl h⟩
theorem ok_fits_switching (T : Facts K mg) (B : TabsB T base) : FnM P w K mg base 4 T.a_fits_switching T.d_fits_switching ["value"] (spM (XTm mg XS) K 1 f_fits_switching) :=
  m_def T.F_fits_switching sc_fits_switching sp_len fun cdv A outer s H vs Q E hr gu h => by
    have hu := Room.units hr
    have hu2 := room2 hr
    have at_ := at_def (P := P) (w := w) (K := K) (mg := mg) (base := base) (N := N_fits_switching) (outer := outer) (H := H) (E := E) (XT := XTm mg XS) hr gu
    exact ⟨rdS K (wishE (XTm mg XS) E) b_fits_switching, s_cons (s_if (PW.pt (w_or (t_not (t_val (q_callB call_isi isi_rule (by rfl) T.z_isinstance (by decide +kernel) (a_cons (q_var 0) (a_cons (q_ty (by rfl) T.z_tuple (by decide +kernel)) (a_nil)))))) (w_or1 (t_not (t_chain cp_le cp_le (q_int) (q_callB call_len len_rule (by rfl) T.z_len (by decide +kernel) (a_cons (q_var 0) (a_nil))) (q_gint (by rfl) T.c_MAX_STATES)))))) (s_one (s_ret (q_bool))) (s_nil)) (s_cons (s_for (ps_for (passes_of rfl) rfl (i_rng1 (by rfl) T.z_range (a_cons (q_callB call_len len_rule (by rfl) T.z_len (by decide +kernel) (a_cons (q_var 0) (a_nil))) (a_nil))) (g_name sc_fits_switching.nd rfl (by first | exact Or.inl rfl | exact Or.inr rfl)) (s_one (s_if (t_not (t_val (q_call at_ ((ok_fits_switching_row T B).up (by first | decide | omega)) (by rfl) T.g_fits_switching_row T.F_fits_switching_row.kp T.b_fits_switching_row (a_cons (q_callB call_len len_rule (by rfl) T.z_len (by decide +kernel) (a_cons (q_var 0) (a_nil))) (a_cons (q_var 1) (a_cons (q_ix (q_var 0) (q_var 1)) (a_nil)))) (argC_len (argC_len (argC_len (argN_len))))))) (s_one (s_ret (q_bool))) (s_nil))))) (s_one (s_ret (q_call at_ ((ok_holds_triangles T B).up (by first | decide | omega)) (by rfl) T.g_holds_triangles T.F_holds_triangles.kp T.b_holds_triangles (a_cons (q_var 0) (a_nil)) (argC_len (argN_len)))))), body_end (m := 1) rfl h⟩
theorem ok_fits_costs (T : Facts K mg) (B : TabsB T base) : FnM P w K mg base 3 T.a_fits_costs T.d_fits_costs ["size", "value"] (spM (XTm mg XS) K 2 f_fits_costs) :=
  m_def T.F_fits_costs sc_fits_costs sp_len fun cdv A outer s H vs Q E hr gu h => by
    have hu := Room.units hr
    have hu2 := room2 hr
    have at_ := at_def (P := P) (w := w) (K := K) (mg := mg) (base := base) (N := N_fits_costs) (outer := outer) (H := H) (E := E) (XT := XTm mg XS) hr gu
    exact ⟨rdS K (wishE (XTm mg XS) E) b_fits_costs, s_cons (s_if (t_not (t_val (q_call at_ ((ok_is_tuple_of T B).up (by first | decide | omega)) (by rfl) T.g_is_tuple_of T.F_is_tuple_of.kp T.b_is_tuple_of (a_cons (q_var 1) (a_cons (q_var 0) (a_nil))) (argC_len (argC_len (argN_len)))))) (s_one (s_ret (q_bool))) (s_nil)) (s_cons (s_set (i := 2) sc_fits_costs.nd rfl (by first | exact Or.inl rfl | exact Or.inr rfl) (q_int)) (s_cons (s_for (ps_for (passes_of rfl) rfl (i_val (q_var 1)) (g_name sc_fits_costs.nd rfl (by first | exact Or.inl rfl | exact Or.inr rfl)) (s_one (s_if (t_comp cp_nis (q_var 3) (q_none)) (s_cons (s_if (t_not (t_val (q_call at_ ((ok_is_integer_from T B).up (by first | decide | omega)) (by rfl) T.g_is_integer_from T.F_is_integer_from.kp T.b_is_integer_from (a_cons (q_var 3) (a_cons (q_int) (a_cons (q_gint (by rfl) T.c_MAX_COST) (a_nil)))) (argC_len (argC_len (argC_len (argN_len))))))) (s_one (s_ret (q_bool))) (s_nil)) (s_one (s_aug addI_rule (ps_aug (i := 2) sc_fits_costs.nd rfl (by first | exact Or.inl rfl | exact Or.inr rfl) (q_int) ip_add)))) (s_nil))))) (s_one (s_ret (q_comp cp_gt (q_var 2) (q_int)))))), body_end (m := 2) rfl h⟩
theorem ok_fits_requests (T : Facts K mg) (B : TabsB T base) : FnM P w K mg base 4 T.a_fits_requests T.d_fits_requests ["size", "value"] (spM (XTm mg XS) K 2 f_fits_requests) :=
  m_def T.F_fits_requests sc_fits_requests sp_len fun cdv A outer s H vs Q E hr gu h => by
    have hu := Room.units hr
    have hu2 := room2 hr
    have at_ := at_def (P := P) (w := w) (K := K) (mg := mg) (base := base) (N := N_fits_requests) (outer := outer) (H := H) (E := E) (XT := XTm mg XS) hr gu
    exact ⟨rdS K (wishE (XTm mg XS) E) b_fits_requests, s_cons (s_if (PW.pt (w_or (t_not (t_val (q_callB call_isi isi_rule (by rfl) T.z_isinstance (by decide +kernel) (a_cons (q_var 1) (a_cons (q_ty (by rfl) T.z_tuple (by decide +kernel)) (a_nil)))))) (w_or1 (t_not (t_chain cp_le cp_le (q_int) (q_callB call_len len_rule (by rfl) T.z_len (by decide +kernel) (a_cons (q_var 1) (a_nil))) (q_gint (by rfl) T.c_MAX_REQUESTS)))))) (s_one (s_ret (q_bool))) (s_nil)) (s_cons (s_for (ps_for (passes_of rfl) rfl (i_val (q_var 1)) (g_name sc_fits_requests.nd rfl (by first | exact Or.inl rfl | exact Or.inr rfl)) (s_one (s_if (t_not (t_val (q_call at_ ((ok_fits_costs T B).up (by first | decide | omega)) (by rfl) T.g_fits_costs T.F_fits_costs.kp T.b_fits_costs (a_cons (q_var 0) (a_cons (q_var 2) (a_nil))) (argC_len (argC_len (argN_len)))))) (s_one (s_ret (q_bool))) (s_nil))))) (s_one (s_ret (q_bool)))), body_end (m := 1) rfl h⟩
theorem ok_is_system (T : Facts K mg) (B : TabsB T base) : FnM P w K mg base 5 T.a_is_system T.d_is_system ["value"] (spM (XTm mg XS) K 1 f_is_system) :=
  m_def T.F_is_system sc_is_system sp_len fun cdv A outer s H vs Q E hr gu h => by
    have hu := Room.units hr
    have hu2 := room2 hr
    have at_ := at_def (P := P) (w := w) (K := K) (mg := mg) (base := base) (N := N_is_system) (outer := outer) (H := H) (E := E) (XT := XTm mg XS) hr gu
    exact ⟨rdS K (wishE (XTm mg XS) E) b_is_system, s_cons (s_if (t_not (t_val (q_call at_ ((ok_is_tuple_of T B).up (by first | decide | omega)) (by rfl) T.g_is_tuple_of T.F_is_tuple_of.kp T.b_is_tuple_of (a_cons (q_var 0) (a_cons (q_int) (a_nil))) (argC_len (argC_len (argN_len)))))) (s_one (s_ret (q_bool))) (s_nil)) (s_cons (s_asg (ps_asg (q_var 0) (g_tup (pg_tup (by rfl) (gs_cons (pgs_cons (g_name sc_is_system.nd rfl (by first | exact Or.inl rfl | exact Or.inr rfl)) (gs_cons (pgs_cons (g_name sc_is_system.nd rfl (by first | exact Or.inl rfl | exact Or.inr rfl)) (gs_cons (pgs_cons (g_name sc_is_system.nd rfl (by first | exact Or.inl rfl | exact Or.inr rfl)) (gs_nil))))))))))) (s_cons (s_if (t_not (t_val (q_call at_ ((ok_fits_switching T B).up (by first | decide | omega)) (by rfl) T.g_fits_switching T.F_fits_switching.kp T.b_fits_switching (a_cons (q_var 1) (a_nil)) (argC_len (argN_len))))) (s_one (s_ret (q_bool))) (s_nil)) (s_cons (s_set (i := 4) sc_is_system.nd rfl (by first | exact Or.inl rfl | exact Or.inr rfl) (q_callB call_len len_rule (by rfl) T.z_len (by decide +kernel) (a_cons (q_var 1) (a_nil)))) (s_one (s_ret (q_and (q_call at_ ((ok_fits_requests T B).up (by first | decide | omega)) (by rfl) T.g_fits_requests T.F_fits_requests.kp T.b_fits_requests (a_cons (q_var 4) (a_cons (q_var 2) (a_nil))) (argC_len (argC_len (argN_len)))) (q_one (q_call at_ ((ok_is_integer_from T B).up (by first | decide | omega)) (by rfl) T.g_is_integer_from T.F_is_integer_from.kp T.b_is_integer_from (a_cons (q_var 3) (a_cons (q_int) (a_cons (q_sub (q_var 4) (q_int)) (a_nil)))) (argC_len (argC_len (argC_len (argN_len)))))))))))), body_end (m := 4) rfl h⟩
theorem ok_check_system (T : Facts K mg) (B : TabsB T base) : FnM P w K mg base 6 T.a_check_system T.d_check_system ["system"] (spM (XTm mg XS) K 1 f_check_system) :=
  m_def T.F_check_system sc_check_system sp_len fun cdv A outer s H vs Q E hr gu h => by
    have hu := Room.units hr
    have hu2 := room2 hr
    have at_ := at_def (P := P) (w := w) (K := K) (mg := mg) (base := base) (N := N_check_system) (outer := outer) (H := H) (E := E) (XT := XTm mg XS) hr gu
    exact ⟨rdS K (wishE (XTm mg XS) E) b_check_system, s_one (s_if (t_not (t_val (q_call at_ ((ok_is_system T B).up (by first | decide | omega)) (by rfl) T.g_is_system T.F_is_system.kp T.b_is_system (a_cons (q_var 0) (a_nil)) (argC_len (argN_len))))) (s_one (s_bad)) (s_nil)), body_end (m := 0) rfl h⟩
theorem ok_fits_state (T : Facts K mg) (B : TabsB T base) : FnM P w K mg base 3 T.a_fits_state T.d_fits_state ["system", "value"] (spM (XTm mg XS) K 2 f_fits_state) :=
  m_def T.F_fits_state sc_fits_state sp_len fun cdv A outer s H vs Q E hr gu h => by
    have hu := Room.units hr
    have hu2 := room2 hr
    have at_ := at_def (P := P) (w := w) (K := K) (mg := mg) (base := base) (N := N_fits_state) (outer := outer) (H := H) (E := E) (XT := XTm mg XS) hr gu
    exact ⟨rdS K (wishE (XTm mg XS) E) b_fits_state, s_one (s_ret (q_call at_ ((ok_is_integer_from T B).up (by first | decide | omega)) (by rfl) T.g_is_integer_from T.F_is_integer_from.kp T.b_is_integer_from (a_cons (q_var 1) (a_cons (q_int) (a_cons (q_sub (q_callB call_len len_rule (by rfl) T.z_len (by decide +kernel) (a_cons (q_ix (q_var 0) (q_int)) (a_nil))) (q_int)) (a_nil)))) (argC_len (argC_len (argC_len (argN_len)))))), body_end (m := 0) rfl h⟩
theorem ok_check_state (T : Facts K mg) (B : TabsB T base) : FnM P w K mg base 4 T.a_check_state T.d_check_state ["system", "state"] (spM (XTm mg XS) K 2 f_check_state) :=
  m_def T.F_check_state sc_check_state sp_len fun cdv A outer s H vs Q E hr gu h => by
    have hu := Room.units hr
    have hu2 := room2 hr
    have at_ := at_def (P := P) (w := w) (K := K) (mg := mg) (base := base) (N := N_check_state) (outer := outer) (H := H) (E := E) (XT := XTm mg XS) hr gu
    exact ⟨rdS K (wishE (XTm mg XS) E) b_check_state, s_one (s_if (t_not (t_val (q_call at_ ((ok_fits_state T B).up (by first | decide | omega)) (by rfl) T.g_fits_state T.F_fits_state.kp T.b_fits_state (a_cons (q_var 0) (a_cons (q_var 1) (a_nil))) (argC_len (argC_len (argN_len)))))) (s_one (s_bad)) (s_nil)), body_end (m := 0) rfl h⟩
theorem ok_switching_cost (T : Facts K mg) (B : TabsB T base) : FnM P w K mg base 7 T.a_switching_cost T.d_switching_cost ["system", "first", "second"] (spM (XTm mg XS) K 3 f_switching_cost) :=
  m_def T.F_switching_cost sc_switching_cost sp_len fun cdv A outer s H vs Q E hr gu h => by
    have hu := Room.units hr
    have hu2 := room2 hr
    have at_ := at_def (P := P) (w := w) (K := K) (mg := mg) (base := base) (N := N_switching_cost) (outer := outer) (H := H) (E := E) (XT := XTm mg XS) hr gu
    exact ⟨rdS K (wishE (XTm mg XS) E) b_switching_cost, s_cons (s_expr (q_call at_ ((ok_check_system T B).up (by first | decide | omega)) (by rfl) T.g_check_system T.F_check_system.kp T.b_check_system (a_cons (q_var 0) (a_nil)) (argC_len (argN_len)))) (s_cons (s_expr (q_call at_ ((ok_check_state T B).up (by first | decide | omega)) (by rfl) T.g_check_state T.F_check_state.kp T.b_check_state (a_cons (q_var 0) (a_cons (q_var 1) (a_nil))) (argC_len (argC_len (argN_len))))) (s_cons (s_expr (q_call at_ ((ok_check_state T B).up (by first | decide | omega)) (by rfl) T.g_check_state T.F_check_state.kp T.b_check_state (a_cons (q_var 0) (a_cons (q_var 2) (a_nil))) (argC_len (argC_len (argN_len))))) (s_one (s_ret (q_ix (q_ix (q_ix (q_var 0) (q_int)) (q_var 1)) (q_var 2)))))), body_end (m := 0) rfl h⟩
theorem ok_law_stream (T : Facts K mg) (B : TabsB T base) : FnM P w K mg base 1 T.a_law_stream T.d_law_stream ["_law_script", "_law_at"] (spM (XTm mg XS) K 2 f_law_stream) :=
  m_def T.F_law_stream sc_law_stream sp_len fun cdv A outer s H vs Q E hr gu h => by
    have hu := Room.units hr
    have hu2 := room2 hr
    have at_ := at_def (P := P) (w := w) (K := K) (mg := mg) (base := base) (N := N_law_stream) (outer := outer) (H := H) (E := E) (XT := XTm mg XS) hr gu
    exact ⟨rdS K (wishE (XTm mg XS) E) b_law_stream, s_cons (s_set (i := 2) sc_law_stream.nd rfl (by first | exact Or.inl rfl | exact Or.inr rfl) (q_add (q_mul (q_int) (q_var 1)) (q_int))) (s_cons (s_if (t_comp cp_lt (q_var 1) (q_callB call_len len_rule (by rfl) T.z_len (by decide +kernel) (a_cons (q_var 0) (a_nil)))) (s_one (s_set (i := 2) sc_law_stream.nd rfl (by first | exact Or.inl rfl | exact Or.inr rfl) (q_ix (q_var 0) (q_var 1)))) (s_nil)) (s_cons (s_set (i := 3) sc_law_stream.nd rfl (by first | exact Or.inl rfl | exact Or.inr rfl) (q_mod (q_callB call_abs abs_rule (by rfl) T.z_abs (by decide +kernel) (a_cons (q_var 2) (a_nil))) (q_pow (q_pow (q_int) (q_int)) (q_int)))) (s_one (s_ret (q_lst (a_cons (q_callB (call_max2 rfl) max2_rule (by rfl) T.z_max (by decide +kernel) (a_cons (q_int) (a_cons (q_sub (q_var 3) (q_pow (q_int) (q_int))) (a_nil)))) (a_cons (q_mod (q_add (q_add (q_add (q_mul (q_var 3) (q_int)) (q_mul (q_int) (q_var 1))) (q_mul (q_int) (q_callT call_int1 intOf_rule (by rfl) T.z_int (by decide +kernel) (a_cons (q_comp cp_lt (q_var 2) (q_int)) (a_nil))))) (q_int)) (q_int)) (a_cons (q_int) (a_nil))))))))), body_end (m := 2) rfl h⟩
theorem ok_law_draw (T : Facts K mg) (B : TabsB T base) : FnM P w K mg base 1 T.a_law_draw T.d_law_draw ["_law_stream_here", "_law_total"] (spM (XTm mg XS) K 2 f_law_draw) :=
  m_def T.F_law_draw sc_law_draw sp_len fun cdv A outer s H vs Q E hr gu h => by
    have hu := Room.units hr
    have hu2 := room2 hr
    have at_ := at_def (P := P) (w := w) (K := K) (mg := mg) (base := base) (N := N_law_draw) (outer := outer) (H := H) (E := E) (XT := XTm mg XS) hr gu
    exact ⟨rdS K (wishE (XTm mg XS) E) b_law_draw, s_cons (s_if (t_comp cp_gt (q_ix (q_var 0) (q_int)) (q_int)) (s_cons (s_set (i := 2) sc_law_draw.nd rfl (by first | exact Or.inl rfl | exact Or.inr rfl) (q_mod (q_ix (q_var 0) (q_int)) (q_var 1))) (s_cons (s_asg (ps_asg (q_fdiv (q_ix (q_var 0) (q_int)) (q_var 1)) (g_sub (pg_sub (q_var 0) (q_int) set_list)))) (s_one (s_ret (q_var 2))))) (s_nil)) (s_cons (s_asg (ps_asg (q_add (q_ix (q_var 0) (q_int)) (q_int)) (g_sub (pg_sub (q_var 0) (q_int) set_list)))) (s_cons (s_set (i := 3) sc_law_draw.nd rfl (by first | exact Or.inl rfl | exact Or.inr rfl) (q_mod (q_add (q_ix (q_var 0) (q_int)) (q_mul (q_int) (q_ix (q_var 0) (q_int)))) (q_int))) (s_cons (s_set (i := 4) sc_law_draw.nd rfl (by first | exact Or.inl rfl | exact Or.inr rfl) (q_add (q_mul (q_mod (q_mul (q_var 3) (q_var 3)) (q_int)) (q_var 3)) (q_mul (q_int) (q_ix (q_var 0) (q_int))))) (s_cons (s_set (i := 5) sc_law_draw.nd rfl (by first | exact Or.inl rfl | exact Or.inr rfl) (q_mod (q_add (q_var 4) (q_mod (q_ix (q_var 0) (q_int)) (q_int))) (q_int))) (s_one (s_ret (q_mod (q_fdiv (q_mod (q_mul (q_var 5) (q_var 5)) (q_int)) (q_int)) (q_var 1)))))))), body_end (m := 4) rfl h⟩
theorem ok_law_device (T : Facts K mg) (B : TabsB T base) : FnM P w K mg base 2 T.a_law_device T.d_law_device ["_law_stream_here"] (spM (XTm mg XS) K 1 f_law_device) :=
  m_def T.F_law_device sc_law_device sp_len fun cdv A outer s H vs Q E hr gu h => by
    have hu := Room.units hr
    have hu2 := room2 hr
    have at_ := at_def (P := P) (w := w) (K := K) (mg := mg) (base := base) (N := N_law_device) (outer := outer) (H := H) (E := E) (XT := XTm mg XS) hr gu
    exact ⟨rdS K (wishE (XTm mg XS) E) b_law_device, s_cons (s_set (i := 1) sc_law_device.nd rfl (by first | exact Or.inl rfl | exact Or.inr rfl) (q_add (q_int) (q_call at_ ((ok_law_draw T B).up (by first | decide | omega)) (by rfl) T.g_law_draw T.F_law_draw.kp T.b_law_draw (a_cons (q_var 0) (a_cons (q_int) (a_nil))) (argC_len (argC_len (argN_len)))))) (s_cons (s_par (ps_par (i := 2) (j := 3) (by rfl) sc_law_device.nd rfl rfl (by decide) rfl rfl (a_cons (q_ix (q_lst (a_cons (q_int) (a_cons (q_int) (a_cons (q_int) (a_nil))))) (q_call at_ ((ok_law_draw T B).up (by first | decide | omega)) (by rfl) T.g_law_draw T.F_law_draw.kp T.b_law_draw (a_cons (q_var 0) (a_cons (q_int) (a_nil))) (argC_len (argC_len (argN_len))))) (a_cons (q_lst (a_nil)) (a_nil))) (by rfl))) (s_cons (s_for (ps_for (passes_of rfl) rfl (i_rng1 (by rfl) T.z_range (a_cons (q_var 1) (a_nil))) (g_name sc_law_device.nd rfl (by first | exact Or.inl rfl | exact Or.inr rfl)) (s_cons (s_expr (q_append (pe_bm PySem.F.plainAttrs_list PySem.F.slot_list_append PySem.F.type_list_append mt_append (q_var 3) (pa_cons (q_var 2) pa_nil)))) (s_one (s_set (i := 2) sc_law_device.nd rfl (by first | exact Or.inl rfl | exact Or.inr rfl) (q_sub (q_sub (q_var 2) (q_int)) (q_call at_ ((ok_law_draw T B).up (by first | decide | omega)) (by rfl) T.g_law_draw T.F_law_draw.kp T.b_law_draw (a_cons (q_var 0) (a_cons (q_callB (call_max2 rfl) max2_rule (by rfl) T.z_max (by decide +kernel) (a_cons (q_int) (a_cons (q_fdiv (q_add (q_add (q_sub (q_var 2) (q_var 1)) (q_var 4)) (q_int)) (q_int)) (a_nil)))) (a_nil))) (argC_len (argC_len (argN_len)))))))))) (s_cons (s_set (i := 5) sc_law_device.nd rfl (by first | exact Or.inl rfl | exact Or.inr rfl) (q_ix (q_lst (a_cons (q_int) (a_cons (q_int) (a_nil)))) (q_call at_ ((ok_law_draw T B).up (by first | decide | omega)) (by rfl) T.g_law_draw T.F_law_draw.kp T.b_law_draw (a_cons (q_var 0) (a_cons (q_int) (a_nil))) (argC_len (argC_len (argN_len)))))) (s_cons (s_set (i := 6) sc_law_device.nd rfl (by first | exact Or.inl rfl | exact Or.inr rfl) (q_callT call_tuple_of tupOf_rule (by rfl) T.z_tuple (by decide +kernel) (a_cons (q_lc (by decide) (pe_lc (own := [("_law_level", 4)]) rfl sc_law_device.nd (i_rng1 (by rfl) T.z_range (a_cons (q_sub (q_var 1) (q_int)) (a_nil))) (blkOk_by (own := [("_law_level", 4)]) (N := N_law_device) (sc := defScope s_law_device) (by decide +kernel)) (fun _ _ _ _ _ => g_name sc_law_device.nd rfl (by first | exact Or.inl rfl | exact Or.inr rfl)) (fun _ _ _ _ _ => ts_nil) (fun _ _ _ _ _ => q_add (q_int) (q_call (at_.blk) ((ok_law_draw T B).up (by first | decide | omega)) (by rfl) T.g_law_draw T.F_law_draw.kp T.b_law_draw (a_cons (q_var 0) (a_cons (q_var 5) (a_nil))) (argC_len (argC_len (argN_len))))))) (a_nil)))) (s_one (s_ret (q_tup (a_cons (q_callT call_tuple_of tupOf_rule (by rfl) T.z_tuple (by decide +kernel) (a_cons (q_var 3) (a_nil))) (a_cons (q_var 6) (a_cons (q_ix (q_lst (a_cons (q_int) (a_cons (q_int) (a_cons (q_int) (a_cons (q_int) (a_nil)))))) (q_call at_ ((ok_law_draw T B).up (by first | decide | omega)) (by rfl) T.g_law_draw T.F_law_draw.kp T.b_law_draw (a_cons (q_var 0) (a_cons (q_int) (a_nil))) (argC_len (argC_len (argN_len))))) (a_nil))))))))))), body_end (m := 6) rfl h⟩
theorem ok_law_expected (T : Facts K mg) (B : TabsB T base) : FnM P w K mg base 1 T.a_law_expected T.d_law_expected ["_law_powers", "_law_wakes", "_law_fall"] (spM (XTm mg XS) K 3 f_law_expected) :=
  m_def T.F_law_expected sc_law_expected sp_len fun cdv A outer s H vs Q E hr gu h => by
    have hu := Room.units hr
    have hu2 := room2 hr
    have at_ := at_def (P := P) (w := w) (K := K) (mg := mg) (base := base) (N := N_law_expected) (outer := outer) (H := H) (E := E) (XT := XTm mg XS) hr gu
    exact ⟨rdS K (wishE (XTm mg XS) E) b_law_expected, s_cons (s_set (i := 3) sc_law_expected.nd rfl (by first | exact Or.inl rfl | exact Or.inr rfl) (q_lst (a_nil))) (s_cons (s_for (ps_for (passes_of rfl) rfl (i_rng1 (by rfl) T.z_range (a_cons (q_callB call_len len_rule (by rfl) T.z_len (by decide +kernel) (a_cons (q_var 0) (a_nil))) (a_nil))) (g_name sc_law_expected.nd rfl (by first | exact Or.inl rfl | exact Or.inr rfl)) (s_cons (s_set (i := 5) sc_law_expected.nd rfl (by first | exact Or.inl rfl | exact Or.inr rfl) (q_lst (a_nil))) (s_cons (s_for (ps_for (passes_of rfl) rfl (i_rng1 (by rfl) T.z_range (a_cons (q_callB call_len len_rule (by rfl) T.z_len (by decide +kernel) (a_cons (q_var 0) (a_nil))) (a_nil))) (g_name sc_law_expected.nd rfl (by first | exact Or.inl rfl | exact Or.inr rfl)) (s_cons (s_set (i := 7) sc_law_expected.nd rfl (by first | exact Or.inl rfl | exact Or.inr rfl) (q_int)) (s_cons (s_for (ps_for (passes_of rfl) rfl (i_rng1 (by rfl) T.z_range (a_cons (q_callB call_len len_rule (by rfl) T.z_len (by decide +kernel) (a_cons (q_var 1) (a_nil))) (a_nil))) (g_name sc_law_expected.nd rfl (by first | exact Or.inl rfl | exact Or.inr rfl)) (s_cons (s_if (t_chain cp_le cp_lt (q_var 4) (q_var 8) (q_var 6)) (s_one (s_set (i := 7) sc_law_expected.nd rfl (by first | exact Or.inl rfl | exact Or.inr rfl) (q_add (q_var 7) (q_var 2)))) (s_nil)) (s_one (s_if (t_chain cp_le cp_lt (q_var 6) (q_var 8) (q_var 4)) (s_one (s_set (i := 7) sc_law_expected.nd rfl (by first | exact Or.inl rfl | exact Or.inr rfl) (q_add (q_var 7) (q_ix (q_var 1) (q_var 8))))) (s_nil)))))) (s_one (s_expr (q_append (pe_bm PySem.F.plainAttrs_list PySem.F.slot_list_append PySem.F.type_list_append mt_append (q_var 5) (pa_cons (q_var 7) pa_nil))))))))) (s_one (s_expr (q_append (pe_bm PySem.F.plainAttrs_list PySem.F.slot_list_append PySem.F.type_list_append mt_append (q_var 3) (pa_cons (q_callT call_tuple_of tupOf_rule (by rfl) T.z_tuple (by decide +kernel) (a_cons (q_var 5) (a_nil))) pa_nil))))))))) (s_one (s_ret (q_tup (a_cons (q_callT call_tuple_of tupOf_rule (by rfl) T.z_tuple (by decide +kernel) (a_cons (q_var 3) (a_nil))) (a_cons (q_tup (a_cons (q_add (q_tup (a_cons (q_int) (a_nil))) (q_mul (q_tup (a_cons (q_none) (a_nil))) (q_callB call_len len_rule (by rfl) T.z_len (by decide +kernel) (a_cons (q_var 1) (a_nil))))) (a_cons (q_var 0) (a_nil)))) (a_cons (q_int) (a_nil)))))))), body_end (m := 6) rfl h⟩
theorem ok_law (T : Facts K mg) (B : TabsB T base) : FnM P w K mg base 8 T.a_law T.d_law ["_law_script"] (spM (XTm mg XS) K 1 f_law) :=
  m_def T.F_law sc_law sp_len fun cdv A outer s H vs Q E hr gu h => by
    have hu := Room.units hr
    have hu2 := room2 hr
    have at_ := at_def (P := P) (w := w) (K := K) (mg := mg) (base := base) (N := N_law) (outer := outer) (H := H) (E := E) (XT := XTm mg XS) hr gu
    exact ⟨rdS K (wishE (XTm mg XS) E) b_law, s_cons (s_for (ps_for (passes_of rfl) rfl (i_rng1 (by rfl) T.z_range (a_cons (q_callB (call_max2 rfl) max2_rule (by rfl) T.z_max (by decide +kernel) (a_cons (q_int) (a_cons (q_callB (call_min2 rfl) min2_rule (by rfl) T.z_min (by decide +kernel) (a_cons (q_int) (a_cons (q_callB call_len len_rule (by rfl) T.z_len (by decide +kernel) (a_cons (q_var 0) (a_nil))) (a_nil)))) (a_nil)))) (a_nil))) (g_name sc_law.nd rfl (by first | exact Or.inl rfl | exact Or.inr rfl)) (s_cons (s_set (i := 2) sc_law.nd rfl (by first | exact Or.inl rfl | exact Or.inr rfl) (q_call at_ ((ok_law_stream T B).up (by first | decide | omega)) (by rfl) T.g_law_stream T.F_law_stream.kp T.b_law_stream (a_cons (q_var 0) (a_cons (q_var 1) (a_nil))) (argC_len (argC_len (argN_len))))) (s_cons (s_asg (ps_asg (q_call at_ ((ok_law_device T B).up (by first | decide | omega)) (by rfl) T.g_law_device T.F_law_device.kp T.b_law_device (a_cons (q_var 2) (a_nil)) (argC_len (argN_len))) (g_tup (pg_tup (by rfl) (gs_cons (pgs_cons (g_name sc_law.nd rfl (by first | exact Or.inl rfl | exact Or.inr rfl)) (gs_cons (pgs_cons (g_name sc_law.nd rfl (by first | exact Or.inl rfl | exact Or.inr rfl)) (gs_cons (pgs_cons (g_name sc_law.nd rfl (by first | exact Or.inl rfl | exact Or.inr rfl)) (gs_nil))))))))))) (s_cons (s_set (i := 6) sc_law.nd rfl (by first | exact Or.inl rfl | exact Or.inr rfl) (q_callB (cr_repr gu hu) repr_rule (by rfl) T.z_repr (by decide +kernel) (a_cons (q_tup (a_cons (q_var 3) (a_cons (q_var 4) (a_nil)))) (a_nil)))) (s_cons (s_set (i := 7) sc_law.nd rfl (by first | exact Or.inl rfl | exact Or.inr rfl) (q_callKw at_ ((ok_device_system T B).up (by first | decide | omega)) rfl (by rfl) T.g_device_system T.F_device_system.kp T.b_device_system (a_cons (q_var 3) (a_cons (q_var 4) (a_nil))) (q_var 5) (argC_len (argC_len (argN_len))))) (s_cons (s_if (PW.pt (w_or (t_comp (cp_ne hu) (q_callB (cr_repr gu hu) repr_rule (by rfl) T.z_repr (by decide +kernel) (a_cons (q_var 7) (a_nil))) (q_callB (cr_repr gu hu) repr_rule (by rfl) T.z_repr (by decide +kernel) (a_cons (q_call at_ ((ok_law_expected T B).up (by first | decide | omega)) (by rfl) T.g_law_expected T.F_law_expected.kp T.b_law_expected (a_cons (q_var 3) (a_cons (q_var 4) (a_cons (q_var 5) (a_nil)))) (argC_len (argC_len (argC_len (argN_len))))) (a_nil)))) (w_or1 (t_comp cp_nis (q_call at_ ((ok_is_system T B).up (by first | decide | omega)) (by rfl) T.g_is_system T.F_is_system.kp T.b_is_system (a_cons (q_var 7) (a_nil)) (argC_len (argN_len))) (q_bool))))) (s_one (s_ret (q_bool))) (s_nil)) (s_cons (s_if (t_comp (cp_ne hu) (q_callB (cr_repr gu hu) repr_rule (by rfl) T.z_repr (by decide +kernel) (a_cons (q_callD at_ ((ok_device_system T B).up (by first | decide | omega)) rfl (by rfl) T.g_device_system T.F_device_system.kp T.b_device_system (a_cons (q_var 3) (a_cons (q_var 4) (a_nil))) (argC_len (argC_len (argN_len)))) (a_nil))) (q_callB (cr_repr gu hu) repr_rule (by rfl) T.z_repr (by decide +kernel) (a_cons (q_call at_ ((ok_law_expected T B).up (by first | decide | omega)) (by rfl) T.g_law_expected T.F_law_expected.kp T.b_law_expected (a_cons (q_var 3) (a_cons (q_var 4) (a_cons (q_int) (a_nil)))) (argC_len (argC_len (argC_len (argN_len))))) (a_nil)))) (s_one (s_ret (q_bool))) (s_nil)) (s_cons (s_set (i := 8) sc_law.nd rfl (by first | exact Or.inl rfl | exact Or.inr rfl) (q_sub (q_callB call_len len_rule (by rfl) T.z_len (by decide +kernel) (a_cons (q_var 3) (a_nil))) (q_int))) (s_cons (s_set (i := 9) sc_law.nd rfl (by first | exact Or.inl rfl | exact Or.inr rfl) (q_callB (cr_sum1 rfl hu) sum1_rule (by rfl) T.z_sum (by decide +kernel) (a_cons (q_lc (by decide) (pe_lc (own := [("_law_level", 11)]) rfl sc_law.nd (i_rng1 (by rfl) T.z_range (a_cons (q_var 8) (a_nil))) (blkOk_by (own := [("_law_level", 11)]) (N := N_law) (sc := defScope s_law) (by decide +kernel)) (fun _ _ _ _ _ => g_name sc_law.nd rfl (by first | exact Or.inl rfl | exact Or.inr rfl)) (fun _ _ _ _ _ => ts_nil) (fun _ _ _ _ _ => q_call (at_.blk) ((ok_switching_cost T B).up (by first | decide | omega)) (by rfl) T.g_switching_cost T.F_switching_cost.kp T.b_switching_cost (a_cons (q_var 7) (a_cons (q_var 11) (a_cons (q_add (q_var 11) (q_int)) (a_nil)))) (argC_len (argC_len (argC_len (argN_len))))))) (a_nil)))) (s_cons (s_set (i := 10) sc_law.nd rfl (by first | exact Or.inl rfl | exact Or.inr rfl) (q_callB (cr_sum1 rfl hu) sum1_rule (by rfl) T.z_sum (by decide +kernel) (a_cons (q_lc (by decide) (pe_lc (own := [("_law_level", 11)]) rfl sc_law.nd (i_rng1 (by rfl) T.z_range (a_cons (q_var 8) (a_nil))) (blkOk_by (own := [("_law_level", 11)]) (N := N_law) (sc := defScope s_law) (by decide +kernel)) (fun _ _ _ _ _ => g_name sc_law.nd rfl (by first | exact Or.inl rfl | exact Or.inr rfl)) (fun _ _ _ _ _ => ts_nil) (fun _ _ _ _ _ => q_call (at_.blk) ((ok_switching_cost T B).up (by first | decide | omega)) (by rfl) T.g_switching_cost T.F_switching_cost.kp T.b_switching_cost (a_cons (q_var 7) (a_cons (q_add (q_var 11) (q_int)) (a_cons (q_var 11) (a_nil)))) (argC_len (argC_len (argC_len (argN_len))))))) (a_nil)))) (s_cons (s_if (t_comp (cp_ne hu) (q_lst (a_cons (q_call at_ ((ok_switching_cost T B).up (by first | decide | omega)) (by rfl) T.g_switching_cost T.F_switching_cost.kp T.b_switching_cost (a_cons (q_var 7) (a_cons (q_int) (a_cons (q_var 8) (a_nil)))) (argC_len (argC_len (argC_len (argN_len))))) (a_cons (q_call at_ ((ok_switching_cost T B).up (by first | decide | omega)) (by rfl) T.g_switching_cost T.F_switching_cost.kp T.b_switching_cost (a_cons (q_var 7) (a_cons (q_var 8) (a_cons (q_int) (a_nil)))) (argC_len (argC_len (argC_len (argN_len))))) (a_nil)))) (q_lst (a_cons (q_var 9) (a_cons (q_var 10) (a_nil))))) (s_one (s_ret (q_bool))) (s_nil)) (s_one (s_if (t_comp (cp_ne hu) (q_callB (cr_repr gu hu) repr_rule (by rfl) T.z_repr (by decide +kernel) (a_cons (q_tup (a_cons (q_var 3) (a_cons (q_var 4) (a_nil)))) (a_nil))) (q_var 6)) (s_one (s_ret (q_bool))) (s_nil))))))))))))))) (s_cons (s_if (t_comp (cp_ne hu) (q_callD at_ ((ok_device_system T B).up (by first | decide | omega)) rfl (by rfl) T.g_device_system T.F_device_system.kp T.b_device_system (a_cons (q_tup (a_cons (q_int) (a_cons (q_int) (a_nil)))) (a_cons (q_tup (a_cons (q_int) (a_nil))) (a_nil))) (argC_len (argC_len (argN_len)))) (q_tup (a_cons (q_tup (a_cons (q_tup (a_cons (q_int) (a_cons (q_int) (a_nil)))) (a_cons (q_tup (a_cons (q_int) (a_cons (q_int) (a_nil)))) (a_nil)))) (a_cons (q_tup (a_cons (q_tup (a_cons (q_int) (a_cons (q_none) (a_nil)))) (a_cons (q_tup (a_cons (q_int) (a_cons (q_int) (a_nil)))) (a_nil)))) (a_cons (q_int) (a_nil)))))) (s_one (s_ret (q_bool))) (s_nil)) (s_cons (s_set (i := 12) sc_law.nd rfl (by first | exact Or.inl rfl | exact Or.inr rfl) (q_tup (a_cons (q_tup (a_cons (q_int) (a_cons (q_int) (a_cons (q_int) (a_nil))))) (a_cons (q_tup (a_cons (q_int) (a_cons (q_int) (a_cons (q_int) (a_nil))))) (a_cons (q_tup (a_cons (q_int) (a_cons (q_int) (a_cons (q_int) (a_nil))))) (a_nil)))))) (s_one (s_ret (q_comp (cp_eq hu) (q_callKw at_ ((ok_device_system T B).up (by first | decide | omega)) rfl (by rfl) T.g_device_system T.F_device_system.kp T.b_device_system (a_cons (q_tup (a_cons (q_int) (a_cons (q_int) (a_cons (q_int) (a_nil))))) (a_cons (q_tup (a_cons (q_int) (a_cons (q_int) (a_nil)))) (a_nil))) (q_int) (argC_len (argC_len (argN_len)))) (q_tup (a_cons (q_var 12) (a_cons (q_tup (a_cons (q_tup (a_cons (q_int) (a_cons (q_none) (a_cons (q_none) (a_nil))))) (a_cons (q_tup (a_cons (q_int) (a_cons (q_int) (a_cons (q_int) (a_nil))))) (a_nil)))) (a_cons (q_int) (a_nil)))))))))), body_end (m := 12) rfl h⟩
end
end
end Mi.K63

namespace Mi.K63
open PySem PySem.Spec L2 Mi.B
variable {S : Store} {n : Nat}

/-! ### what a device costs -/
def mx (x : Int) : Int := if 0 < x then x else 0
def dc (ws : List Int) (f : Int) (i j : Nat) : Int := ((ws.take i).drop j).sum + mx ((j : Int) - i) * f
def dev (ps ws : List Int) (f : Int) : SysF := ⟨ps.length, 2, dc ws f, fun r i => if r = 0 then (if i = 0 then some 0 else none) else some (ps.getD i 0), 0⟩
structure DevOk (ps ws : List Int) (f : Int) : Prop where
  l2 : 2 ≤ ps.length
  l4 : ps.length ≤ 4
  lw : ws.length + 1 = ps.length
  p : ∀ x ∈ ps, 0 ≤ x ∧ x ≤ 100
  w : ∀ x ∈ ws, 1 ≤ x ∧ x ≤ 100
  f1 : 1 ≤ f
  f2 : f ≤ 100
/-- the least of cases: the wakes are one, two or three -/
theorem ws_cases {ps ws : List Int} {f : Int} (h : DevOk ps ws f) : (∃ a, ws = [a] ∧ ps.length = 2) ∨ (∃ a b, ws = [a, b] ∧ ps.length = 3) ∨ ∃ a b c, ws = [a, b, c] ∧ ps.length = 4 := by
  have h1 := h.l2
  have h2 := h.l4
  have h3 := h.lw
  match ws, h3 with
  | [], h3 => simp at h3; omega
  | [a], h3 => exact .inl ⟨a, rfl, by simp at h3; omega⟩
  | [a, b], h3 => exact .inr (.inl ⟨a, b, rfl, by simp at h3; omega⟩)
  | [a, b, c], h3 => exact .inr (.inr ⟨a, b, c, rfl, by simp at h3; omega⟩)
  | a :: b :: c :: d :: r, h3 => simp at h3; omega
theorem lt2 {i : Nat} (h : i < 2) : i = 0 ∨ i = 1 := by omega
theorem lt3 {i : Nat} (h : i < 3) : i = 0 ∨ i = 1 ∨ i = 2 := by omega
theorem lt4 {i : Nat} (h : i < 4) : i = 0 ∨ i = 1 ∨ i = 2 ∨ i = 3 := by omega
theorem f_cases {f : Int} (h1 : 1 ≤ f) (h2 : f ≤ 100) : 1 ≤ 1 * f ∧ 1 ≤ 2 * f ∧ 1 ≤ 3 * f ∧ 3 * f ≤ 300 := by omega
theorem dev_ok {ps ws : List Int} {f : Int} (h : DevOk ps ws f) : (dev ps ws f).Ok := by
  have hf1 := h.f1
  have hf2 := h.f2
  have hw := h.w
  have hl2 := h.l2
  refine ⟨h.l2, by have := h.l4; show ps.length ≤ 10; omega, by show 1 ≤ 2; decide, by show 2 ≤ 8; decide, by show 0 < ps.length; omega, fun i hi => ?_, fun i hi j hj hne => ?_, fun i hi j hj => ?_, fun i hi j hj k hk => ?_, fun r hr i hi c hc => ?_, fun r hr => ?_⟩
  · show dc ws f i i = 0
    unfold dc
    rw [List.drop_eq_nil_of_le (by rw [List.length_take]; omega)]
    simp [mx]
  · have ii : i < ps.length := hi
    have jj : j < ps.length := hj
    show 1 ≤ dc ws f i j
    rcases ws_cases h with ⟨a, rfl, e⟩ | ⟨a, b, rfl, e⟩ | ⟨a, b, c, rfl, e⟩ <;> rw [e] at ii jj <;> simp only [List.forall_mem_cons] at hw
    · rcases lt2 ii with rfl | rfl <;> rcases lt2 jj with rfl | rfl <;> simp [dc, mx] at hne ⊢ <;> omega
    · rcases lt3 ii with rfl | rfl | rfl <;> rcases lt3 jj with rfl | rfl | rfl <;> simp [dc, mx] at hne ⊢ <;> omega
    · rcases lt4 ii with rfl | rfl | rfl | rfl <;> rcases lt4 jj with rfl | rfl | rfl | rfl <;> simp [dc, mx] at hne ⊢ <;> omega
  · have ii : i < ps.length := hi
    have jj : j < ps.length := hj
    show dc ws f i j ≤ 1000
    rcases ws_cases h with ⟨a, rfl, e⟩ | ⟨a, b, rfl, e⟩ | ⟨a, b, c, rfl, e⟩ <;> rw [e] at ii jj <;> simp only [List.forall_mem_cons] at hw
    · rcases lt2 ii with rfl | rfl <;> rcases lt2 jj with rfl | rfl <;> simp [dc, mx] <;> omega
    · rcases lt3 ii with rfl | rfl | rfl <;> rcases lt3 jj with rfl | rfl | rfl <;> simp [dc, mx] <;> omega
    · rcases lt4 ii with rfl | rfl | rfl | rfl <;> rcases lt4 jj with rfl | rfl | rfl | rfl <;> simp [dc, mx] <;> omega
  · have ii : i < ps.length := hi
    have jj : j < ps.length := hj
    have kk : k < ps.length := hk
    show dc ws f i k ≤ dc ws f i j + dc ws f j k
    rcases ws_cases h with ⟨a, rfl, e⟩ | ⟨a, b, rfl, e⟩ | ⟨a, b, c, rfl, e⟩ <;> rw [e] at ii jj kk <;> simp only [List.forall_mem_cons] at hw
    · rcases lt2 ii with rfl | rfl <;> rcases lt2 jj with rfl | rfl <;> rcases lt2 kk with rfl | rfl <;> simp [dc, mx] <;> omega
    · rcases lt3 ii with rfl | rfl | rfl <;> rcases lt3 jj with rfl | rfl | rfl <;> rcases lt3 kk with rfl | rfl | rfl <;> simp [dc, mx] <;> omega
    · rcases lt4 ii with rfl | rfl | rfl | rfl <;> rcases lt4 jj with rfl | rfl | rfl | rfl <;> rcases lt4 kk with rfl | rfl | rfl | rfl <;> simp [dc, mx] <;> omega
  · have hi : i < ps.length := hi
    have hc : (if r = 0 then (if i = 0 then some (0 : Int) else none) else some (ps.getD i 0)) = some c := hc
    split at hc
    · split at hc
      · cases hc; omega
      · cases hc
    · cases hc
      have := h.p (ps.getD i 0) (by rw [List.getD_eq_getElem?_getD, List.getElem?_eq_getElem hi]; exact List.getElem_mem hi)
      omega
  · refine ⟨0, by show 0 < ps.length; omega, ?_⟩
    show (if r = 0 then (if 0 = 0 then some (0 : Int) else none) else some (ps.getD 0 0)).isSome = true
    split <;> simp
/-! ### the lambda -/
theorem revive_kill (S : Store) : revive S (killF S) = S := by
  apply List.ext_getElem?
  intro i
  unfold revive killF
  rw [List.getElem?_mapIdx, List.getElem?_map]
  cases h : S[i]? with
  | none => rfl
  | some c => cases c <;> simp [h]
theorem ints_all (l : List Int) : optAll ((l.map D.int).map intO) = some l := by
  induction l with
  | nil => rfl
  | cons a l ih =>
    rw [List.map_cons, List.map_cons]
    show optAll (some a :: (l.map D.int).map intO) = _
    unfold optAll
    rw [ih]
theorem sumT_at (l : List Int) : sumTD [intsD l] S = .ok (.int l.sum) S := by
  have e : intsO S (intsD l) = some (true, l) := by
    unfold intsO
    have e2 : seqO S (intsD l) = some (true, l.map D.int) := rfl
    rw [e2]
    simp only [ints_all]
  unfold sumTD
  simp only [e]
theorem sl_at {ws : List Int} {i j : Nat} : slD (intsD ws) (some (j : Int)) (some (i : Int)) S = .ok (intsD ((ws.take i).drop j)) S := by
  have key : cutD (ws.map D.int) (some (j : Int)) (some (i : Int)) = ((ws.take i).drop j).map D.int := by
    unfold cutD
    rw [HT.sIx_nat, HT.sIx_nat, List.length_map]
    apply List.ext_getElem?
    intro k
    rw [List.getElem?_take, List.getElem?_drop, List.getElem?_map, List.getElem?_map, List.getElem?_drop, List.getElem?_take]
    by_cases h1 : k < min i ws.length - min j ws.length
    · rw [if_pos h1, if_pos (by omega)]
      have e : min j ws.length = j := by omega
      rw [e]
    · rw [if_neg h1]
      by_cases h2 : j + k < i
      · rw [if_pos h2, List.getElem?_eq_none (by omega)]
        rfl
      · rw [if_neg h2]
        rfl
  show R.ok (D.tup (cutD (ws.map D.int) (some (j : Int)) (some (i : Int)))) S = _
  rw [key]
  rfl
theorem small_log {c : Int} (h0 : 0 ≤ c) (h1 : c ≤ 1001) : c.natAbs.log2 < 63 := by
  by_cases z : c.natAbs = 0
  · rw [z]; decide
  · rw [Nat.log2_lt z]
    have : (2 : Nat) ^ 63 = 9223372036854775808 := rfl
    omega
theorem lam_at {ws : List Int} {f : Int} (hf0 : 0 ≤ f) (hf : f ≤ 100) {i j : Nat} (hi : i ≤ 3) (hj : j ≤ 3) : mfT l_device_system [intsD ws, .int f] [.int i, .int j] S = .ok (.int (dc ws f i j)) S := by
  unfold mfT
  rw [if_pos rfl]
  unfold lamF
  have e : mb_device_system (([intsD ws, .int f].map some ++ [D.int i, .int j].map some) ++ List.replicate 0 none) (killF S) = .ok (.int (dc ws f i j)) (killF S) := by
    unfold mb_device_system
    have e1 := sl_at (S := killF S) (ws := ws) (i := i) (j := j)
    have e2 := sumT_at (S := killF S) ((ws.take i).drop j)
    have e3 : max2D [D.int ((j : Int) - i), D.int 0] (killF S) = .ok (.int (mx ((j : Int) - i))) (killF S) := by
      show R.ok (D.int (if (0 : Int) > (j : Int) - i then 0 else (j : Int) - i)) _ = _
      unfold mx
      congr 2
      split <;> split <;> omega
    have e4 : mulD (D.int (mx ((j : Int) - i))) (D.int f) (killF S) = .ok (.int (mx ((j : Int) - i) * f)) (killF S) := mul_at (.inr (small_log hf0 (by omega)))
    simp [e1, e2, e3, e4, addD, dc]
  rw [e]
  simp only [revive_kill]
/-! ### the table, the system -/
def lvD (n : Nat) : D := .tup (tabl n fun i => .int i)
theorem call_at {ws : List Int} {f : Int} (hf0 : 0 ≤ f) (hf : f ≤ 100) {x : Option D} {i j m : Nat} (hi : i ≤ 3) (hj : j ≤ 3) (h : S[m]? = some (.fn l_device_system [intsD ws, .int f])) :
    callF 1 mfT (argC (vr 2) (argC (vr 3) argN)) [x, some (.ref m), some (.int i), some (.int j)] S = .ok (.int (dc ws f i j)) S := by
  unfold callF
  have e := lam_at (S := S) (ws := ws) hf0 hf hi hj
  simp [h, e]
theorem table_at {ws : List Int} {f : Int} (hf0 : 0 ≤ f) (hf : f ≤ 100) {k m : Nat} (hk : k ≤ 4) (h : S[m]? = some (.fn l_device_system [intsD ws, .int f])) :
    wpR (f_table_of [lvD k, .ref m] S) fun d S' => d = .tup (tabl k fun i => .tup (tabl k fun j => .int (dc ws f i j))) ∧ Gr S S' := by
  simp only [f_table_of, b_table_of, wp_run, wp_seq]
  have el : lvD k = .tup (tabl k fun i => .int i) := rfl
  simp [el]
  refine wp_lcM (fun d => match d with | .int i => .tup (tabl k fun j => .int (dc ws f i.toNat j)) | d => d) (by simp; omega) (fun _ _ => rfl) ?_ ?_
  · intro d S1 hd g1
    obtain ⟨i, hi, rfl⟩ := tabl_mem hd
    simp [wipeE]
    refine wp_lcX (fun d => match d with | .int j => some (.int (dc ws f i j.toNat)) | d => some d) (by simp; omega) (fun _ _ => rfl) ?_ ?_
    · intro d S2 hd g2
      obtain ⟨j, hj, rfl⟩ := tabl_mem hd
      have h2 := g2.get (g1.get h)
      have e := call_at (x := some (lvD k)) (S := S2) hf0 hf (i := i) (j := j) (by omega) (by omega) h2
      rw [el] at e
      simp [wipeE, e]
    · simp [tupOfD]
      refine ⟨Gr.app _ _, ?_⟩
      unfold tabl
      rw [List.filterMap_map]
      refine Eq.trans (filterMap_some (fun j => D.int (dc ws f i j)) _) rfl
  · intro J
    have k2 := Gr.last S (Cell.lst ((tabl k fun i => D.int i).map fun d => match d with | .int i => .tup (tabl k fun j => .int (dc ws f i.toNat j)) | d => d)) J
    simp [tupOfD]
    refine ⟨?_, Gr.app _ _⟩
    unfold tabl
    rw [List.map_map]
    exact List.map_congr_left fun i _ => rfl
end Mi.K63

namespace Mi.K63
open PySem PySem.Spec L2 Mi.B
variable {S : Store} {n : Nat}

/-! ### powers, wakes: they are as they must be -/
theorem isint_at {i : Int} {lo hi : Int} (h1 : lo ≤ i) (h2 : i ≤ hi) : f_is_integer_from [.int i, .int lo, .int hi] S = .ok (.bl true) S := by
  rw [is_integer_from_eq (t := .int) rfl]
  have : isI (.int i) lo hi = true := isI_iff.mpr ⟨i, rfl, by omega, by omega⟩
  rw [this]
theorem ok_of {r : R D} {a : D} {T : Store} (h : wpR r fun d S' => d = a ∧ S' = T) : r = .ok a T := by
  obtain ⟨_, _, e, rfl, rfl⟩ := wpR_ex h
  exact e
theorem ints_from_at {l : List Int} {lo hi : Int} (h : ∀ x ∈ l, lo ≤ x ∧ x ≤ hi) : f_are_integers_from [intsD l, .int lo, .int hi] S = .ok (.bl true) S := by
  apply ok_of
  simp only [f_are_integers_from, b_are_integers_from, wp_run, wp_seq, wp_ifS]
  have el : intsD l = .tup (l.map D.int) := rfl
  simp [el, isiD, isiT]
  refine wp_forL (fun k e S' => S' = S ∧ ∃ a, e = [some (intsD l), some (.int lo), some (.int hi), a]) ⟨rfl, _, rfl⟩ (fun _ _ _ _ => rfl) ?_ ?_
  · rintro k d e S1 hk ⟨rfl, a, rfl⟩
    rw [List.getElem?_map] at hk
    cases hx : l[k]? with
    | none => rw [hx] at hk; cases hk
    | some x =>
      rw [hx] at hk
      cases hk
      have := h x (List.mem_of_getElem? hx)
      simp [isint_at this.1 this.2]
  · rintro e S1 ⟨rfl, a, rfl⟩
    simp
/-- strictly falling -/
def Falls : List Int → Prop
  | [] => True
  | [_] => True
  | a :: b :: l => b < a ∧ Falls (b :: l)
theorem falls_at : ∀ {l : List Int} {i : Nat} {a b : Int}, Falls l → l[i]? = some a → l[i + 1]? = some b → b < a
  | [], _, _, _, _, h, _ => by cases h
  | [x], i, a, b, _, _, h => by cases i <;> cases h
  | x :: y :: l, 0, a, b, h, h1, h2 => by
    cases h1
    cases h2
    exact h.1
  | x :: y :: l, i + 1, a, b, h, h1, h2 => falls_at (l := y :: l) (i := i) h.2 h1 h2
theorem ints_tabl (l : List Int) : l.map D.int = tabl l.length fun i => .int (l.getD i 0) := by
  apply List.ext_getElem?
  intro i
  unfold tabl
  rw [List.getElem?_map, List.getElem?_map]
  rcases Nat.lt_or_ge i l.length with z | z
  · rw [List.getElem?_range z, List.getElem?_eq_getElem z]
    simp [z]
  · rw [List.getElem?_eq_none z, List.getElem?_eq_none (by simpa using z)]
    rfl
theorem ix_ints {l : List Int} {k : Nat} (h : k < l.length) : ixD (intsD l) (.int (k : Int)) S = .ok (.int l[k]) S := by
  have e2 : intsD l = .tup (tabl l.length fun i => .int (l.getD i 0)) := by
    rw [← ints_tabl]
    rfl
  rw [e2, ix_tupl h]
  simp [h]
theorem ascending_at {l : List Int} (hl : 1 ≤ l.length) (h4 : l.length ≤ 4) (h : ∀ (i : Nat) (a b : Int), l[i]? = some a → l[i + 1]? = some b → a < b) : f_is_ascending [intsD l] S = .ok (.bl true) S := by
  apply ok_of
  simp only [f_is_ascending, b_is_ascending, wp_run, wp_seq, wp_ifS]
  have el : intsD l = .tup (l.map D.int) := rfl
  have e4 : ∀ S, lenD [intsD l] S = .ok (.int (l.length : Int)) S := fun S => by
    show R.ok (D.int (((l.map D.int).length : Nat) : Int)) S = _
    rw [List.length_map]
  simp
  rw [src2_at (lo := 1) (hi := l.length) (S' := S) (by simp [e4]) (by decide) (by decide) (by omega) (by omega)]
  simp only [wp_ok]
  refine wp_forL (fun k e S' => S' = S ∧ ∃ a, e = [some (intsD l), a]) ⟨rfl, _, rfl⟩ (fun _ _ _ _ => rfl) ?_ ?_
  · rintro k d e S1 hk ⟨rfl, a, rfl⟩
    have hk2 : k < ((l.length : Int) - 1).toNat := by
      have := (List.getElem?_eq_some_iff.mp hk).1
      rw [rangeD_len] at this
      exact this
    rw [rangeD_get hk2] at hk
    cases hk
    have k1 : k < l.length := by omega
    have k3 : k + 1 < l.length := by omega
    have i1 : ixD (intsD l) (.int (1 + (k : Int) - 1)) S1 = .ok (.int l[k]) S1 := by
      rw [show (1 : Int) + (k : Int) - 1 = (k : Int) by omega]
      exact ix_ints k1
    have i2 : ixD (intsD l) (.int (1 + (k : Int))) S1 = .ok (.int l[k + 1]) S1 := by
      rw [show (1 : Int) + (k : Int) = ((k + 1 : Nat) : Int) by omega]
      exact ix_ints k3
    have := h k _ _ (List.getElem?_eq_getElem k1) (List.getElem?_eq_getElem k3)
    simp [i1, i2]
    omega
  · rintro e S1 ⟨rfl, a, rfl⟩
    simp
theorem fits_powers_at {ps : List Int} (h2 : 2 ≤ ps.length) (h4 : ps.length ≤ 4) (hp : ∀ x ∈ ps, 0 ≤ x ∧ x ≤ 100) (hf : Falls ps) : f_fits_powers [intsD ps] S = .ok (.bl true) S := by
  apply ok_of
  have e4 : ∀ S, lenD [intsD ps] S = .ok (.int (ps.length : Int)) S := fun S => by
    show R.ok (D.int (((ps.map D.int).length : Nat) : Int)) S = _
    rw [List.length_map]
  have e1 : ∀ S, f_are_integers_from [intsD ps, .int 0, .int 100] S = .ok (.bl true) S := fun S => ints_from_at hp
  have e2 : ∀ S, f_is_ascending [intsD ps.reverse] S = .ok (.bl true) S := fun S => ascending_at (by rw [List.length_reverse]; omega) (by rw [List.length_reverse]; exact h4) fun i a b h1 h2 => by
    have l1 := (List.getElem?_eq_some_iff.mp h2).1
    rw [List.length_reverse] at l1
    rw [List.getElem?_reverse (by omega)] at h1 h2
    refine falls_at (i := ps.length - 1 - (i + 1)) hf h2 ?_
    rw [← h1]
    congr 1
    omega
  simp only [f_fits_powers, b_fits_powers, wp_run, wp_seq, wp_ifS]
  simp [e1, e4]
  rw [decide_eq_true (show (2 : Int) ≤ (ps.length : Int) by omega)]
  simp only [wp_ok]
  refine ⟨decide_eq_true (by omega), ?_⟩
  have el : intsD ps = .tup (ps.map D.int) := rfl
  simp only [el, wp_ok]
  rw [show D.tup (ps.map D.int).reverse = intsD ps.reverse by rw [← List.map_reverse]; rfl, e2]
  simp
theorem cif_at {c : Int} {lo hi : Int} (h1 : lo ≤ c) (h2 : c ≤ hi) : f_check_integer_from [.int c, .int lo, .int hi] S = .ok .non S := by
  simp only [f_check_integer_from, b_check_integer_from]
  rw [runB_ap]
  simp [ifS_ap, isint_at h1 h2, nxS_ap, exS_ok]
theorem work_at {k : Nat} (hk : 2 ≤ k) (h4 : k ≤ 4) {T : Store} {Q : D → Store → Prop} (h : Q (.tup (tabl k fun i => optD (if i = 0 then some 0 else none))) T) : wpR (mulD (.tup [.non]) (.int ((k : Int) - 1)) T) fun a S1 => wpR (addD (.tup [.int 0]) a S1) Q := by
  have e : mulD (.tup [.non]) (.int ((k : Int) - 1)) T = .ok (.tup (List.replicate ((k : Int) - 1).toNat [D.non]).flatten) T := by
    show (if ([D.non].length ≤ 1000 ∧ (k : Int) - 1 ≤ 1000 ∧ -(2 ^ 63) ≤ (k : Int) - 1 ∧ [D.non].isEmpty = false) then R.ok (D.tup (List.replicate ((k : Int) - 1).toNat [D.non]).flatten) T else R.bad) = _
    rw [if_pos ⟨by decide, by omega, by omega, rfl⟩]
  rw [e, wp_ok]
  have : k = 2 ∨ k = 3 ∨ k = 4 := by omega
  rcases this with rfl | rfl | rfl <;> exact wpR_of rfl h
theorem wp_lamCall {i : Nat} {y : Str} {l : LamI} {js : List Nat} {mf : MF} {ma : ME} {e : Vs} {d : D} {caps : List D} {Q : D → Store → Prop} (h1 : ma e S = .ok d S) (h2 : S[i]? = some (.tab y)) (h3 : capsOf e js = some caps)
    (h : wpR (mf [d, .ref S.length] (S ++ [.fn l caps])) fun d' S' => Gr (S ++ [.fn l caps]) S' ∧ ∀ S2, Gr S S2 → Q d' S2) : wpR (lamCall i y l js mf ma e S) Q := by
  unfold lamCall
  rw [h1]
  simp only [R.bind, h2, h3, if_true]
  obtain ⟨d', S', e, ⟨J, rfl⟩, q⟩ := wpR_ex h
  rw [e]
  unfold finN
  simp only [wp_ok, List.append_assoc, killN_app]
  exact q _ (Gr.app _ _)
theorem device_at (h0 : S[0]? = some (.tab "device_system")) {ps ws : List Int} {f : Int} (h : DevOk ps ws f) (hf : Falls ps) : wpR (f_device_system [intsD ps, intsD ws, .int f] S) fun d S' => d = (dev ps ws f).d ∧ Gr S S' := by
  have h2 := h.l2
  have h4 := h.l4
  have hw := h.lw
  have e1 : ∀ S, f_fits_powers [intsD ps] S = .ok (.bl true) S := fun S => fits_powers_at h2 h4 h.p hf
  have e2 : ∀ S, f_are_integers_from [intsD ws, .int 1, .int 100] S = .ok (.bl true) S := fun S => ints_from_at h.w
  have e3 : ∀ S, f_check_integer_from [.int f, .int 1, .int 100] S = .ok .non S := fun S => cif_at h.f1 h.f2
  have e4 : ∀ S, lenD [intsD ps] S = .ok (.int (ps.length : Int)) S := fun S => by
    show R.ok (D.int (((ps.map D.int).length : Nat) : Int)) S = _
    rw [List.length_map]
  have e5 : ∀ S, f_is_tuple_of [intsD ws, .int ((ps.length : Int) - 1)] S = .ok (.bl true) S := fun S => by
    rw [is_tuple_of_eq (t := .tup) rfl]
    have : isT (intsD ws) ((ps.length : Int) - 1) = true := by
      show decide ((((ws.map D.int).length : Nat) : Int) = (ps.length : Int) - 1) = true
      rw [List.length_map]
      exact decide_eq_true (by omega)
    rw [this]
  simp only [f_device_system, b_device_system, wp_run, wp_seq, wp_ifS]
  simp [e1, e2, e3, e4, e5]
  rw [if_pos (by omega), wp_ok]
  have er : rangeD 0 ps.length = tabl ps.length fun i => .int i := by
    unfold rangeD tabl
    exact List.map_congr_left fun i _ => by simp
  have k0 := get_last (S := S) (c := Cell.lst (rangeD 0 ps.length))
  have g0 := Gr.app S [Cell.lst (rangeD 0 ps.length)]
  generalize S ++ [Cell.lst (rangeD 0 ps.length)] = S1 at *
  simp [tupOfD, k0, er]
  refine wp_lamCall (d := lvD ps.length) (caps := [intsD ws, .int f]) rfl (g0.get h0) rfl ?_
  refine wpR_mono (table_at (by have := h.f1; omega) h.f2 h4 get_last) ?_
  rintro _ S2 ⟨rfl, g2⟩
  refine ⟨g2, fun S3 g3 => ?_⟩
  refine work_at h2 h4 ⟨?_, g0.trans g3⟩
  have er2 : (dev ps ws f).reqsD = .tup [.tup (tabl ps.length fun i => optD (if i = 0 then some 0 else none)), intsD ps] := by
    show D.tup [(dev ps ws f).reqD 0, (dev ps ws f).reqD 1] = _
    congr 2
    congr 1
    show D.tup (tabl ps.length fun i => optD (some (ps.getD i 0))) = D.tup (ps.map D.int)
    rw [ints_tabl]
    rfl
  show _ = D.tup [(dev ps ws f).tabD, (dev ps ws f).reqsD, .int 0]
  rw [er2]
  rfl
end Mi.K63

namespace Mi.K63
open PySem PySem.Spec L2 Mi.B
variable {S : Store} {n : Nat}

theorem falls_snoc : ∀ {l : List Int} {x : Int}, Falls l → (∀ y, l.getLast? = some y → x < y) → Falls (l ++ [x])
  | [], x, _, _ => trivial
  | [a], x, _, h => ⟨h a rfl, trivial⟩
  | a :: b :: l, x, h, hx => ⟨h.1, falls_snoc (l := b :: l) h.2 fun y hy => hx y (by rw [List.getLast?_cons_cons]; exact hy)⟩
theorem ints_of {xs : List D} {lo hi : Int} : (∀ y ∈ xs, ∃ v : Int, y = .int v ∧ lo ≤ v ∧ v ≤ hi) → ∃ q : List Int, xs = q.map D.int ∧ ∀ x ∈ q, lo ≤ x ∧ x ≤ hi := by
  induction xs with
  | nil => exact fun _ => ⟨[], rfl, by simp⟩
  | cons a l ih =>
    intro h
    obtain ⟨q, rfl, hq⟩ := ih fun y hy => h y (List.mem_cons_of_mem _ hy)
    obtain ⟨v, rfl, hv⟩ := h a List.mem_cons_self
    exact ⟨v :: q, rfl, by
      intro x hx
      rcases List.mem_cons.mp hx with rfl | hx
      · exact hv
      · exact hq x hx⟩
/-- the drawn powers after k levels -/
structure PwI (L : Nat) (n m : Nat) (S0 : Store) (k : Nat) (e : Vs) (S' : Store) : Prop where
  ext : Ext n S0 S'
  ex : ∃ (ps : List Int) (p : Int) (a b c : Option D), e = [some (.ref n), some (.int L), some (.int p), some (.ref m), a, b, c] ∧ S'[m]? = some (.lst (ps.map D.int)) ∧ ps.length = k ∧ Falls ps ∧ (∀ x ∈ ps, 0 ≤ x ∧ x ≤ 100) ∧ (L : Int) - k ≤ p ∧ p ≤ 100 ∧ ∀ y, ps.getLast? = some y → p < y
theorem law_device_at (h : Strm n S) : wpR (f_law_device [.ref n] S) fun d S' => ∃ ps ws f, DevOk ps ws f ∧ Falls ps ∧ d = .tup [intsD ps, intsD ws, .int f] ∧ Ext n S S' := by
  simp only [f_law_device, b_law_device, wp_run, wp_seq, wp_ifS]
  simp
  refine wpR_mono (drawT 3 rfl h (by decide) (by decide)) ?_
  rintro _ S1 ⟨⟨l0, rfl, hl0⟩, x1, z1⟩
  simp
  have y1 := Ext.app x1.1 [Cell.lst [.int 100, .int 40, .int 9]]
  have k1 := get_last (S := S1) (c := Cell.lst [.int 100, .int 40, .int 9])
  have n1 := x1.1.lt
  generalize S1 ++ [Cell.lst [D.int 100, .int 40, .int 9]] = S2 at *
  refine wpR_mono (drawT 3 rfl y1.1 (by decide) (by decide)) ?_
  rintro _ S3 ⟨⟨c0, rfl, hc0⟩, x3, z3⟩
  have k3 := x3.get (show S1.length ≠ n by omega) k1
  obtain ⟨p0, hp0, hp1, ep⟩ : ∃ p : Int, 9 ≤ p ∧ p ≤ 100 ∧ ixD (.ref S1.length) (.int (c0 : Int)) S3 = .ok (.int p) S3 := by
    have : c0 = 0 ∨ c0 = 1 ∨ c0 = 2 := by omega
    rcases this with rfl | rfl | rfl
    · exact ⟨100, by decide, by decide, by simp only [ixD, k3]; rfl⟩
    · exact ⟨40, by decide, by decide, by simp only [ixD, k3]; rfl⟩
    · exact ⟨9, by decide, by decide, by simp only [ixD, k3]; rfl⟩
  rw [ep]
  simp
  have hL : ((2 + l0 : Nat) : Int) = 2 + (l0 : Int) := by omega
  rw [← hL]
  generalize hLe : 2 + l0 = L at *
  rw [src1_nat (n := L) (S1 := S3 ++ [.lst []]) (by simp) (by omega), wp_ok]
  have y3 := Ext.app x3.1 [Cell.lst []]
  have k4 := get_last (S := S3) (c := Cell.lst [])
  have n3 := x3.1.lt
  generalize S3 ++ [Cell.lst []] = S4 at *
  refine wp_forR (PwI L n S3.length S3) ⟨y3, [], p0, none, none, none, rfl, k4, rfl, trivial, by simp, by omega, hp1, by simp⟩ ?_ ?_
  · rintro k e S5 hk ⟨x5, ps, p, a, b, c, rfl, k5, lps, fps, bps, pl, ph, pp⟩
    simp [k5]
    rw [if_pos (by rw [lps]; omega), wp_ok]
    have hkp : 0 ≤ p - L + k := by omega
    have ef : fdivD (.int (p - L + k + 1)) (.int 2) (S5.set S3.length (.lst (ps.map D.int ++ [.int p]))) = .ok (.int ((p - L + k + 1) / 2)) (S5.set S3.length (.lst (ps.map D.int ++ [.int p]))) := by
      simp only [fdivD, intD]
      rw [if_pos (by decide +kernel)]
    have x6 : Ext n S3 (S5.set S3.length (.lst (ps.map D.int ++ [.int p]))) := x5.setHi n3 (Nat.le_refl _)
    have k6 : (S5.set S3.length (Cell.lst (ps.map D.int ++ [.int p])))[S3.length]? = some (.lst (ps.map D.int ++ [.int p])) := set_get k5
    generalize (S5.set S3.length (Cell.lst (ps.map D.int ++ [.int p]))) = S6 at *
    rw [if_pos (show Nat.log2 2 < 9000 by decide +kernel), wp_ok]
    have em : max2D [.int 1, .int ((p - L + k + 1) / 2)] S6 = .ok (.int ((if (p - L + k + 1) / 2 > 1 then (p - L + k + 1) / 2 else 1))) S6 := rfl
    rw [em, wp_ok]
    generalize hq : (if (p - (L : Int) + k + 1) / 2 > 1 then (p - (L : Int) + k + 1) / 2 else 1) = q
    have hq1 : 1 ≤ q := by rw [← hq]; split <;> omega
    have hq2 : q ≤ 1000 := by rw [← hq]; split <;> omega
    refine wpR_mono (drawT q.toNat (by omega) x6.1 (by omega) (by omega)) ?_
    rintro _ S7 ⟨⟨r, rfl, hr⟩, x7, z7⟩
    have hsub : subD (.int (p - 1)) (.int (r : Int)) S7 = .ok (.int (p - 1 - r)) S7 := rfl
    rw [hsub, wp_ok]
    have hr2 : (r : Int) < q := by omega
    refine ⟨x6.trans x7, ps ++ [p], p - 1 - r, _, _, _, rfl, ?_, by rw [List.length_append, lps]; rfl, falls_snoc fps pp, ?_, ?_, by omega, ?_⟩
    · rw [x7.get (show S3.length ≠ n by omega) k6, List.map_append]
      rfl
    · intro x hx
      rcases List.mem_append.mp hx with hx | hx
      · exact bps x hx
      · rw [List.mem_singleton] at hx
        subst hx
        omega
    · rw [← hq] at hr2
      split at hr2 <;> omega
    · intro y hy
      rw [List.getLast?_append] at hy
      have hy : p = y := by simpa using hy
      omega
  · rintro e S5 ⟨x5, ps, p, a, b, c, rfl, k5, lps, fps, bps, pl, ph, pp⟩
    have y6 := Ext.app x5.1 [Cell.lst [.int 100, .int 5]]
    have k6 := get_last (S := S5) (c := Cell.lst [.int 100, .int 5])
    have k6' := y6.get (show S3.length ≠ n by omega) k5
    have n5 := x5.1.lt
    have l5 := x5.2.1
    have l3 := (List.getElem?_eq_some_iff.mp k5).1
    generalize S5 ++ [Cell.lst [D.int 100, .int 5]] = S6 at *
    simp
    refine wpR_mono (drawT 2 rfl y6.1 (by decide) (by decide)) ?_
    rintro _ S7 ⟨⟨c1, rfl, hc1⟩, x7, z7⟩
    have k7 := x7.get (show S5.length ≠ n by omega) k6
    have k7' := x7.get (show S3.length ≠ n by omega) k6'
    obtain ⟨t, ht1, ht2, et⟩ : ∃ t : Nat, 1 ≤ t ∧ t ≤ 100 ∧ ixD (.ref S5.length) (.int (c1 : Int)) S7 = .ok (.int (t : Int)) S7 := by
      have : c1 = 0 ∨ c1 = 1 := by omega
      rcases this with rfl | rfl
      · exact ⟨100, by decide, by decide, by simp only [ixD, k7]; rfl⟩
      · exact ⟨5, by decide, by decide, by simp only [ixD, k7]; rfl⟩
    rw [et, wp_ok]
    rw [src1_nat (n := L - 1) (S1 := S7) (by simp; omega) (by omega), wp_ok]
    refine wp_lcD x7.1 (fun d => ∃ v : Int, d = .int v ∧ 1 ≤ v ∧ v ≤ 100) (by rw [rangeD_len]; omega) ?_ ?_
    · rintro d S8 hd y8
      simp [wipeE]
      refine wpR_mono (drawT t rfl y8.1 (by omega) (by omega)) ?_
      rintro _ S9 ⟨⟨r, rfl, hr⟩, x9, z9⟩
      simp
      exact ⟨x9, by omega, by omega⟩
    · rintro acc S8 y8 ha hal hpa
      obtain ⟨ws, rfl, hws⟩ := ints_of hpa
      have k8 := y8.get (show S3.length ≠ n by omega) k7'
      have n8 := y8.1.lt
      simp [tupOfD, ha, k8]
      have y9 := Ext.app y8.1 [Cell.lst [.int 1, .int 1, .int 3, .int 100]]
      have k9 := get_last (S := S8) (c := Cell.lst [.int 1, .int 1, .int 3, .int 100])
      generalize S8 ++ [Cell.lst [D.int 1, .int 1, .int 3, .int 100]] = S9 at *
      refine wpR_mono (drawT 4 rfl y9.1 (by decide) (by decide)) ?_
      rintro _ S10 ⟨⟨c2, rfl, hc2⟩, x10, z10⟩
      have k10 := x10.get (show S8.length ≠ n by omega) k9
      obtain ⟨f, hf1, hf2, ef⟩ : ∃ f : Int, 1 ≤ f ∧ f ≤ 100 ∧ ixD (.ref S8.length) (.int (c2 : Int)) S10 = .ok (.int f) S10 := by
        have : c2 = 0 ∨ c2 = 1 ∨ c2 = 2 ∨ c2 = 3 := by omega
        rcases this with rfl | rfl | rfl | rfl
        · exact ⟨1, by decide, by decide, by simp only [ixD, k10]; rfl⟩
        · exact ⟨1, by decide, by decide, by simp only [ixD, k10]; rfl⟩
        · exact ⟨3, by decide, by decide, by simp only [ixD, k10]; rfl⟩
        · exact ⟨100, by decide, by decide, by simp only [ixD, k10]; rfl⟩
      rw [ef, wp_ok]
      rw [rangeD_len, List.length_map] at hal
      refine ⟨ps, ws, f, ⟨by omega, by omega, by omega, bps, hws, hf1, hf2⟩, fps, ⟨rfl, rfl, rfl⟩, ?_⟩
      exact (((((x1.trans y1).trans (x3.trans x5)).trans (y6.trans x7)).trans y8).trans y9).trans x10
end Mi.K63

namespace Mi.K63
open PySem PySem.Spec L2 Mi.B
variable {S : Store} {n : Nat}

/-! ### the law's own system -/
def cstF (ws : List Int) (f : Int) (i j : Nat) : Nat → Int
  | 0 => 0
  | k + 1 => cstF ws f i j k + (if i ≤ k ∧ k < j then f else 0) + (if j ≤ k ∧ k < i then ws.getD k 0 else 0)
theorem cstF_dc {ps ws : List Int} {f : Int} (h : DevOk ps ws f) {i j : Nat} (hi : i < ps.length) (hj : j < ps.length) : cstF ws f i j ws.length = dc ws f i j := by
  rcases ws_cases h with ⟨a, rfl, e⟩ | ⟨a, b, rfl, e⟩ | ⟨a, b, c, rfl, e⟩ <;> rw [e] at hi hj
  · rcases lt2 hi with rfl | rfl <;> rcases lt2 hj with rfl | rfl <;> simp [dc, mx, cstF]
  · rcases lt3 hi with rfl | rfl | rfl <;> rcases lt3 hj with rfl | rfl | rfl <;> simp [dc, mx, cstF] <;> omega
  · rcases lt4 hi with rfl | rfl | rfl | rfl <;> rcases lt4 hj with rfl | rfl | rfl | rfl <;> simp [dc, mx, cstF] <;> omega
def CoI (S0 : Store) (P W T R_ : D) (ws : List Int) (f : Int) (i j : Nat) (k : Nat) (e : Vs) (S' : Store) : Prop := S' = S0 ∧ ∃ x, e = [some P, some W, some (.int f), some T, some (.int i), some R_, some (.int j), some (.int (cstF ws f i j k)), x]
def RoI (m : Nat) (S0 : Store) (P W : D) (m0 : Nat) (T : List D) (ws : List Int) (f : Int) (i : Nat) (k : Nat) (e : Vs) (S' : Store) : Prop := Gr S0 S' ∧ S'[m]? = some (.lst ((List.range k).map fun j => .int (cstF ws f i j ws.length))) ∧ S'[m0]? = some (.lst T) ∧ ∃ x y z, e = [some P, some W, some (.int f), some (.ref m0), some (.int i), some (.ref m), x, y, z]
def TaI (m0 : Nat) (S0 : Store) (P W : D) (ws : List Int) (f : Int) (L : Nat) (k : Nat) (e : Vs) (S' : Store) : Prop := Gr S0 S' ∧ S'[m0]? = some (.lst ((List.range k).map fun i => .tup (tabl L fun j => .int (cstF ws f i j ws.length)))) ∧ ∃ a b x y z, e = [some P, some W, some (.int f), some (.ref m0), a, b, x, y, z]
theorem chn_le_lt {ma mb mc : ME} {e : Vs} {x y z : Int} (h1 : ma e S = .ok (.int x) S) (h2 : mb e S = .ok (.int y) S) (h3 : mc e S = .ok (.int z) S) : tst (chn leD ltD ma mb mc) e S = .ok (decide (x ≤ y ∧ y < z)) S := by
  by_cases c : x ≤ y
  · by_cases c2 : y < z
    · simp [h1, h2, h3, c, c2]
    · simp [h1, h2, h3, c, c2]
  · simp [h1, h2, h3, c]
theorem expected_at {ps ws : List Int} {f : Int} (h : DevOk ps ws f) : wpR (f_law_expected [intsD ps, intsD ws, .int f] S) fun d S' => d = (dev ps ws f).d ∧ Gr S S' := by
  have h2 := h.l2
  have h4 := h.l4
  have hw := h.lw
  have e4 : ∀ l : List Int, ∀ S, lenD [intsD l] S = .ok (.int (l.length : Int)) S := fun l S => by
    show R.ok (D.int (((l.map D.int).length : Nat) : Int)) S = _
    rw [List.length_map]
  simp only [f_law_expected, b_law_expected, wp_run, wp_seq, wp_ifS]
  simp
  have k0 := get_last (S := S) (c := Cell.lst [])
  have g0 := Gr.app S [Cell.lst []]
  rw [src1_nat (n := ps.length) (S1 := S ++ [.lst []]) (by simp [e4]) (by omega), wp_ok]
  refine wp_forR (TaI S.length S (intsD ps) (intsD ws) ws f ps.length) ⟨g0, k0, _, _, _, _, _, rfl⟩ ?_ ?_
  · rintro i e S1 hi ⟨g1, k1, a, b, x, y, z, rfl⟩
    simp
    have g2 := g1.appR [Cell.lst []]
    have kr := get_last (S := S1) (c := Cell.lst [])
    have k2 := (Gr.app S1 [Cell.lst []]).get k1
    rw [src1_nat (n := ps.length) (S1 := S1 ++ [.lst []]) (by simp [e4]) (by omega), wp_ok]
    have lt1 := (List.getElem?_eq_some_iff.mp k1).1
    have ls := g1.len
    generalize hSe : S1 ++ [Cell.lst []] = S2 at *
    refine wp_forR (RoI S1.length S (intsD ps) (intsD ws) S.length _ ws f i) ⟨g2, kr, k2, _, _, _, rfl⟩ ?_ ?_
    · rintro j e S3 hj ⟨g3, k3, k3', x, y, z, rfl⟩
      simp
      rw [src1_nat (n := ws.length) (S1 := S3) (by simp [e4]) (by omega), wp_ok]
      refine wp_forR (CoI S3 (intsD ps) (intsD ws) (.ref S.length) (.ref S1.length) ws f i j) ⟨rfl, _, rfl⟩ ?_ ?_
      · rintro k e S4 hk ⟨rfl, x, rfl⟩
        have iw : ixD (intsD ws) (.int (k : Int)) S4 = .ok (.int ws[k]) S4 := ix_ints hk
        have q1 := chn_le_lt (S := S4) (ma := vr 4) (mb := vr 8) (mc := vr 6) (e := [some (intsD ps), some (intsD ws), some (.int f), some (.ref S.length), some (.int i), some (.ref S1.length), some (.int j), some (.int (cstF ws f i j k)), some (.int k)]) (x := i) (y := k) (z := j) rfl rfl rfl
        have q2 : ∀ c, tst (chn leD ltD (vr 6) (vr 8) (vr 4)) [some (intsD ps), some (intsD ws), some (.int f), some (.ref S.length), some (.int i), some (.ref S1.length), some (.int j), some (.int c), some (.int k)] S4 = .ok (decide ((j : Int) ≤ k ∧ (k : Int) < i)) S4 := fun c => chn_le_lt rfl rfl rfl
        have stp : ∀ c, c = cstF ws f i j (k + 1) → CoI S4 (intsD ps) (intsD ws) (.ref S.length) (.ref S1.length) ws f i j (k + 1) [some (intsD ps), some (intsD ws), some (.int f), some (.ref S.length), some (.int i), some (.ref S1.length), some (.int j), some (.int c), some (.int k)] S4 := fun c hc => by
          subst hc
          exact ⟨rfl, _, rfl⟩
        have egd : ws.getD k 0 = ws[k] := by simp [hk]
        rw [tgN_ap, wp_ok]
        simp only [wp_seq, wp_ifS, List.set_cons_succ, List.set_cons_zero]
        rw [q1, wp_ok]
        by_cases c1 : i ≤ k ∧ k < j
        · rw [decide_eq_true (show (i : Int) ≤ k ∧ (k : Int) < j by omega)]
          simp [-tst_ap, -chn_ap]
          rw [q2, wp_ok, decide_eq_false (show ¬((j : Int) ≤ k ∧ (k : Int) < i) by omega)]
          simp
          refine stp _ ?_
          have c2 : ¬(j ≤ k ∧ k < i) := by omega
          simp [cstF, c1, c2]
        · rw [decide_eq_false (show ¬((i : Int) ≤ k ∧ (k : Int) < j) by omega)]
          simp [-tst_ap, -chn_ap]
          rw [q2, wp_ok]
          by_cases c2 : j ≤ k ∧ k < i
          · rw [decide_eq_true (show (j : Int) ≤ k ∧ (k : Int) < i by omega)]
            simp [iw]
            refine stp _ ?_
            rw [cstF, if_neg c1, if_pos c2, egd]
            omega
          · rw [decide_eq_false (show ¬((j : Int) ≤ k ∧ (k : Int) < i) by omega)]
            simp
            refine stp _ ?_
            rw [cstF, if_neg c1, if_neg c2]
            omega
      · rintro e S4 ⟨rfl, x, rfl⟩
        simp [k3]
        rw [if_pos (by omega), wp_ok]
        refine ⟨g3.set ls, ?_, ?_, _, _, _, rfl⟩
        · rw [set_get k3, List.range_succ, List.map_append]
          rfl
        · rw [List.getElem?_set_ne (by omega)]
          exact k3'
    · rintro e S3 ⟨g3, k3, k3', x, y, z, rfl⟩
      simp [tupOfD, k3, k3']
      rw [if_pos (by omega), wp_ok]
      refine ⟨g3.set (Nat.le_refl _), ?_, _, _, _, _, _, rfl⟩
      rw [set_get k3', List.range_succ, List.map_append]
      rfl
  · rintro e S1 ⟨g1, k1, a, b, x, y, z, rfl⟩
    simp [tupOfD, k1]
    rw [show (ws.length : Int) = (ps.length : Int) - 1 by omega]
    refine work_at h2 h4 ⟨?_, g1⟩
    have er2 : (dev ps ws f).reqsD = .tup [.tup (tabl ps.length fun i => optD (if i = 0 then some 0 else none)), intsD ps] := by
      show D.tup [(dev ps ws f).reqD 0, (dev ps ws f).reqD 1] = _
      congr 2
      congr 1
      show D.tup (tabl ps.length fun i => optD (some (ps.getD i 0))) = D.tup (ps.map D.int)
      rw [ints_tabl]
      rfl
    show _ = D.tup [(dev ps ws f).tabD, (dev ps ws f).reqsD, .int 0]
    rw [er2]
    have et : (dev ps ws f).tabD = .tup ((List.range ps.length).map fun i => .tup (tabl ps.length fun j => .int (cstF ws f i j ws.length))) := by
      unfold SysF.tabD tabl
      congr 1
      refine List.map_congr_left fun i hi => ?_
      unfold SysF.rowD tabl
      congr 1
      refine List.map_congr_left fun j hj => ?_
      rw [cstF_dc h (List.mem_range.mp hi) (List.mem_range.mp hj)]
      rfl
    rw [et]
end Mi.K63

namespace Mi.K63
open PySem PySem.Spec L2 Mi.B
variable {s : SysF} {S : Store} {n : Nat}

@[simp] theorem argS_ap {ms : ML} {mk : ME} {e : Vs} : argS ms mk e S = (ms e S).bind fun ds S1 => (mk e S1).bind fun d S2 => .ok (ds ++ [d]) S2 := id rfl
theorem state_okB {i : Nat} (h : i < s.n) : f_check_state [s.d, .int i] S = .ok .non S := by
  simp only [f_check_state, b_check_state]
  rw [runB_ap]
  simp [ifS_ap, fits_state_at (live_int (S := S) i), isI_nat.mpr ⟨i, rfl, h⟩, nxS_ap, exS_ok]
theorem switching_atB (hs : s.Ok) {i j : Nat} (hi : i < s.n) (hj : j < s.n) : f_switching_cost [s.d, .int i, .int j] S = .ok (.int (s.sw i j)) S := by
  simp only [f_switching_cost, b_switching_cost]
  rw [runB_ap]
  have : ixD s.d (.int 0) S = .ok s.tabD S := rfl
  simp [seqS_ap, exprS_ap, retS_ap, check_system_at hs, state_okB hi, state_okB hj, exS_ok, this, ix_tabD hi, ix_rowD hj]
theorem sum1_at {m : Nat} {l : List Int} (h : S[m]? = some (.lst (l.map D.int))) : sum1D [.ref m] S = .ok (.int l.sum) S := by
  have e : intsO S (.ref m) = some (false, l) := by
    unfold intsO
    have e2 : seqO S (.ref m) = some (false, l.map D.int) := by
      unfold seqO
      simp only [h]
    rw [e2]
    simp only [ints_all]
  unfold sum1D
  simp only [e]
/-- down and up by steps -/
theorem steps_at {ps ws : List Int} {f : Int} (h : DevOk ps ws f) : ((List.range (ps.length - 1)).map fun i => dc ws f i (i + 1)).sum = dc ws f 0 (ps.length - 1) ∧ ((List.range (ps.length - 1)).map fun i => dc ws f (i + 1) i).sum = dc ws f (ps.length - 1) 0 := by
  rcases ws_cases h with ⟨a, rfl, e⟩ | ⟨a, b, rfl, e⟩ | ⟨a, b, c, rfl, e⟩ <;> rw [e]
  · simp [dc, mx, List.range_succ]
  · simp [dc, mx, List.range_succ]
    omega
  · simp [dc, mx, List.range_succ]
    omega
theorem repr_pw {ps ws : List Int} {f : Int} (h : DevOk ps ws f) : ∃ x, ∀ S, reprD [.tup [intsD ps, intsD ws]] S = .ok (.str x) S := by
  have h4 := h.l4
  have hw := h.lw
  refine repr_pure (k := 3) ?_ (by decide) (Wt.fine (k := 3) (b := 60 + 2 * 300) (Wt.tup (ds := [intsD ps, intsD ws]) (b := 300) (k := 2) ?_) (by decide) (by decide))
  · show ([intsD ps, intsD ws] : List D).all (shal 2) = true
    have hh : ∀ l : List Int, shal 2 (intsD l) = true := fun l => by
      show (l.map D.int).all (shal 1) = true
      rw [List.all_eq_true]
      intro x hx
      obtain ⟨i, _, rfl⟩ := List.mem_map.mp hx
      rfl
    rw [List.all_cons, List.all_cons, hh, hh]
    rfl
  · intro x hx
    have hs : ∀ i : Int, 0 ≤ i → i ≤ 100 → i.natAbs ≤ 10 ^ 40 := fun i h0 h1 => small_le (b := 100) (by omega) (by decide)
    simp only [List.mem_cons, List.not_mem_nil, or_false] at hx
    rcases hx with rfl | rfl
    · exact (Wt.ints (q := ps) fun i hi => hs i (h.p i hi).1 (h.p i hi).2).le (by omega)
    · exact (Wt.ints (q := ws) fun i hi => hs i (by have := (h.w i hi).1; omega) (h.w i hi).2).le (by omega)
def LwI (ns : List Int) (k : Nat) (e : Vs) (S' : Store) : Prop := S'[0]? = some (.tab "device_system") ∧ ∃ a b c d f g h i j k l m, e = [some (.rol (ns.map D.int)), a, b, c, d, f, g, h, i, j, k, l, m]
theorem law_true : ∀ ns : List Int, ns.length ≤ 63 → ∃ S, f_law [.rol (ns.map D.int)] (([("device_system" : Str)]).map Cell.tab) = .ok (.bl true) S := by
  intro ns hns
  suffices h : wpR (f_law [.rol (ns.map D.int)] [Cell.tab "device_system"]) fun a _ => a = .bl true by
    obtain ⟨a, S, e, rfl⟩ := wpR_ex h
    exact ⟨S, e⟩
  simp only [f_law, b_law, wp_run, wp_seq, wp_ifS]
  simp [max2D, min2D]
  obtain ⟨m, hm, hm1, hm2⟩ := turns 12 (by decide) (by decide) ns.length
  rw [src1_nat (n := m) (S1 := [Cell.tab "device_system"]) ?_ (by omega)]
  rotate_left
  · simp [max2D, min2D, hm]
  rw [wp_ok]
  refine wp_forR (LwI ns) ⟨rfl, _, _, _, _, _, _, _, _, _, _, _, _, rfl⟩ ?_ ?_
  · rintro k e S2 hk ⟨t2, a, b, c, d, f, g, h, i, j, q, l, w, rfl⟩
    simp
    refine wpR_mono (stream (k := k) (by omega)) ?_
    rintro d' S3 ⟨n, rfl, hn, h3, g3⟩
    have l2 := (List.getElem?_eq_some_iff.mp t2).1
    have hn0 : (0 : Nat) ≠ n := by omega
    have t3 : S3[0]? = some (.tab "device_system") := by
      obtain ⟨c0, rfl⟩ := g3
      rw [List.getElem?_append_left l2]
      exact t2
    refine wpR_mono (law_device_at h3) ?_
    rintro _ S4 ⟨ps, ws, fl, hd, hfa, rfl, x4⟩
    have t4 := x4.get hn0 t3
    obtain ⟨rp, hrp⟩ := repr_pw hd
    simp [hrp]
    refine wpR_mono (device_at t4 hd hfa) ?_
    rintro _ S5 ⟨rfl, g5⟩
    have t5 := g5.get t4
    have hok := dev_ok hd
    obtain ⟨rs, hrs⟩ := repr_sys hok
    simp [hrs]
    refine wpR_mono (expected_at hd) ?_
    rintro _ S6 ⟨rfl, g6⟩
    have t6 := g6.get t5
    have b0 : isB (.bl true) (.bl true) = some true := rfl
    simp [hrs, is_system_at hok, b0]
    have hd1 : DevOk ps ws 1 := ⟨hd.l2, hd.l4, hd.lw, hd.p, hd.w, by decide, by decide⟩
    obtain ⟨r1, hr1⟩ := repr_sys (dev_ok hd1)
    refine wpR_mono (device_at t6 hd1 hfa) ?_
    rintro _ S7 ⟨rfl, g7⟩
    have t7 := g7.get t6
    simp [hr1]
    refine wpR_mono (expected_at hd1) ?_
    rintro _ S8 ⟨rfl, g8⟩
    have t8 := g8.get t7
    simp [hr1]
    have hl2 := hd.l2
    have hl4 := hd.l4
    have hll := hd.lw
    obtain ⟨st1, st2⟩ := steps_at hd
    have sw : ∀ {i j : Nat}, i < ps.length → j < ps.length → ∀ S, f_switching_cost [(dev ps ws fl).d, .int i, .int j] S = .ok (.int (dc ws fl i j)) S := fun hi hj S => switching_atB hok hi hj
    rw [src1_nat (n := ps.length - 1) (S1 := S8) (by simp; omega) (by omega), wp_ok]
    refine wp_lcX (fun d => match d with | .int i => some (.int (dc ws fl i.toNat (i.toNat + 1))) | d => some d) (by rw [rangeD_len]; omega) (fun _ _ => rfl) ?_ ?_
    · intro d S9 hd2 g9
      rw [rangeD0] at hd2
      obtain ⟨i, hi, rfl⟩ := tabl_mem hd2
      have e1 := sw (i := i) (j := i + 1) (by omega) (by omega) S9
      rw [show ((i + 1 : Nat) : Int) = (i : Int) + 1 by omega] at e1
      simp [wipeE, natD, e1]
    · have el : ((rangeD 0 (ps.length - 1)).filterMap fun d => match d with | .int i => some (D.int (dc ws fl i.toNat (i.toNat + 1))) | d => some d) = ((List.range (ps.length - 1)).map fun i => dc ws fl i (i + 1)).map D.int := by
        rw [rangeD0]
        unfold tabl
        rw [List.filterMap_map, List.map_map]
        exact filterMap_some (fun i => D.int (dc ws fl i (i + 1))) _
      rw [el]
      have k9 := get_last (S := S8) (c := Cell.lst (((List.range (ps.length - 1)).map fun i => dc ws fl i (i + 1)).map D.int))
      have t9 := (Gr.app S8 [Cell.lst (((List.range (ps.length - 1)).map fun i => dc ws fl i (i + 1)).map D.int)]).get t8
      generalize S8 ++ [Cell.lst (((List.range (ps.length - 1)).map fun i => dc ws fl i (i + 1)).map D.int)] = S9 at *
      rw [sum1_at k9, wp_ok, st1]
      rw [src1_nat (n := ps.length - 1) (S1 := S9) (by simp; omega) (by omega), wp_ok]
      refine wp_lcX (fun d => match d with | .int i => some (.int (dc ws fl (i.toNat + 1) i.toNat)) | d => some d) (by rw [rangeD_len]; omega) (fun _ _ => rfl) ?_ ?_
      · intro d S10 hd2 g10
        rw [rangeD0] at hd2
        obtain ⟨i, hi, rfl⟩ := tabl_mem hd2
        have e1 := sw (i := i + 1) (j := i) (by omega) (by omega) S10
        rw [show ((i + 1 : Nat) : Int) = (i : Int) + 1 by omega] at e1
        simp [wipeE, natD, e1]
      · have el2 : ((rangeD 0 (ps.length - 1)).filterMap fun d => match d with | .int i => some (D.int (dc ws fl (i.toNat + 1) i.toNat)) | d => some d) = ((List.range (ps.length - 1)).map fun i => dc ws fl (i + 1) i).map D.int := by
          rw [rangeD0]
          unfold tabl
          rw [List.filterMap_map, List.map_map]
          exact filterMap_some (fun i => D.int (dc ws fl (i + 1) i)) _
        rw [el2]
        have k10 := get_last (S := S9) (c := Cell.lst (((List.range (ps.length - 1)).map fun i => dc ws fl (i + 1) i).map D.int))
        have t10 := (Gr.app S9 [Cell.lst (((List.range (ps.length - 1)).map fun i => dc ws fl (i + 1) i).map D.int)]).get t9
        generalize S9 ++ [Cell.lst (((List.range (ps.length - 1)).map fun i => dc ws fl (i + 1) i).map D.int)] = S10 at *
        rw [sum1_at k10, wp_ok, st2]
        have e1 := sw (i := 0) (j := ps.length - 1) (by omega) (by omega) S10
        have e2 := sw (i := ps.length - 1) (j := 0) (by omega) (by omega) S10
        rw [show ((ps.length - 1 : Nat) : Int) = (ps.length : Int) - 1 by omega] at e1 e2
        have e1' : f_switching_cost [(dev ps ws fl).d, .int 0, .int ((ps.length : Int) - 1)] S10 = .ok (.int (dc ws fl 0 (ps.length - 1))) S10 := e1
        have e2' : f_switching_cost [(dev ps ws fl).d, .int ((ps.length : Int) - 1), .int 0] S10 = .ok (.int (dc ws fl (ps.length - 1) 0)) S10 := e2
        rw [e1', wp_ok, e2', wp_ok]
        have t11 := (Gr.app S10 [Cell.lst [D.int (dc ws fl 0 (ps.length - 1)), .int (dc ws fl (ps.length - 1) 0)], Cell.lst [D.int (dc ws fl 0 (ps.length - 1)), .int (dc ws fl (ps.length - 1) 0)]]).get t10
        have p1 : (S10 ++ [Cell.lst [D.int (dc ws fl 0 (ps.length - 1)), .int (dc ws fl (ps.length - 1) 0)], Cell.lst [D.int (dc ws fl 0 (ps.length - 1)), .int (dc ws fl (ps.length - 1) 0)]])[S10.length]? = some (.lst ([dc ws fl 0 (ps.length - 1), dc ws fl (ps.length - 1) 0].map D.int)) := by simp
        have p2 : (S10 ++ [Cell.lst [D.int (dc ws fl 0 (ps.length - 1)), .int (dc ws fl (ps.length - 1) 0)], Cell.lst [D.int (dc ws fl 0 (ps.length - 1)), .int (dc ws fl (ps.length - 1) 0)]])[S10.length + 1]? = some (.lst ([dc ws fl 0 (ps.length - 1), dc ws fl (ps.length - 1) 0].map D.int)) := by simp
        rw [eqB_intl p1 p2]
        simp
        exact ⟨t11, _, _, _, _, _, _, _, _, _, _, _, _, rfl⟩
  · rintro e S2 ⟨t2, a, b, c, d, f, g, h, i, j, q, l, w, rfl⟩
    simp
    have d1 : DevOk [3, 1] [4] 1 := ⟨by decide, by decide, by decide, by decide, by decide, by decide, by decide⟩
    have d2 : DevOk [100, 50, 0] [5, 7] 2 := ⟨by decide, by decide, by decide, by decide, by decide, by decide, by decide⟩
    have v1 : D.tup [D.tup [D.tup [D.int 0, D.int 1], D.tup [D.int 4, D.int 0]], D.tup [D.tup [D.int 0, D.non], D.tup [D.int 3, D.int 1]], D.int 0] = (dev [3, 1] [4] 1).d := rfl
    have v2 : D.tup [D.tup [D.tup [D.int 0, D.int 2, D.int 4], D.tup [D.int 5, D.int 0, D.int 2], D.tup [D.int 12, D.int 7, D.int 0]], D.tup [D.tup [D.int 0, D.non, D.non], D.tup [D.int 100, D.int 50, D.int 0]], D.int 0] = (dev [100, 50, 0] [5, 7] 2).d := rfl
    have es : ∀ (t : SysF) S, eqB S t.d t.d = some true := fun t S => eqB_same (k := 4) (by decide) plain_sys
    rw [v1]
    refine wpR_mono (device_at (ps := [3, 1]) (ws := [4]) t2 d1 ⟨by decide, trivial⟩) ?_
    rintro _ S3 ⟨rfl, g3⟩
    simp [es]
    rw [v2]
    refine wpR_mono (device_at (ps := [100, 50, 0]) (ws := [5, 7]) (g3.get t2) d2 ⟨by decide, by decide, trivial⟩) ?_
    rintro _ S4 ⟨rfl, g4⟩
    simp [es]
end Mi.K63

namespace Mi.K63
open PySem PySem.Spec L2 Mi.B
set_option maxHeartbeats 0 in
theorem facts_of {K : PySem.W.Frag} {h : Heap} {mg : Str → Option Value} (X : K.In h) (G : h.Ns mainGlobals mg)
    {f1 f2 f3 f4 f5 f6 f7 f8 f9 f10 f11 f12 f13 f14 f15 f16 f17 f18 f19 f20 f21 f22 f23 f24 : Addr} {od1 an1 od2 an2 od3 an3 od4 an4 od5 an5 od6 an6 od7 an7 od8 an8 od9 an9 od10 an10 od11 an11 od12 an12 od13 an13 od14 an14 od15 an15 od16 an16 od17 an17 od18 an18 od19 an19 od20 an20 od21 an21 od22 an22 od23 an23 od24 an24 : Option Addr} {sl1 sl2 sl3 sl4 sl5 sl6 sl7 sl8 sl9 sl10 sl11 sl12 sl13 sl14 sl15 sl16 sl17 sl18 sl19 sl20 sl21 sl22 sl23 sl24 : Array (Option Value)} {oc1 kV1 dc1 pm1 cd1 ct1 oc2 kV2 dc2 pm2 cd2 ct2 oc3 kV3 dc3 pm3 cd3 ct3 oc4 kV4 dc4 pm4 cd4 ct4 oc5 kV5 dc5 pm5 cd5 ct5 oc6 kV6 dc6 pm6 cd6 ct6 oc7 kV7 dc7 pm7 cd7 ct7 oc8 dc8 pm8 ct8 oc9 kV9 dc9 pm9 cd9 ct9 oc10 kV10 dc10 pm10 cd10 ct10 oc11 kV11 dc11 pm11 cd11 ct11 oc12 kV12 dc12 pm12 cd12 ct12 oc13 kV13 dc13 pm13 cd13 ct13 oc14 kV14 dc14 pm14 cd14 ct14 oc15 kV15 dc15 pm15 cd15 ct15 oc16 kV16 dc16 pm16 cd16 ct16 oc17 kV17 dc17 pm17 cd17 ct17 oc18 kV18 dc18 pm18 cd18 ct18 oc19 kV19 dc19 pm19 cd19 ct19 oc20 kV20 dc20 pm20 cd20 ct20 oc21 kV21 dc21 pm21 cd21 ct21 oc22 kV22 dc22 pm22 cd22 ct22 oc23 kV23 dc23 pm23 cd23 ct23 oc24 kV24 dc24 pm24 cd24 ct24 : Value}
    {tMAX_COST tMAX_DROP tMAX_LEVELS tMAX_POWER tMAX_REQUESTS tMAX_STATES tMAX_WAKE tMIN_LEVELS : Tok}
    {kD8 : Addr} {tkd8 : Tok}
    {cc8 P8 : Addr} {uv8 : Array Value} {uc8 : Value} {ud8 : Option Addr} {us8 : Array (Option Value)}
    (a1 : PySem.W.nsIn K mainGlobals "is_integer" = some (some (.ref f1))) (l1 : K.lookup f1 = some ⟨oc1, od1, .func (PySem.W.fnOf "is_integer" "is_integer" (defArgs s_is_integer) (defBody s_is_integer) (defScope s_is_integer) .none kV1 dc1 pm1 an1 cd1 ct1), sl1⟩) (c1 : PySem.W.codeIn K cd1 "is_integer" = true) (k1 : PySem.W.keepIn K (.ref f1) = true)
    (a2 : PySem.W.nsIn K mainGlobals "is_integer_from" = some (some (.ref f2))) (l2 : K.lookup f2 = some ⟨oc2, od2, .func (PySem.W.fnOf "is_integer_from" "is_integer_from" (defArgs s_is_integer_from) (defBody s_is_integer_from) (defScope s_is_integer_from) .none kV2 dc2 pm2 an2 cd2 ct2), sl2⟩) (c2 : PySem.W.codeIn K cd2 "is_integer_from" = true) (k2 : PySem.W.keepIn K (.ref f2) = true)
    (a3 : PySem.W.nsIn K mainGlobals "is_tuple_of" = some (some (.ref f3))) (l3 : K.lookup f3 = some ⟨oc3, od3, .func (PySem.W.fnOf "is_tuple_of" "is_tuple_of" (defArgs s_is_tuple_of) (defBody s_is_tuple_of) (defScope s_is_tuple_of) .none kV3 dc3 pm3 an3 cd3 ct3), sl3⟩) (c3 : PySem.W.codeIn K cd3 "is_tuple_of" = true) (k3 : PySem.W.keepIn K (.ref f3) = true)
    (a4 : PySem.W.nsIn K mainGlobals "are_integers_from" = some (some (.ref f4))) (l4 : K.lookup f4 = some ⟨oc4, od4, .func (PySem.W.fnOf "are_integers_from" "are_integers_from" (defArgs s_are_integers_from) (defBody s_are_integers_from) (defScope s_are_integers_from) .none kV4 dc4 pm4 an4 cd4 ct4), sl4⟩) (c4 : PySem.W.codeIn K cd4 "are_integers_from" = true) (k4 : PySem.W.keepIn K (.ref f4) = true)
    (a5 : PySem.W.nsIn K mainGlobals "is_ascending" = some (some (.ref f5))) (l5 : K.lookup f5 = some ⟨oc5, od5, .func (PySem.W.fnOf "is_ascending" "is_ascending" (defArgs s_is_ascending) (defBody s_is_ascending) (defScope s_is_ascending) .none kV5 dc5 pm5 an5 cd5 ct5), sl5⟩) (c5 : PySem.W.codeIn K cd5 "is_ascending" = true) (k5 : PySem.W.keepIn K (.ref f5) = true)
    (a6 : PySem.W.nsIn K mainGlobals "check_integer_from" = some (some (.ref f6))) (l6 : K.lookup f6 = some ⟨oc6, od6, .func (PySem.W.fnOf "check_integer_from" "check_integer_from" (defArgs s_check_integer_from) (defBody s_check_integer_from) (defScope s_check_integer_from) .none kV6 dc6 pm6 an6 cd6 ct6), sl6⟩) (c6 : PySem.W.codeIn K cd6 "check_integer_from" = true) (k6 : PySem.W.keepIn K (.ref f6) = true)
    (a7 : PySem.W.nsIn K mainGlobals "table_of" = some (some (.ref f7))) (l7 : K.lookup f7 = some ⟨oc7, od7, .func (PySem.W.fnOf "table_of" "table_of" (defArgs s_table_of) (defBody s_table_of) (defScope s_table_of) .none kV7 dc7 pm7 an7 cd7 ct7), sl7⟩) (c7 : PySem.W.codeIn K cd7 "table_of" = true) (k7 : PySem.W.keepIn K (.ref f7) = true)
    (a8 : PySem.W.nsIn K mainGlobals "device_system" = some (some (.ref f8))) (l8 : K.lookup f8 = some ⟨oc8, od8, .func (PySem.W.fnOf "device_system" "device_system" (defArgs s_device_system) (defBody s_device_system) (defScope s_device_system) .none (.ref kD8) dc8 pm8 an8 (.ref cc8) ct8), sl8⟩) (c8 : PySem.W.codeIn K (.ref cc8) "device_system" = true) (k8 : PySem.W.keepIn K (.ref f8) = true)
    (a9 : PySem.W.nsIn K mainGlobals "fits_powers" = some (some (.ref f9))) (l9 : K.lookup f9 = some ⟨oc9, od9, .func (PySem.W.fnOf "fits_powers" "fits_powers" (defArgs s_fits_powers) (defBody s_fits_powers) (defScope s_fits_powers) .none kV9 dc9 pm9 an9 cd9 ct9), sl9⟩) (c9 : PySem.W.codeIn K cd9 "fits_powers" = true) (k9 : PySem.W.keepIn K (.ref f9) = true)
    (a10 : PySem.W.nsIn K mainGlobals "is_system" = some (some (.ref f10))) (l10 : K.lookup f10 = some ⟨oc10, od10, .func (PySem.W.fnOf "is_system" "is_system" (defArgs s_is_system) (defBody s_is_system) (defScope s_is_system) .none kV10 dc10 pm10 an10 cd10 ct10), sl10⟩) (c10 : PySem.W.codeIn K cd10 "is_system" = true) (k10 : PySem.W.keepIn K (.ref f10) = true)
    (a11 : PySem.W.nsIn K mainGlobals "switching_cost" = some (some (.ref f11))) (l11 : K.lookup f11 = some ⟨oc11, od11, .func (PySem.W.fnOf "switching_cost" "switching_cost" (defArgs s_switching_cost) (defBody s_switching_cost) (defScope s_switching_cost) .none kV11 dc11 pm11 an11 cd11 ct11), sl11⟩) (c11 : PySem.W.codeIn K cd11 "switching_cost" = true) (k11 : PySem.W.keepIn K (.ref f11) = true)
    (a12 : PySem.W.nsIn K mainGlobals "fits_switching" = some (some (.ref f12))) (l12 : K.lookup f12 = some ⟨oc12, od12, .func (PySem.W.fnOf "fits_switching" "fits_switching" (defArgs s_fits_switching) (defBody s_fits_switching) (defScope s_fits_switching) .none kV12 dc12 pm12 an12 cd12 ct12), sl12⟩) (c12 : PySem.W.codeIn K cd12 "fits_switching" = true) (k12 : PySem.W.keepIn K (.ref f12) = true)
    (a13 : PySem.W.nsIn K mainGlobals "fits_switching_row" = some (some (.ref f13))) (l13 : K.lookup f13 = some ⟨oc13, od13, .func (PySem.W.fnOf "fits_switching_row" "fits_switching_row" (defArgs s_fits_switching_row) (defBody s_fits_switching_row) (defScope s_fits_switching_row) .none kV13 dc13 pm13 an13 cd13 ct13), sl13⟩) (c13 : PySem.W.codeIn K cd13 "fits_switching_row" = true) (k13 : PySem.W.keepIn K (.ref f13) = true)
    (a14 : PySem.W.nsIn K mainGlobals "holds_triangles" = some (some (.ref f14))) (l14 : K.lookup f14 = some ⟨oc14, od14, .func (PySem.W.fnOf "holds_triangles" "holds_triangles" (defArgs s_holds_triangles) (defBody s_holds_triangles) (defScope s_holds_triangles) .none kV14 dc14 pm14 an14 cd14 ct14), sl14⟩) (c14 : PySem.W.codeIn K cd14 "holds_triangles" = true) (k14 : PySem.W.keepIn K (.ref f14) = true)
    (a15 : PySem.W.nsIn K mainGlobals "fits_requests" = some (some (.ref f15))) (l15 : K.lookup f15 = some ⟨oc15, od15, .func (PySem.W.fnOf "fits_requests" "fits_requests" (defArgs s_fits_requests) (defBody s_fits_requests) (defScope s_fits_requests) .none kV15 dc15 pm15 an15 cd15 ct15), sl15⟩) (c15 : PySem.W.codeIn K cd15 "fits_requests" = true) (k15 : PySem.W.keepIn K (.ref f15) = true)
    (a16 : PySem.W.nsIn K mainGlobals "fits_costs" = some (some (.ref f16))) (l16 : K.lookup f16 = some ⟨oc16, od16, .func (PySem.W.fnOf "fits_costs" "fits_costs" (defArgs s_fits_costs) (defBody s_fits_costs) (defScope s_fits_costs) .none kV16 dc16 pm16 an16 cd16 ct16), sl16⟩) (c16 : PySem.W.codeIn K cd16 "fits_costs" = true) (k16 : PySem.W.keepIn K (.ref f16) = true)
    (a17 : PySem.W.nsIn K mainGlobals "fits_state" = some (some (.ref f17))) (l17 : K.lookup f17 = some ⟨oc17, od17, .func (PySem.W.fnOf "fits_state" "fits_state" (defArgs s_fits_state) (defBody s_fits_state) (defScope s_fits_state) .none kV17 dc17 pm17 an17 cd17 ct17), sl17⟩) (c17 : PySem.W.codeIn K cd17 "fits_state" = true) (k17 : PySem.W.keepIn K (.ref f17) = true)
    (a18 : PySem.W.nsIn K mainGlobals "check_system" = some (some (.ref f18))) (l18 : K.lookup f18 = some ⟨oc18, od18, .func (PySem.W.fnOf "check_system" "check_system" (defArgs s_check_system) (defBody s_check_system) (defScope s_check_system) .none kV18 dc18 pm18 an18 cd18 ct18), sl18⟩) (c18 : PySem.W.codeIn K cd18 "check_system" = true) (k18 : PySem.W.keepIn K (.ref f18) = true)
    (a19 : PySem.W.nsIn K mainGlobals "check_state" = some (some (.ref f19))) (l19 : K.lookup f19 = some ⟨oc19, od19, .func (PySem.W.fnOf "check_state" "check_state" (defArgs s_check_state) (defBody s_check_state) (defScope s_check_state) .none kV19 dc19 pm19 an19 cd19 ct19), sl19⟩) (c19 : PySem.W.codeIn K cd19 "check_state" = true) (k19 : PySem.W.keepIn K (.ref f19) = true)
    (a20 : PySem.W.nsIn K mainGlobals "_law_stream" = some (some (.ref f20))) (l20 : K.lookup f20 = some ⟨oc20, od20, .func (PySem.W.fnOf "_law_stream" "_law_stream" (defArgs s_law_stream) (defBody s_law_stream) (defScope s_law_stream) .none kV20 dc20 pm20 an20 cd20 ct20), sl20⟩) (c20 : PySem.W.codeIn K cd20 "_law_stream" = true) (k20 : PySem.W.keepIn K (.ref f20) = true)
    (a21 : PySem.W.nsIn K mainGlobals "_law_draw" = some (some (.ref f21))) (l21 : K.lookup f21 = some ⟨oc21, od21, .func (PySem.W.fnOf "_law_draw" "_law_draw" (defArgs s_law_draw) (defBody s_law_draw) (defScope s_law_draw) .none kV21 dc21 pm21 an21 cd21 ct21), sl21⟩) (c21 : PySem.W.codeIn K cd21 "_law_draw" = true) (k21 : PySem.W.keepIn K (.ref f21) = true)
    (a22 : PySem.W.nsIn K mainGlobals "_law_device" = some (some (.ref f22))) (l22 : K.lookup f22 = some ⟨oc22, od22, .func (PySem.W.fnOf "_law_device" "_law_device" (defArgs s_law_device) (defBody s_law_device) (defScope s_law_device) .none kV22 dc22 pm22 an22 cd22 ct22), sl22⟩) (c22 : PySem.W.codeIn K cd22 "_law_device" = true) (k22 : PySem.W.keepIn K (.ref f22) = true)
    (a23 : PySem.W.nsIn K mainGlobals "_law_expected" = some (some (.ref f23))) (l23 : K.lookup f23 = some ⟨oc23, od23, .func (PySem.W.fnOf "_law_expected" "_law_expected" (defArgs s_law_expected) (defBody s_law_expected) (defScope s_law_expected) .none kV23 dc23 pm23 an23 cd23 ct23), sl23⟩) (c23 : PySem.W.codeIn K cd23 "_law_expected" = true) (k23 : PySem.W.keepIn K (.ref f23) = true)
    (a24 : PySem.W.nsIn K mainGlobals "law" = some (some (.ref f24))) (l24 : K.lookup f24 = some ⟨oc24, od24, .func (PySem.W.fnOf "law" "law" (defArgs s_law) (defBody s_law) (defScope s_law) .none kV24 dc24 pm24 an24 cd24 ct24), sl24⟩) (c24 : PySem.W.codeIn K cd24 "law" = true) (k24 : PySem.W.keepIn K (.ref f24) = true)
    (kd8 : PySem.W.nsIn K kD8 "drop" = some (some (.int 1 tkd8)))
    (u8 : K.lookup cc8 = some ⟨uc8, ud8, .fields uv8, us8⟩) (pp8 : (uv8[11]? : Option Value) = some (.ref P8)) (tb8 : PySem.W.tabIn K "device_system" = some (cc8, P8))
    (zabs : PySem.W.nsIn K mainGlobals "abs" = some none)
    (zbool : PySem.W.nsIn K mainGlobals "bool" = some none)
    (zint : PySem.W.nsIn K mainGlobals "int" = some none)
    (zisinstance : PySem.W.nsIn K mainGlobals "isinstance" = some none)
    (zlen : PySem.W.nsIn K mainGlobals "len" = some none)
    (zlist : PySem.W.nsIn K mainGlobals "list" = some none)
    (zmax : PySem.W.nsIn K mainGlobals "max" = some none)
    (zmin : PySem.W.nsIn K mainGlobals "min" = some none)
    (zrange : PySem.W.nsIn K mainGlobals "range" = some none)
    (zrepr : PySem.W.nsIn K mainGlobals "repr" = some none)
    (zsum : PySem.W.nsIn K mainGlobals "sum" = some none)
    (ztuple : PySem.W.nsIn K mainGlobals "tuple" = some none)
    (vMAX_COST : PySem.W.nsIn K mainGlobals "MAX_COST" = some (some (.int 1000 tMAX_COST)))
    (vMAX_DROP : PySem.W.nsIn K mainGlobals "MAX_DROP" = some (some (.int 100 tMAX_DROP)))
    (vMAX_LEVELS : PySem.W.nsIn K mainGlobals "MAX_LEVELS" = some (some (.int 4 tMAX_LEVELS)))
    (vMAX_POWER : PySem.W.nsIn K mainGlobals "MAX_POWER" = some (some (.int 100 tMAX_POWER)))
    (vMAX_REQUESTS : PySem.W.nsIn K mainGlobals "MAX_REQUESTS" = some (some (.int 8 tMAX_REQUESTS)))
    (vMAX_STATES : PySem.W.nsIn K mainGlobals "MAX_STATES" = some (some (.int 10 tMAX_STATES)))
    (vMAX_WAKE : PySem.W.nsIn K mainGlobals "MAX_WAKE" = some (some (.int 100 tMAX_WAKE)))
    (vMIN_LEVELS : PySem.W.nsIn K mainGlobals "MIN_LEVELS" = some (some (.int 2 tMIN_LEVELS)))
    {C_InvalidSystem : Addr} (xa_InvalidSystem : PySem.W.nsIn K mainGlobals "InvalidSystem" = some (some (.ref C_InvalidSystem))) (xe_InvalidSystem : PySem.W.excIn K C_InvalidSystem [.type "ValueError", .type "Exception", .type "BaseException", .type "object"] "ValueError.__new__" = true) (xk_InvalidSystem : PySem.W.keepIn K (.ref C_InvalidSystem) = true) (xs_InvalidSystem : PySem.W.subIn K (.ref C_InvalidSystem) (.type "BaseException") = some true) (xt_InvalidSystem : PySem.W.typeIn K (.ref C_InvalidSystem) = some (.type "type"))
    : ∃ T : Facts K mg, T.cc_device_system = cc8 ∧ T.P_device_system = P8 ∧ mg "law" = some (.ref T.a_law) ∧ ∀ (s : Shared) (u : Value), BindsTo s T.d_law ⟨[u], []⟩ [("_law_script", u)] :=
  ⟨{
    a_is_integer := f1, d_is_integer := _, F_is_integer := fun_mk (st := s_is_integer) l1 c1 k1, b_is_integer := (fun_mk (st := s_is_integer) l1 c1 k1).binds (ps := ["value"]) (fun _ _ _ _ _ _ us hl => match us, hl with | [_], _ => rfl), g_is_integer := PySem.W.mg_of X G a1,
    a_is_integer_from := f2, d_is_integer_from := _, F_is_integer_from := fun_mk (st := s_is_integer_from) l2 c2 k2, b_is_integer_from := (fun_mk (st := s_is_integer_from) l2 c2 k2).binds (ps := ["value", "least", "greatest"]) (fun _ _ _ _ _ _ us hl => match us, hl with | [_, _, _], _ => rfl), g_is_integer_from := PySem.W.mg_of X G a2,
    a_is_tuple_of := f3, d_is_tuple_of := _, F_is_tuple_of := fun_mk (st := s_is_tuple_of) l3 c3 k3, b_is_tuple_of := (fun_mk (st := s_is_tuple_of) l3 c3 k3).binds (ps := ["value", "size"]) (fun _ _ _ _ _ _ us hl => match us, hl with | [_, _], _ => rfl), g_is_tuple_of := PySem.W.mg_of X G a3,
    a_are_integers_from := f4, d_are_integers_from := _, F_are_integers_from := fun_mk (st := s_are_integers_from) l4 c4 k4, b_are_integers_from := (fun_mk (st := s_are_integers_from) l4 c4 k4).binds (ps := ["value", "least", "greatest"]) (fun _ _ _ _ _ _ us hl => match us, hl with | [_, _, _], _ => rfl), g_are_integers_from := PySem.W.mg_of X G a4,
    a_is_ascending := f5, d_is_ascending := _, F_is_ascending := fun_mk (st := s_is_ascending) l5 c5 k5, b_is_ascending := (fun_mk (st := s_is_ascending) l5 c5 k5).binds (ps := ["values"]) (fun _ _ _ _ _ _ us hl => match us, hl with | [_], _ => rfl), g_is_ascending := PySem.W.mg_of X G a5,
    a_check_integer_from := f6, d_check_integer_from := _, F_check_integer_from := fun_mk (st := s_check_integer_from) l6 c6 k6, b_check_integer_from := (fun_mk (st := s_check_integer_from) l6 c6 k6).binds (ps := ["value", "least", "greatest"]) (fun _ _ _ _ _ _ us hl => match us, hl with | [_, _, _], _ => rfl), g_check_integer_from := PySem.W.mg_of X G a6,
    a_table_of := f7, d_table_of := _, F_table_of := fun_mk (st := s_table_of) l7 c7 k7, b_table_of := (fun_mk (st := s_table_of) l7 c7 k7).binds (ps := ["states", "cost_between"]) (fun _ _ _ _ _ _ us hl => match us, hl with | [_, _], _ => rfl), g_table_of := PySem.W.mg_of X G a7,
    a_device_system := f8, d_device_system := _, F_device_system := fun_mk (st := s_device_system) l8 c8 k8, b_device_system := ⟨⟨(.int 1), (.int 1 tkd8), ⟨tkd8, rfl⟩, fun _ _ => RepV.mkInt, fun s us X hl => match us, hl with | [_, _], _ => BindsTo.of_looks fun M => KwChain.looks (l := [("drop", (.int 1 tkd8))]) X (fun q hq => by rw [List.mem_singleton] at hq; subst hq; exact kd8) ⟨_, _, _, _, _, _, rfl, rfl, rfl⟩⟩, fun s us w X hl => match us, hl with | [_, _], _ => BindsTo.of_eq rfl⟩, g_device_system := PySem.W.mg_of X G a8, cc_device_system := cc8, P_device_system := P8, tb_device_system := tb8, cd_device_system := rfl,
    a_fits_powers := f9, d_fits_powers := _, F_fits_powers := fun_mk (st := s_fits_powers) l9 c9 k9, b_fits_powers := (fun_mk (st := s_fits_powers) l9 c9 k9).binds (ps := ["value"]) (fun _ _ _ _ _ _ us hl => match us, hl with | [_], _ => rfl), g_fits_powers := PySem.W.mg_of X G a9,
    a_is_system := f10, d_is_system := _, F_is_system := fun_mk (st := s_is_system) l10 c10 k10, b_is_system := (fun_mk (st := s_is_system) l10 c10 k10).binds (ps := ["value"]) (fun _ _ _ _ _ _ us hl => match us, hl with | [_], _ => rfl), g_is_system := PySem.W.mg_of X G a10,
    a_switching_cost := f11, d_switching_cost := _, F_switching_cost := fun_mk (st := s_switching_cost) l11 c11 k11, b_switching_cost := (fun_mk (st := s_switching_cost) l11 c11 k11).binds (ps := ["system", "first", "second"]) (fun _ _ _ _ _ _ us hl => match us, hl with | [_, _, _], _ => rfl), g_switching_cost := PySem.W.mg_of X G a11,
    a_fits_switching := f12, d_fits_switching := _, F_fits_switching := fun_mk (st := s_fits_switching) l12 c12 k12, b_fits_switching := (fun_mk (st := s_fits_switching) l12 c12 k12).binds (ps := ["value"]) (fun _ _ _ _ _ _ us hl => match us, hl with | [_], _ => rfl), g_fits_switching := PySem.W.mg_of X G a12,
    a_fits_switching_row := f13, d_fits_switching_row := _, F_fits_switching_row := fun_mk (st := s_fits_switching_row) l13 c13 k13, b_fits_switching_row := (fun_mk (st := s_fits_switching_row) l13 c13 k13).binds (ps := ["size", "state", "row"]) (fun _ _ _ _ _ _ us hl => match us, hl with | [_, _, _], _ => rfl), g_fits_switching_row := PySem.W.mg_of X G a13,
    a_holds_triangles := f14, d_holds_triangles := _, F_holds_triangles := fun_mk (st := s_holds_triangles) l14 c14 k14, b_holds_triangles := (fun_mk (st := s_holds_triangles) l14 c14 k14).binds (ps := ["switching"]) (fun _ _ _ _ _ _ us hl => match us, hl with | [_], _ => rfl), g_holds_triangles := PySem.W.mg_of X G a14,
    a_fits_requests := f15, d_fits_requests := _, F_fits_requests := fun_mk (st := s_fits_requests) l15 c15 k15, b_fits_requests := (fun_mk (st := s_fits_requests) l15 c15 k15).binds (ps := ["size", "value"]) (fun _ _ _ _ _ _ us hl => match us, hl with | [_, _], _ => rfl), g_fits_requests := PySem.W.mg_of X G a15,
    a_fits_costs := f16, d_fits_costs := _, F_fits_costs := fun_mk (st := s_fits_costs) l16 c16 k16, b_fits_costs := (fun_mk (st := s_fits_costs) l16 c16 k16).binds (ps := ["size", "value"]) (fun _ _ _ _ _ _ us hl => match us, hl with | [_, _], _ => rfl), g_fits_costs := PySem.W.mg_of X G a16,
    a_fits_state := f17, d_fits_state := _, F_fits_state := fun_mk (st := s_fits_state) l17 c17 k17, b_fits_state := (fun_mk (st := s_fits_state) l17 c17 k17).binds (ps := ["system", "value"]) (fun _ _ _ _ _ _ us hl => match us, hl with | [_, _], _ => rfl), g_fits_state := PySem.W.mg_of X G a17,
    a_check_system := f18, d_check_system := _, F_check_system := fun_mk (st := s_check_system) l18 c18 k18, b_check_system := (fun_mk (st := s_check_system) l18 c18 k18).binds (ps := ["system"]) (fun _ _ _ _ _ _ us hl => match us, hl with | [_], _ => rfl), g_check_system := PySem.W.mg_of X G a18,
    a_check_state := f19, d_check_state := _, F_check_state := fun_mk (st := s_check_state) l19 c19 k19, b_check_state := (fun_mk (st := s_check_state) l19 c19 k19).binds (ps := ["system", "state"]) (fun _ _ _ _ _ _ us hl => match us, hl with | [_, _], _ => rfl), g_check_state := PySem.W.mg_of X G a19,
    a_law_stream := f20, d_law_stream := _, F_law_stream := fun_mk (st := s_law_stream) l20 c20 k20, b_law_stream := (fun_mk (st := s_law_stream) l20 c20 k20).binds (ps := ["_law_script", "_law_at"]) (fun _ _ _ _ _ _ us hl => match us, hl with | [_, _], _ => rfl), g_law_stream := PySem.W.mg_of X G a20,
    a_law_draw := f21, d_law_draw := _, F_law_draw := fun_mk (st := s_law_draw) l21 c21 k21, b_law_draw := (fun_mk (st := s_law_draw) l21 c21 k21).binds (ps := ["_law_stream_here", "_law_total"]) (fun _ _ _ _ _ _ us hl => match us, hl with | [_, _], _ => rfl), g_law_draw := PySem.W.mg_of X G a21,
    a_law_device := f22, d_law_device := _, F_law_device := fun_mk (st := s_law_device) l22 c22 k22, b_law_device := (fun_mk (st := s_law_device) l22 c22 k22).binds (ps := ["_law_stream_here"]) (fun _ _ _ _ _ _ us hl => match us, hl with | [_], _ => rfl), g_law_device := PySem.W.mg_of X G a22,
    a_law_expected := f23, d_law_expected := _, F_law_expected := fun_mk (st := s_law_expected) l23 c23 k23, b_law_expected := (fun_mk (st := s_law_expected) l23 c23 k23).binds (ps := ["_law_powers", "_law_wakes", "_law_fall"]) (fun _ _ _ _ _ _ us hl => match us, hl with | [_, _, _], _ => rfl), g_law_expected := PySem.W.mg_of X G a23,
    a_law := f24, d_law := _, F_law := fun_mk (st := s_law) l24 c24 k24, b_law := (fun_mk (st := s_law) l24 c24 k24).binds (ps := ["_law_script"]) (fun _ _ _ _ _ _ us hl => match us, hl with | [_], _ => rfl), g_law := PySem.W.mg_of X G a24,
    z_abs := PySem.W.mg_none_of X G zabs,
    z_bool := PySem.W.mg_none_of X G zbool,
    z_int := PySem.W.mg_none_of X G zint,
    z_isinstance := PySem.W.mg_none_of X G zisinstance,
    z_len := PySem.W.mg_none_of X G zlen,
    z_list := PySem.W.mg_none_of X G zlist,
    z_max := PySem.W.mg_none_of X G zmax,
    z_min := PySem.W.mg_none_of X G zmin,
    z_range := PySem.W.mg_none_of X G zrange,
    z_repr := PySem.W.mg_none_of X G zrepr,
    z_sum := PySem.W.mg_none_of X G zsum,
    z_tuple := PySem.W.mg_none_of X G ztuple,
    t_MAX_COST := tMAX_COST, c_MAX_COST := PySem.W.mg_of X G vMAX_COST,
    t_MAX_DROP := tMAX_DROP, c_MAX_DROP := PySem.W.mg_of X G vMAX_DROP,
    t_MAX_LEVELS := tMAX_LEVELS, c_MAX_LEVELS := PySem.W.mg_of X G vMAX_LEVELS,
    t_MAX_POWER := tMAX_POWER, c_MAX_POWER := PySem.W.mg_of X G vMAX_POWER,
    t_MAX_REQUESTS := tMAX_REQUESTS, c_MAX_REQUESTS := PySem.W.mg_of X G vMAX_REQUESTS,
    t_MAX_STATES := tMAX_STATES, c_MAX_STATES := PySem.W.mg_of X G vMAX_STATES,
    t_MAX_WAKE := tMAX_WAKE, c_MAX_WAKE := PySem.W.mg_of X G vMAX_WAKE,
    t_MIN_LEVELS := tMIN_LEVELS, c_MIN_LEVELS := PySem.W.mg_of X G vMIN_LEVELS,
    c_InvalidSystem := C_InvalidSystem, x_InvalidSystem := ⟨PySem.W.mg_of X G xa_InvalidSystem, xe_InvalidSystem, xk_InvalidSystem, xs_InvalidSystem, xt_InvalidSystem⟩ }, rfl, rfl, PySem.W.mg_of X G a24, fun s v => .of_eq rfl⟩
set_option maxHeartbeats 0 in
theorem law_mk {l : PySem.W.OpenLaw} {w : World} {K : PySem.W.Frag} {h : Heap} {mg : Str → Option Value} {fa : Addr} (X : K.In h) (G : h.Ns mainGlobals mg) (hfa : mg "law" = some (.ref fa))
    {f1 f2 f3 f4 f5 f6 f7 f8 f9 f10 f11 f12 f13 f14 f15 f16 f17 f18 f19 f20 f21 f22 f23 f24 : Addr} {od1 an1 od2 an2 od3 an3 od4 an4 od5 an5 od6 an6 od7 an7 od8 an8 od9 an9 od10 an10 od11 an11 od12 an12 od13 an13 od14 an14 od15 an15 od16 an16 od17 an17 od18 an18 od19 an19 od20 an20 od21 an21 od22 an22 od23 an23 od24 an24 : Option Addr} {sl1 sl2 sl3 sl4 sl5 sl6 sl7 sl8 sl9 sl10 sl11 sl12 sl13 sl14 sl15 sl16 sl17 sl18 sl19 sl20 sl21 sl22 sl23 sl24 : Array (Option Value)} {oc1 kV1 dc1 pm1 cd1 ct1 oc2 kV2 dc2 pm2 cd2 ct2 oc3 kV3 dc3 pm3 cd3 ct3 oc4 kV4 dc4 pm4 cd4 ct4 oc5 kV5 dc5 pm5 cd5 ct5 oc6 kV6 dc6 pm6 cd6 ct6 oc7 kV7 dc7 pm7 cd7 ct7 oc8 dc8 pm8 ct8 oc9 kV9 dc9 pm9 cd9 ct9 oc10 kV10 dc10 pm10 cd10 ct10 oc11 kV11 dc11 pm11 cd11 ct11 oc12 kV12 dc12 pm12 cd12 ct12 oc13 kV13 dc13 pm13 cd13 ct13 oc14 kV14 dc14 pm14 cd14 ct14 oc15 kV15 dc15 pm15 cd15 ct15 oc16 kV16 dc16 pm16 cd16 ct16 oc17 kV17 dc17 pm17 cd17 ct17 oc18 kV18 dc18 pm18 cd18 ct18 oc19 kV19 dc19 pm19 cd19 ct19 oc20 kV20 dc20 pm20 cd20 ct20 oc21 kV21 dc21 pm21 cd21 ct21 oc22 kV22 dc22 pm22 cd22 ct22 oc23 kV23 dc23 pm23 cd23 ct23 oc24 kV24 dc24 pm24 cd24 ct24 : Value}
    {tMAX_COST tMAX_DROP tMAX_LEVELS tMAX_POWER tMAX_REQUESTS tMAX_STATES tMAX_WAKE tMIN_LEVELS : Tok}
    {kD8 : Addr} {tkd8 : Tok}
    {cc8 P8 : Addr} {uv8 : Array Value} {uc8 : Value} {ud8 : Option Addr} {us8 : Array (Option Value)}
    (a1 : PySem.W.nsIn K mainGlobals "is_integer" = some (some (.ref f1))) (l1 : K.lookup f1 = some ⟨oc1, od1, .func (PySem.W.fnOf "is_integer" "is_integer" (defArgs s_is_integer) (defBody s_is_integer) (defScope s_is_integer) .none kV1 dc1 pm1 an1 cd1 ct1), sl1⟩) (c1 : PySem.W.codeIn K cd1 "is_integer" = true) (k1 : PySem.W.keepIn K (.ref f1) = true)
    (a2 : PySem.W.nsIn K mainGlobals "is_integer_from" = some (some (.ref f2))) (l2 : K.lookup f2 = some ⟨oc2, od2, .func (PySem.W.fnOf "is_integer_from" "is_integer_from" (defArgs s_is_integer_from) (defBody s_is_integer_from) (defScope s_is_integer_from) .none kV2 dc2 pm2 an2 cd2 ct2), sl2⟩) (c2 : PySem.W.codeIn K cd2 "is_integer_from" = true) (k2 : PySem.W.keepIn K (.ref f2) = true)
    (a3 : PySem.W.nsIn K mainGlobals "is_tuple_of" = some (some (.ref f3))) (l3 : K.lookup f3 = some ⟨oc3, od3, .func (PySem.W.fnOf "is_tuple_of" "is_tuple_of" (defArgs s_is_tuple_of) (defBody s_is_tuple_of) (defScope s_is_tuple_of) .none kV3 dc3 pm3 an3 cd3 ct3), sl3⟩) (c3 : PySem.W.codeIn K cd3 "is_tuple_of" = true) (k3 : PySem.W.keepIn K (.ref f3) = true)
    (a4 : PySem.W.nsIn K mainGlobals "are_integers_from" = some (some (.ref f4))) (l4 : K.lookup f4 = some ⟨oc4, od4, .func (PySem.W.fnOf "are_integers_from" "are_integers_from" (defArgs s_are_integers_from) (defBody s_are_integers_from) (defScope s_are_integers_from) .none kV4 dc4 pm4 an4 cd4 ct4), sl4⟩) (c4 : PySem.W.codeIn K cd4 "are_integers_from" = true) (k4 : PySem.W.keepIn K (.ref f4) = true)
    (a5 : PySem.W.nsIn K mainGlobals "is_ascending" = some (some (.ref f5))) (l5 : K.lookup f5 = some ⟨oc5, od5, .func (PySem.W.fnOf "is_ascending" "is_ascending" (defArgs s_is_ascending) (defBody s_is_ascending) (defScope s_is_ascending) .none kV5 dc5 pm5 an5 cd5 ct5), sl5⟩) (c5 : PySem.W.codeIn K cd5 "is_ascending" = true) (k5 : PySem.W.keepIn K (.ref f5) = true)
    (a6 : PySem.W.nsIn K mainGlobals "check_integer_from" = some (some (.ref f6))) (l6 : K.lookup f6 = some ⟨oc6, od6, .func (PySem.W.fnOf "check_integer_from" "check_integer_from" (defArgs s_check_integer_from) (defBody s_check_integer_from) (defScope s_check_integer_from) .none kV6 dc6 pm6 an6 cd6 ct6), sl6⟩) (c6 : PySem.W.codeIn K cd6 "check_integer_from" = true) (k6 : PySem.W.keepIn K (.ref f6) = true)
    (a7 : PySem.W.nsIn K mainGlobals "table_of" = some (some (.ref f7))) (l7 : K.lookup f7 = some ⟨oc7, od7, .func (PySem.W.fnOf "table_of" "table_of" (defArgs s_table_of) (defBody s_table_of) (defScope s_table_of) .none kV7 dc7 pm7 an7 cd7 ct7), sl7⟩) (c7 : PySem.W.codeIn K cd7 "table_of" = true) (k7 : PySem.W.keepIn K (.ref f7) = true)
    (a8 : PySem.W.nsIn K mainGlobals "device_system" = some (some (.ref f8))) (l8 : K.lookup f8 = some ⟨oc8, od8, .func (PySem.W.fnOf "device_system" "device_system" (defArgs s_device_system) (defBody s_device_system) (defScope s_device_system) .none (.ref kD8) dc8 pm8 an8 (.ref cc8) ct8), sl8⟩) (c8 : PySem.W.codeIn K (.ref cc8) "device_system" = true) (k8 : PySem.W.keepIn K (.ref f8) = true)
    (a9 : PySem.W.nsIn K mainGlobals "fits_powers" = some (some (.ref f9))) (l9 : K.lookup f9 = some ⟨oc9, od9, .func (PySem.W.fnOf "fits_powers" "fits_powers" (defArgs s_fits_powers) (defBody s_fits_powers) (defScope s_fits_powers) .none kV9 dc9 pm9 an9 cd9 ct9), sl9⟩) (c9 : PySem.W.codeIn K cd9 "fits_powers" = true) (k9 : PySem.W.keepIn K (.ref f9) = true)
    (a10 : PySem.W.nsIn K mainGlobals "is_system" = some (some (.ref f10))) (l10 : K.lookup f10 = some ⟨oc10, od10, .func (PySem.W.fnOf "is_system" "is_system" (defArgs s_is_system) (defBody s_is_system) (defScope s_is_system) .none kV10 dc10 pm10 an10 cd10 ct10), sl10⟩) (c10 : PySem.W.codeIn K cd10 "is_system" = true) (k10 : PySem.W.keepIn K (.ref f10) = true)
    (a11 : PySem.W.nsIn K mainGlobals "switching_cost" = some (some (.ref f11))) (l11 : K.lookup f11 = some ⟨oc11, od11, .func (PySem.W.fnOf "switching_cost" "switching_cost" (defArgs s_switching_cost) (defBody s_switching_cost) (defScope s_switching_cost) .none kV11 dc11 pm11 an11 cd11 ct11), sl11⟩) (c11 : PySem.W.codeIn K cd11 "switching_cost" = true) (k11 : PySem.W.keepIn K (.ref f11) = true)
    (a12 : PySem.W.nsIn K mainGlobals "fits_switching" = some (some (.ref f12))) (l12 : K.lookup f12 = some ⟨oc12, od12, .func (PySem.W.fnOf "fits_switching" "fits_switching" (defArgs s_fits_switching) (defBody s_fits_switching) (defScope s_fits_switching) .none kV12 dc12 pm12 an12 cd12 ct12), sl12⟩) (c12 : PySem.W.codeIn K cd12 "fits_switching" = true) (k12 : PySem.W.keepIn K (.ref f12) = true)
    (a13 : PySem.W.nsIn K mainGlobals "fits_switching_row" = some (some (.ref f13))) (l13 : K.lookup f13 = some ⟨oc13, od13, .func (PySem.W.fnOf "fits_switching_row" "fits_switching_row" (defArgs s_fits_switching_row) (defBody s_fits_switching_row) (defScope s_fits_switching_row) .none kV13 dc13 pm13 an13 cd13 ct13), sl13⟩) (c13 : PySem.W.codeIn K cd13 "fits_switching_row" = true) (k13 : PySem.W.keepIn K (.ref f13) = true)
    (a14 : PySem.W.nsIn K mainGlobals "holds_triangles" = some (some (.ref f14))) (l14 : K.lookup f14 = some ⟨oc14, od14, .func (PySem.W.fnOf "holds_triangles" "holds_triangles" (defArgs s_holds_triangles) (defBody s_holds_triangles) (defScope s_holds_triangles) .none kV14 dc14 pm14 an14 cd14 ct14), sl14⟩) (c14 : PySem.W.codeIn K cd14 "holds_triangles" = true) (k14 : PySem.W.keepIn K (.ref f14) = true)
    (a15 : PySem.W.nsIn K mainGlobals "fits_requests" = some (some (.ref f15))) (l15 : K.lookup f15 = some ⟨oc15, od15, .func (PySem.W.fnOf "fits_requests" "fits_requests" (defArgs s_fits_requests) (defBody s_fits_requests) (defScope s_fits_requests) .none kV15 dc15 pm15 an15 cd15 ct15), sl15⟩) (c15 : PySem.W.codeIn K cd15 "fits_requests" = true) (k15 : PySem.W.keepIn K (.ref f15) = true)
    (a16 : PySem.W.nsIn K mainGlobals "fits_costs" = some (some (.ref f16))) (l16 : K.lookup f16 = some ⟨oc16, od16, .func (PySem.W.fnOf "fits_costs" "fits_costs" (defArgs s_fits_costs) (defBody s_fits_costs) (defScope s_fits_costs) .none kV16 dc16 pm16 an16 cd16 ct16), sl16⟩) (c16 : PySem.W.codeIn K cd16 "fits_costs" = true) (k16 : PySem.W.keepIn K (.ref f16) = true)
    (a17 : PySem.W.nsIn K mainGlobals "fits_state" = some (some (.ref f17))) (l17 : K.lookup f17 = some ⟨oc17, od17, .func (PySem.W.fnOf "fits_state" "fits_state" (defArgs s_fits_state) (defBody s_fits_state) (defScope s_fits_state) .none kV17 dc17 pm17 an17 cd17 ct17), sl17⟩) (c17 : PySem.W.codeIn K cd17 "fits_state" = true) (k17 : PySem.W.keepIn K (.ref f17) = true)
    (a18 : PySem.W.nsIn K mainGlobals "check_system" = some (some (.ref f18))) (l18 : K.lookup f18 = some ⟨oc18, od18, .func (PySem.W.fnOf "check_system" "check_system" (defArgs s_check_system) (defBody s_check_system) (defScope s_check_system) .none kV18 dc18 pm18 an18 cd18 ct18), sl18⟩) (c18 : PySem.W.codeIn K cd18 "check_system" = true) (k18 : PySem.W.keepIn K (.ref f18) = true)
    (a19 : PySem.W.nsIn K mainGlobals "check_state" = some (some (.ref f19))) (l19 : K.lookup f19 = some ⟨oc19, od19, .func (PySem.W.fnOf "check_state" "check_state" (defArgs s_check_state) (defBody s_check_state) (defScope s_check_state) .none kV19 dc19 pm19 an19 cd19 ct19), sl19⟩) (c19 : PySem.W.codeIn K cd19 "check_state" = true) (k19 : PySem.W.keepIn K (.ref f19) = true)
    (a20 : PySem.W.nsIn K mainGlobals "_law_stream" = some (some (.ref f20))) (l20 : K.lookup f20 = some ⟨oc20, od20, .func (PySem.W.fnOf "_law_stream" "_law_stream" (defArgs s_law_stream) (defBody s_law_stream) (defScope s_law_stream) .none kV20 dc20 pm20 an20 cd20 ct20), sl20⟩) (c20 : PySem.W.codeIn K cd20 "_law_stream" = true) (k20 : PySem.W.keepIn K (.ref f20) = true)
    (a21 : PySem.W.nsIn K mainGlobals "_law_draw" = some (some (.ref f21))) (l21 : K.lookup f21 = some ⟨oc21, od21, .func (PySem.W.fnOf "_law_draw" "_law_draw" (defArgs s_law_draw) (defBody s_law_draw) (defScope s_law_draw) .none kV21 dc21 pm21 an21 cd21 ct21), sl21⟩) (c21 : PySem.W.codeIn K cd21 "_law_draw" = true) (k21 : PySem.W.keepIn K (.ref f21) = true)
    (a22 : PySem.W.nsIn K mainGlobals "_law_device" = some (some (.ref f22))) (l22 : K.lookup f22 = some ⟨oc22, od22, .func (PySem.W.fnOf "_law_device" "_law_device" (defArgs s_law_device) (defBody s_law_device) (defScope s_law_device) .none kV22 dc22 pm22 an22 cd22 ct22), sl22⟩) (c22 : PySem.W.codeIn K cd22 "_law_device" = true) (k22 : PySem.W.keepIn K (.ref f22) = true)
    (a23 : PySem.W.nsIn K mainGlobals "_law_expected" = some (some (.ref f23))) (l23 : K.lookup f23 = some ⟨oc23, od23, .func (PySem.W.fnOf "_law_expected" "_law_expected" (defArgs s_law_expected) (defBody s_law_expected) (defScope s_law_expected) .none kV23 dc23 pm23 an23 cd23 ct23), sl23⟩) (c23 : PySem.W.codeIn K cd23 "_law_expected" = true) (k23 : PySem.W.keepIn K (.ref f23) = true)
    (a24 : PySem.W.nsIn K mainGlobals "law" = some (some (.ref f24))) (l24 : K.lookup f24 = some ⟨oc24, od24, .func (PySem.W.fnOf "law" "law" (defArgs s_law) (defBody s_law) (defScope s_law) .none kV24 dc24 pm24 an24 cd24 ct24), sl24⟩) (c24 : PySem.W.codeIn K cd24 "law" = true) (k24 : PySem.W.keepIn K (.ref f24) = true)
    (kd8 : PySem.W.nsIn K kD8 "drop" = some (some (.int 1 tkd8)))
    (u8 : K.lookup cc8 = some ⟨uc8, ud8, .fields uv8, us8⟩) (pp8 : (uv8[11]? : Option Value) = some (.ref P8)) (tb8 : PySem.W.tabIn K "device_system" = some (cc8, P8))
    (zabs : PySem.W.nsIn K mainGlobals "abs" = some none)
    (zbool : PySem.W.nsIn K mainGlobals "bool" = some none)
    (zint : PySem.W.nsIn K mainGlobals "int" = some none)
    (zisinstance : PySem.W.nsIn K mainGlobals "isinstance" = some none)
    (zlen : PySem.W.nsIn K mainGlobals "len" = some none)
    (zlist : PySem.W.nsIn K mainGlobals "list" = some none)
    (zmax : PySem.W.nsIn K mainGlobals "max" = some none)
    (zmin : PySem.W.nsIn K mainGlobals "min" = some none)
    (zrange : PySem.W.nsIn K mainGlobals "range" = some none)
    (zrepr : PySem.W.nsIn K mainGlobals "repr" = some none)
    (zsum : PySem.W.nsIn K mainGlobals "sum" = some none)
    (ztuple : PySem.W.nsIn K mainGlobals "tuple" = some none)
    (vMAX_COST : PySem.W.nsIn K mainGlobals "MAX_COST" = some (some (.int 1000 tMAX_COST)))
    (vMAX_DROP : PySem.W.nsIn K mainGlobals "MAX_DROP" = some (some (.int 100 tMAX_DROP)))
    (vMAX_LEVELS : PySem.W.nsIn K mainGlobals "MAX_LEVELS" = some (some (.int 4 tMAX_LEVELS)))
    (vMAX_POWER : PySem.W.nsIn K mainGlobals "MAX_POWER" = some (some (.int 100 tMAX_POWER)))
    (vMAX_REQUESTS : PySem.W.nsIn K mainGlobals "MAX_REQUESTS" = some (some (.int 8 tMAX_REQUESTS)))
    (vMAX_STATES : PySem.W.nsIn K mainGlobals "MAX_STATES" = some (some (.int 10 tMAX_STATES)))
    (vMAX_WAKE : PySem.W.nsIn K mainGlobals "MAX_WAKE" = some (some (.int 100 tMAX_WAKE)))
    (vMIN_LEVELS : PySem.W.nsIn K mainGlobals "MIN_LEVELS" = some (some (.int 2 tMIN_LEVELS)))
    {C_InvalidSystem : Addr} (xa_InvalidSystem : PySem.W.nsIn K mainGlobals "InvalidSystem" = some (some (.ref C_InvalidSystem))) (xe_InvalidSystem : PySem.W.excIn K C_InvalidSystem [.type "ValueError", .type "Exception", .type "BaseException", .type "object"] "ValueError.__new__" = true) (xk_InvalidSystem : PySem.W.keepIn K (.ref C_InvalidSystem) = true) (xs_InvalidSystem : PySem.W.subIn K (.ref C_InvalidSystem) (.type "BaseException") = some true) (xt_InvalidSystem : PySem.W.typeIn K (.ref C_InvalidSystem) = some (.type "type"))
    (hd8 : PySem.W.codeHdIn K cc8 P8 = true) (nl8 : K.lookup P8 = none) (em8 : h.get? P8 = some { cls := .none, data := .fields #[] })
    (ndp : ([P8] : List Addr).Nodup)
    : ∃ (fd : FuncData) (cs : List (Str × Addr × Addr)), cs.map (·.1) = (["device_system"] : List Str) ∧ TabsIn K mg h cs ∧ (∀ (s : Shared) (u : Value), BindsTo s fd ⟨[u], []⟩ [("_law_script", u)]) ∧ ∀ base : Heap, K.In base → base.Ns mainGlobals mg → (∀ t ∈ cs, LamX.TabB base mg t.2.1 t.2.2) → FnM l.prog w K mg base 8 fa fd ["_law_script"] (spM (XTm mg XS) K 1 f_law) := by
  obtain ⟨T, ec8, ep8, ea, hb⟩ := facts_of X G a1 l1 c1 k1 a2 l2 c2 k2 a3 l3 c3 k3 a4 l4 c4 k4 a5 l5 c5 k5 a6 l6 c6 k6 a7 l7 c7 k7 a8 l8 c8 k8 a9 l9 c9 k9 a10 l10 c10 k10 a11 l11 c11 k11 a12 l12 c12 k12 a13 l13 c13 k13 a14 l14 c14 k14 a15 l15 c15 k15 a16 l16 c16 k16 a17 l17 c17 k17 a18 l18 c18 k18 a19 l19 c19 k19 a20 l20 c20 k20 a21 l21 c21 k21 a22 l22 c22 k22 a23 l23 c23 k23 a24 l24 c24 k24 kd8 u8 pp8 tb8 zabs zbool zint zisinstance zlen zlist zmax zmin zrange zrepr zsum ztuple vMAX_COST vMAX_DROP vMAX_LEVELS vMAX_POWER vMAX_REQUESTS vMAX_STATES vMAX_WAKE vMIN_LEVELS xa_InvalidSystem xe_InvalidSystem xk_InvalidSystem xs_InvalidSystem xt_InvalidSystem
  cases hfa.symm.trans ea
  exact ⟨T.d_law, [("device_system", cc8, P8)], rfl, ⟨(List.forall_mem_cons.mpr ⟨tb8, (fun _ z => nomatch z)⟩), (List.forall_mem_cons.mpr ⟨em8, (fun _ z => nomatch z)⟩), (List.forall_mem_cons.mpr ⟨nl8, (fun _ z => nomatch z)⟩), (List.forall_mem_cons.mpr ⟨PySem.W.codeHd_of_K X hd8, (fun _ z => nomatch z)⟩), ndp⟩, hb, fun base _ _ hB => ok_law T ⟨by rw [ec8, ep8]; exact hB _ List.mem_cons_self⟩⟩
end Mi.K63
open PySem PySem.W PyProof.Rows
local macro_rules
  | `(tactic| o_head ($f:ident $K $A $E $T)) => `(tactic| o_headL (kHook (fun P => $K P ++ ($T).map fun a => (a, tabObj #[])) ($A ++ $T) (fun _ => by kernel_rfl)))
set_option maxHeartbeats 0 in
theorem PySem.Challenge.cw_hindcost_k63_device_systems_holds : PySem.Challenge.rw_hindcost_k63_device_systems.Holds := by
  w_on; o_law; km_head; (case hw => w_witness2)
  k_fill
  refine Mi.walk_mT (l := PySem.Challenge.rw_hindcost_k63_device_systems) (n := 63) (k := 8) (x := "_law_script") (XT := fun _ mg => Mi.XTm mg Mi.K63.XS) (f := Mi.K63.f_law) (xs := (["device_system"] : List Str)) rfl (by decide) rfl ⟨rfl, by decide, by decide⟩ (fun w h Y => PySem.W.in_left (PySem.W.kIn_of Y)) ?F Mi.K63.law_true
  case F =>
    intro w mg fa h Y KX G hmg
    refine' Mi.K63.law_mk KX G hmg ?a1 ?l1 ?c1 ?k1 ?a2 ?l2 ?c2 ?k2 ?a3 ?l3 ?c3 ?k3 ?a4 ?l4 ?c4 ?k4 ?a5 ?l5 ?c5 ?k5 ?a6 ?l6 ?c6 ?k6 ?a7 ?l7 ?c7 ?k7 ?a8 ?l8 ?c8 ?k8 ?a9 ?l9 ?c9 ?k9 ?a10 ?l10 ?c10 ?k10 ?a11 ?l11 ?c11 ?k11 ?a12 ?l12 ?c12 ?k12 ?a13 ?l13 ?c13 ?k13 ?a14 ?l14 ?c14 ?k14 ?a15 ?l15 ?c15 ?k15 ?a16 ?l16 ?c16 ?k16 ?a17 ?l17 ?c17 ?k17 ?a18 ?l18 ?c18 ?k18 ?a19 ?l19 ?c19 ?k19 ?a20 ?l20 ?c20 ?k20 ?a21 ?l21 ?c21 ?k21 ?a22 ?l22 ?c22 ?k22 ?a23 ?l23 ?c23 ?k23 ?a24 ?l24 ?c24 ?k24 ?kd8 ?u8 ?pp8 ?tb8 ?zabs ?zbool ?zint ?zisinstance ?zlen ?zlist ?zmax ?zmin ?zrange ?zrepr ?zsum ?ztuple ?vMAX_COST ?vMAX_DROP ?vMAX_LEVELS ?vMAX_POWER ?vMAX_REQUESTS ?vMAX_STATES ?vMAX_WAKE ?vMIN_LEVELS ?xa_InvalidSystem ?xe_InvalidSystem ?xk_InvalidSystem ?xs_InvalidSystem ?xt_InvalidSystem ?hd8 ?nl8 ?em8 ?ndp
    (case a1 => as_aux_lemma => k_is); (case l1 => as_aux_lemma => k_is); (case c1 => as_aux_lemma => k_is); (case k1 => as_aux_lemma => k_is); (case a2 => as_aux_lemma => k_is); (case l2 => as_aux_lemma => k_is); (case c2 => as_aux_lemma => k_is); (case k2 => as_aux_lemma => k_is); (case a3 => as_aux_lemma => k_is); (case l3 => as_aux_lemma => k_is); (case c3 => as_aux_lemma => k_is); (case k3 => as_aux_lemma => k_is); (case a4 => as_aux_lemma => k_is); (case l4 => as_aux_lemma => k_is); (case c4 => as_aux_lemma => k_is); (case k4 => as_aux_lemma => k_is); (case a5 => as_aux_lemma => k_is); (case l5 => as_aux_lemma => k_is); (case c5 => as_aux_lemma => k_is); (case k5 => as_aux_lemma => k_is); (case a6 => as_aux_lemma => k_is); (case l6 => as_aux_lemma => k_is); (case c6 => as_aux_lemma => k_is); (case k6 => as_aux_lemma => k_is); (case a7 => as_aux_lemma => k_is); (case l7 => as_aux_lemma => k_is); (case c7 => as_aux_lemma => k_is); (case k7 => as_aux_lemma => k_is); (case a8 => as_aux_lemma => k_is); (case l8 => as_aux_lemma => k_is); (case c8 => as_aux_lemma => k_is); (case k8 => as_aux_lemma => k_is); (case a9 => as_aux_lemma => k_is); (case l9 => as_aux_lemma => k_is); (case c9 => as_aux_lemma => k_is); (case k9 => as_aux_lemma => k_is); (case a10 => as_aux_lemma => k_is); (case l10 => as_aux_lemma => k_is); (case c10 => as_aux_lemma => k_is); (case k10 => as_aux_lemma => k_is); (case a11 => as_aux_lemma => k_is); (case l11 => as_aux_lemma => k_is); (case c11 => as_aux_lemma => k_is); (case k11 => as_aux_lemma => k_is); (case a12 => as_aux_lemma => k_is); (case l12 => as_aux_lemma => k_is); (case c12 => as_aux_lemma => k_is); (case k12 => as_aux_lemma => k_is); (case a13 => as_aux_lemma => k_is); (case l13 => as_aux_lemma => k_is); (case c13 => as_aux_lemma => k_is); (case k13 => as_aux_lemma => k_is); (case a14 => as_aux_lemma => k_is); (case l14 => as_aux_lemma => k_is); (case c14 => as_aux_lemma => k_is); (case k14 => as_aux_lemma => k_is); (case a15 => as_aux_lemma => k_is); (case l15 => as_aux_lemma => k_is); (case c15 => as_aux_lemma => k_is); (case k15 => as_aux_lemma => k_is); (case a16 => as_aux_lemma => k_is); (case l16 => as_aux_lemma => k_is); (case c16 => as_aux_lemma => k_is); (case k16 => as_aux_lemma => k_is); (case a17 => as_aux_lemma => k_is); (case l17 => as_aux_lemma => k_is); (case c17 => as_aux_lemma => k_is); (case k17 => as_aux_lemma => k_is); (case a18 => as_aux_lemma => k_is); (case l18 => as_aux_lemma => k_is); (case c18 => as_aux_lemma => k_is); (case k18 => as_aux_lemma => k_is); (case a19 => as_aux_lemma => k_is); (case l19 => as_aux_lemma => k_is); (case c19 => as_aux_lemma => k_is); (case k19 => as_aux_lemma => k_is); (case a20 => as_aux_lemma => k_is); (case l20 => as_aux_lemma => k_is); (case c20 => as_aux_lemma => k_is); (case k20 => as_aux_lemma => k_is); (case a21 => as_aux_lemma => k_is); (case l21 => as_aux_lemma => k_is); (case c21 => as_aux_lemma => k_is); (case k21 => as_aux_lemma => k_is); (case a22 => as_aux_lemma => k_is); (case l22 => as_aux_lemma => k_is); (case c22 => as_aux_lemma => k_is); (case k22 => as_aux_lemma => k_is); (case a23 => as_aux_lemma => k_is); (case l23 => as_aux_lemma => k_is); (case c23 => as_aux_lemma => k_is); (case k23 => as_aux_lemma => k_is); (case a24 => as_aux_lemma => k_is); (case l24 => as_aux_lemma => k_is); (case c24 => as_aux_lemma => k_is); (case k24 => as_aux_lemma => k_is); (case kd8 => as_aux_lemma => k_is); (case u8 => as_aux_lemma => k_is); (case pp8 => rfl); (case tb8 => kernel_rfl); (case zabs => as_aux_lemma => k_is); (case zbool => as_aux_lemma => k_is); (case zint => as_aux_lemma => k_is); (case zisinstance => as_aux_lemma => k_is); (case zlen => as_aux_lemma => k_is); (case zlist => as_aux_lemma => k_is); (case zmax => as_aux_lemma => k_is); (case zmin => as_aux_lemma => k_is); (case zrange => as_aux_lemma => k_is); (case zrepr => as_aux_lemma => k_is); (case zsum => as_aux_lemma => k_is); (case ztuple => as_aux_lemma => k_is); (case vMAX_COST => as_aux_lemma => k_is); (case vMAX_DROP => as_aux_lemma => k_is); (case vMAX_LEVELS => as_aux_lemma => k_is); (case vMAX_POWER => as_aux_lemma => k_is); (case vMAX_REQUESTS => as_aux_lemma => k_is); (case vMAX_STATES => as_aux_lemma => k_is); (case vMAX_WAKE => as_aux_lemma => k_is); (case vMIN_LEVELS => as_aux_lemma => k_is); (case xa_InvalidSystem => as_aux_lemma => k_is); (case xe_InvalidSystem => k_exc); (case xk_InvalidSystem => as_aux_lemma => k_is); (case xs_InvalidSystem => as_aux_lemma => k_is); (case xt_InvalidSystem => as_aux_lemma => k_is); (case hd8 => kernel_rfl); (case nl8 => kernel_rfl); (case em8 => exact PySem.W.kIn_of Y _ _ (by kernel_rfl)); (case ndp => decide)

