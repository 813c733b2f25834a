import PyProof.Rows.All
import Wide.All
import OpenK.AllK
import Wide.FinOn
import Lean
import PyProof.EqAt
import PyProof.EqKinds
import PyProof.TupleCall
import PyProof.StrLawsRepr
import PySem.Challenge.RW_pivotfold_k15_emptied
set_option Elab.async false
set_option linter.all false
set_option maxRecDepth 100000
namespace L2
open PySem PySem.Spec PyProof.Rows
abbrev Key := Sum Int Str
def keyIs : Key → Value → Bool
  | .inl k, v => Value.isInt k v
  | .inr x, v => Value.isStrOf x v
def keyH (w : World) : Key → Int
  | .inl k => hashInt k
  | .inr x => hashStr w x
theorem keyIs_shape : ∀ {k : Key} {v : Value}, keyIs k v = true → (∃ i t, k = Sum.inl i ∧ v = Value.int i t) ∨ (∃ x t, k = Sum.inr x ∧ v = Value.str x t)
  | .inl i, v, h => by
    obtain ⟨t, e⟩ := Value.isInt_shape (k := i) (v := v) h
    exact .inl ⟨i, t, rfl, e⟩
  | .inr x, v, h => by
    obtain ⟨t, e⟩ := Value.isStrOf_shape (x := x) (v := v) h
    exact .inr ⟨x, t, rfl, e⟩
theorem keyIs_int (i : Int) (t : Tok) : keyIs (.inl i) (.int i t) = true := by simp [keyIs, Value.isInt]
theorem keyIs_str (x : Str) (t : Tok) : keyIs (.inr x) (.str x t) = true := by simp [keyIs, Value.isStrOf]
theorem key_ll (a b : Int) : decide ((Sum.inl a : Key) = Sum.inl b) = (a == b) := by
  by_cases e : a = b
  · subst e; simp
  · have h : ¬ (Sum.inl a : Key) = Sum.inl b := fun q => e (Sum.inl.inj q)
    rw [decide_eq_false h]
    exact (beq_eq_false_iff_ne.mpr e).symm
theorem key_rr (a b : Str) : decide ((Sum.inr a : Key) = Sum.inr b) = decide (a = b) := by
  by_cases e : a = b
  · subst e; simp
  · have h : ¬ (Sum.inr a : Key) = Sum.inr b := fun q => e (Sum.inr.inj q)
    rw [decide_eq_false h, decide_eq_false e]
theorem key_lr (a : Int) (b : Str) : decide ((Sum.inl a : Key) = Sum.inr b) = false := decide_eq_false (fun q => nomatch q)
theorem key_rl (a : Str) (b : Int) : decide ((Sum.inr a : Key) = Sum.inl b) = false := decide_eq_false (fun q => nomatch q)
def mixKind (prog : Program) (w : World) : PySem.KeyKind prog w Key where
  is := keyIs
  hash := keyH w
  inj := fun v a b ha hb => by
    rcases keyIs_shape ha with ⟨i, t, rfl, rfl⟩ | ⟨x, t, rfl, rfl⟩
    · rcases keyIs_shape hb with ⟨j, u, rfl, e⟩ | ⟨y, u, rfl, e⟩
      · injection e with e1 _; rw [e1]
      · exact nomatch e
    · rcases keyIs_shape hb with ⟨j, u, rfl, e⟩ | ⟨y, u, rfl, e⟩
      · exact nomatch e
      · injection e with e1 _; rw [e1]
  byValue := fun k v h => by
    rcases keyIs_shape h with ⟨i, t, rfl, rfl⟩ | ⟨x, t, rfl, rfl⟩ <;> rfl
  pyHash := fun hv h => by
    rcases keyIs_shape hv with ⟨i, t, rfl, rfl⟩ | ⟨x, t, rfl, rfl⟩
    · exact wpAny_pyHash_int h
    · exact wpAny_pyHash_str h
  eqBool := fun hu hv h => by
    rcases keyIs_shape hu with ⟨i, t, rfl, rfl⟩ | ⟨x, t, rfl, rfl⟩
    · rcases keyIs_shape hv with ⟨j, u, rfl, rfl⟩ | ⟨y, u, rfl, rfl⟩
      · rw [key_ll] at h; exact wpAny_eqBool_int h
      · rw [key_lr] at h; exact SeqAt.EqAt.int_str i t y u _ _ _ _ h
    · rcases keyIs_shape hv with ⟨j, u, rfl, rfl⟩ | ⟨y, u, rfl, rfl⟩
      · rw [key_rl] at h; exact SeqAt.EqAt.str_int x t j u _ _ _ _ h
      · rw [key_rr] at h; exact wpAny_eqBool_str h
  «strs» := fun k x t v h => by
    rcases keyIs_shape h with ⟨i, u, rfl, e⟩ | ⟨y, u, rfl, e⟩
    · exact nomatch e
    · injection e with e1 _
      subst e1
      cases v <;> rfl
theorem mixKind_is (prog : Program) (w : World) (k : Key) (v : Value) : (mixKind prog w).is k v = keyIs k v := rfl
theorem mixKind_int (prog : Program) (w : World) (i : Int) (t : Tok) : (mixKind prog w).is (.inl i) (.int i t) = true := keyIs_int i t
theorem mixKind_str (prog : Program) (w : World) (x : Str) (t : Tok) : (mixKind prog w).is (.inr x) (.str x t) = true := keyIs_str x t
end L2
namespace L2
open PySem PySem.Spec PyProof.Rows
inductive V where
  | non | bl (b : Bool) | int (i : Int) | str (x : Str) | byt (b : Array UInt8) | flt (b : UInt64) | ref (a : Addr) | ty (n : String)
  deriving DecidableEq
def RelV : V → Value → Prop
  | .non, u => u = Value.none
  | .bl b, u => u = Value.bool b
  | .int i, u => ∃ t, u = Value.int i t
  | .str x, u => ∃ t, u = Value.str x t
  | .byt b, u => ∃ t, u = Value.bytes b t
  | .flt b, u => ∃ t, u = Value.float b t
  | .ref a, u => u = Value.ref a
  | .ty n, u => u = Value.type n
abbrev Vals : List V → List Value → Prop := Paired RelV
theorem Vals.length {xs : List V} {us : List Value} (r : Vals xs us) : xs.length = us.length := Paired.length r
theorem Vals.get : ∀ {xs : List V} {us : List Value} {i : Nat} {x : V}, Vals xs us → xs[i]? = some x → ∃ u, us[i]? = some u ∧ RelV x u
  | _, _, _, _, .nil, e => by simp at e
  | _, _, 0, _, .cons r _, e => by simp at e; subst e; exact ⟨_, rfl, r⟩
  | _, _, i + 1, x, .cons _ t, e => by
    obtain ⟨u, h1, h2⟩ := Vals.get (i := i) (x := x) t (by simpa using e)
    exact ⟨u, by simpa using h1, h2⟩
theorem Vals.set {x : V} {u : Value} (r : RelV x u) : ∀ {xs : List V} {us : List Value} (i : Nat), Vals xs us → Vals (xs.set i x) (us.set i u)
  | _, _, _, .nil => .nil
  | _, _, 0, .cons _ t => .cons r t
  | _, _, i + 1, .cons q t => .cons q (Vals.set r i t)
theorem Vals.append : ∀ {xs ys : List V} {us ws : List Value}, Vals xs us → Vals ys ws → Vals (xs ++ ys) (us ++ ws)
  | _, _, _, _, .nil, s => s
  | _, _, _, _, .cons r t, s => .cons r (Vals.append t s)
theorem Vals.take : ∀ {xs : List V} {us : List Value} (n : Nat), Vals xs us → Vals (xs.take n) (us.take n)
  | _, _, 0, _ => .nil
  | _, _, _ + 1, .nil => .nil
  | _, _, n + 1, .cons r t => .cons r (Vals.take n t)
theorem Vals.drop : ∀ {xs : List V} {us : List Value} (n : Nat), Vals xs us → Vals (xs.drop n) (us.drop n)
  | _, _, 0, r => r
  | _, _, _ + 1, .nil => .nil
  | _, _, n + 1, .cons _ t => Vals.drop n t
theorem Vals.none_of : ∀ {xs : List V} {us : List Value} {i : Nat}, Vals xs us → xs[i]? = none → us[i]? = none := fun {xs us i} r e => by
  have h1 := r.length
  have h2 : xs.length ≤ i := List.getElem?_eq_none_iff.mp e
  exact List.getElem?_eq_none_iff.mpr (by omega)
def RelO : Option V → Option Value → Prop
  | some v, some u => RelV v u
  | none, none => True
  | _, _ => False
def KV {κ : Type} : List (κ × V) → List (κ × Value) → Prop := Paired fun (p : κ × V) (q : κ × Value) => p.1 = q.1 ∧ RelV p.2 q.2
def kV : Key → V
  | .inl i => .int i
  | .inr x => .str x
inductive HO where
  /-- a list -/
  | lst (xs : List V)
  /-- a tuple (never changes) -/
  | tup (xs : List V)
  /-- a dict whose keys are ints and texts; one whose keys are tuples of ints and texts (the empty one is both) -/
  | dK (kvs : List (Key × V)) | dT (kvs : List (List Key × V))
  /-- a set of ints: its members, its size -/
  | set (S : Int → Bool) (n : Nat)
  /-- an instance of the class at C, its dict at dx, its attributes -/
  | ins (C dx : Addr) (fs : List (Str × V))
  /-- the dict of the instance at x -/
  | own (x : Addr)
  /-- the dict of an exception -/
  | xd (fs : List (Str × V))
  /-- a bound method, f of x -/
  | met (f x : Addr)
  /-- a range object lo, lo + 1, .. below hi -/
  | rng (lo hi : Int)
  /-- a thing that is known to the object (the script; a dict while a loop walks it): read, never written while it is so -/
  | frz (o : Obj) (u : HO)
  /-- a code object's table -/
  | tbl (ps : Array Value)
  /-- any other thing, by what is true of its one object (a def of one's own: SetO a S n := HO.ext fun h => ..) -/
  | ext (φ : Heap → Prop)
abbrev Hp := Addr → Option HO
def upd (H : Hp) (a : Addr) (o : HO) : Hp := fun b => if b = a then some o else H b
theorem upd_same {H : Hp} {a : Addr} {o : HO} : upd H a o a = some o := by unfold upd; rw [if_pos rfl]
theorem upd_ne {H : Hp} {a b : Addr} {o : HO} (h : b ≠ a) : upd H a o b = H b := by unfold upd; rw [if_neg h]
theorem upd_upd {H : Hp} {a : Addr} {o u : HO} : upd (upd H a o) a u = upd H a u := by
  funext b; unfold upd; split <;> rfl
theorem ne_of {H : Hp} {a b : Addr} {o u : HO} (h : H a = some o) (h' : H b = some u) (d : o ≠ u) : a ≠ b := by
  intro e; subst e; rw [h] at h'; exact d (Option.some.inj h')
theorem ne_of_none {H : Hp} {a b : Addr} {o : HO} (h : H a = some o) (h' : H b = none) : a ≠ b := by
  intro e; subst e; rw [h] at h'; cases h'
section
variable (P : Program) (w : World)
def ObjOk (H : Hp) (h : Heap) (a : Addr) : HO → Prop
  | .lst xs => xs.length ≤ sizeLine ∧ ∃ (its : List Value) (n : Nat), Vals xs its ∧ h.get? a = some { cls := .type "list", data := .seq its.toArray n }
  | .tup xs => xs.length ≤ sizeLine ∧ ∃ its : List Value, Vals xs its ∧ IsTup h a its.toArray
  | .dK kvs => kvs.length ≤ sizeLine ∧ (a == sysModules) = false ∧ ∃ vs, KV kvs vs ∧ h.DictOf (mixKind P w) a vs
  | .dT kvs => kvs.length ≤ sizeLine ∧ (a == sysModules) = false ∧ ∃ xs : List (List Key × Addr × Value),
      Paired (fun (p : List Key × V) (q : List Key × Addr × Value) => p.1 = q.1 ∧ H q.2.1 = some (.tup (p.1.map kV)) ∧ RelV p.2 q.2.2) kvs xs ∧
      ∃ o es ep, h.get? a = some o ∧ o.ExactDict ∧ o.data = .dict es ep ∧ es.toList = xs.map (entryOfKey (tupleKind (mixKind P w))) ∧ (xs.map (·.1)).Nodup
  | .set S n => h.SetOf (intKind P w) a S n
  | .ins C dx fs => H dx = some (.own a) ∧ fs.length ≤ 1000 ∧ dx ≠ a ∧ h.get? a = some (PySem.W.instObj C dx) ∧
      ∃ mA, h.Ns1 dx mA ∧ (∀ f, RelO (fs.lookup f) (mA f)) ∧ PySem.Within mA (fs.map (·.1))
  | .own _ => ∃ o, h.get? a = some o
  | .xd fs => ∃ mA, h.Ns1 a mA ∧ ∀ f, RelO (fs.lookup f) (mA f)
  | .rng lo hi => ∃ t u v, h.get? a = some { cls := .type "range", data := .fields #[.int lo t, .int hi u, .int 1 v] }
  | .frz o u => h.get? a = some o ∧ ObjOk H h a u
  | .tbl ps => h.get? a = some { cls := .none, data := .fields ps }
  | .met f x => h.get? a = some (PySem.W.methodObj (.ref f) (.ref x))
  | .ext φ => φ h ∧ (∃ o, h.get? a = some o) ∧ ∀ h1 h2 : Heap, φ h1 → (∀ o, h1.get? a = some o → h2.get? a = some o) → φ h2
def HOk (H : Hp) (h : Heap) : Prop := ∀ a o, H a = some o → ObjOk P w H h a o
end
section
variable {P : Program} {w : World} {H H' : Hp} {h h' : Heap} {a : Addr} {o : HO}
theorem ObjOk.lt (x : ObjOk P w H h a o) : a < h.objs.size := by
  cases o with
  | lst xs => obtain ⟨_, _, _, _, e⟩ := x; exact Heap.lt_size e
  | tup xs => obtain ⟨_, _, _, p⟩ := x; exact p.lt
  | dK kvs => obtain ⟨_, _, _, _, o, _, _, e, _⟩ := x; exact Heap.lt_size e
  | dT kvs => obtain ⟨_, _, _, _, o, _, _, e, _⟩ := x; exact Heap.lt_size e
  | set S n => obtain ⟨o, _, _, _, e, _⟩ := x; exact Heap.lt_size e
  | ins C dx fs => obtain ⟨_, _, _, e, _⟩ := x; exact Heap.lt_size e
  | own y => obtain ⟨_, e⟩ := x; exact Heap.lt_size e
  | xd fs => obtain ⟨_, ⟨_, _, _, e, _⟩, _⟩ := x; exact Heap.lt_size e
  | rng lo hi => obtain ⟨_, _, _, e⟩ := x; exact Heap.lt_size e
  | frz ob u => obtain ⟨e, _⟩ := x; exact Heap.lt_size e
  | tbl ps => exact Heap.lt_size (show h.get? a = some _ from x)
  | met f y => exact Heap.lt_size (show h.get? a = some _ from x)
  | ext φ => obtain ⟨_, ⟨_, e⟩, _⟩ := x; exact Heap.lt_size e
theorem Paired.mapP {α β : Type} {F G : α → β → Prop} : ∀ {l₁ : List α} {l₂ : List β}, Paired F l₁ l₂ → (∀ a b, F a b → G a b) → Paired G l₁ l₂
  | _, _, .nil, _ => .nil
  | _, _, .cons r t, f => .cons (f _ _ r) (Paired.mapP t f)
theorem Paired.imp' {α β : Type} {F G : α → β → Prop} (f : ∀ a b, F a b → G a b) {l₁ : List α} {l₂ : List β} (r : Paired F l₁ l₂) : Paired G l₁ l₂ := Paired.mapP r f
theorem ObjOk.stay (x : ObjOk P w H h a o) (k : ∀ b u, (b = a ∨ H b = some (.own a)) → h.get? b = some u → h'.get? b = some u)
    (ho : ∀ b, H b = some (.own a) → H' b = some (.own a)) (ht : ∀ b xs, H b = some (.tup xs) → H' b = some (.tup xs)) : ObjOk P w H' h' a o := by
  induction o with
  | lst xs => obtain ⟨z, its, n, r, e⟩ := x; exact ⟨z, its, n, r, k _ _ (.inl rfl) e⟩
  | tup xs => obtain ⟨z, its, r, ob, e, c⟩ := x; exact ⟨z, its, r, ob, k _ _ (.inl rfl) e, c⟩
  | dK kvs => obtain ⟨z, y, vs, r, ob, es, ep, e, c⟩ := x; exact ⟨z, y, vs, r, ob, es, ep, k _ _ (.inl rfl) e, c⟩
  | dT kvs =>
    obtain ⟨z, y, xs, r, ob, es, ep, e, c⟩ := x
    exact ⟨z, y, xs, Paired.mapP r fun p q z => ⟨z.1, ht _ _ z.2.1, z.2.2⟩, ob, es, ep, k _ _ (.inl rfl) e, c⟩
  | set S n => obtain ⟨ob, es, ep, t, e, c⟩ := x; exact ⟨ob, es, ep, t, k _ _ (.inl rfl) e, c⟩
  | ins C dx fs =>
    obtain ⟨d, z, ne, e, mA, ⟨od, es, ep, e2, c⟩, r⟩ := x
    exact ⟨ho _ d, z, ne, k _ _ (.inl rfl) e, mA, ⟨od, es, ep, k _ _ (.inr d) e2, c⟩, r⟩
  | own y => obtain ⟨ob, e⟩ := x; exact ⟨ob, k _ _ (.inl rfl) e⟩
  | xd fs => obtain ⟨mA, ⟨od, es, ep, e, c⟩, r⟩ := x; exact ⟨mA, ⟨od, es, ep, k _ _ (.inl rfl) e, c⟩, r⟩
  | rng lo hi => obtain ⟨t, u, v, e⟩ := x; exact ⟨t, u, v, k _ _ (.inl rfl) e⟩
  | frz ob u ih => obtain ⟨e, q⟩ := x; exact ⟨k _ _ (.inl rfl) e, ih q⟩
  | tbl ps =>
    have e : h.get? a = some { cls := .none, data := .fields ps } := x
    show h'.get? a = some { cls := .none, data := .fields ps }
    exact k a _ (.inl rfl) e
  | met f y =>
    have e : h.get? a = some (PySem.W.methodObj (.ref f) (.ref y)) := x
    show h'.get? a = some (PySem.W.methodObj (.ref f) (.ref y))
    exact k a _ (.inl rfl) e
  | ext φ => obtain ⟨p, ⟨o, e⟩, st⟩ := x; exact ⟨st _ _ p fun o q => k _ _ (.inl rfl) q, ⟨o, k _ _ (.inl rfl) e⟩, st⟩
theorem HOk.lt (x : HOk P w H h) (e : H a = some o) : a < h.objs.size := (x a o e).lt
theorem HOk.fresh (x : HOk P w H h) (e : h.objs.size ≤ a) : H a = none := by
  cases q : H a with
  | none => rfl
  | some u => exact absurd (Nat.lt_of_lt_of_le (x.lt q) e) (Nat.lt_irrefl _)
theorem HOk.kept (x : HOk P w H h) (k : ∀ b u, h.get? b = some u → h'.get? b = some u) : HOk P w H h' := fun a o e =>
  (x a o e).stay (fun b u _ q => k b u q) (fun _ q => q) fun _ _ q => q
theorem HOk.laid (x : HOk P w H h) (k : ∀ b u, h.get? b = some u → h'.get? b = some u) (hp : h.objs.size ≤ a) (new : ObjOk P w (upd H a o) h' a o) : HOk P w (upd H a o) h' := fun b u e => by
  have hn := x.fresh hp
  by_cases hb : b = a
  · subst hb; rw [upd_same] at e; cases e; exact new
  · rw [upd_ne hb] at e
    exact (x b u e).stay (fun c v _ q => k c v q) (fun c q => by rw [upd_ne (ne_of_none q hn)]; exact q) fun c xs q => by rw [upd_ne (ne_of_none q hn)]; exact q
end
def Rd (H : Hp) (a : Addr) (u : HO) : Prop := H a = some u ∨ ∃ o, H a = some (.frz o u)
theorem Rd.of {H : Hp} {a : Addr} {u : HO} (h : H a = some u) : Rd H a u := .inl h
theorem Rd.ok {P : Program} {w : World} {H : Hp} {h : Heap} {a : Addr} {u : HO} (r : Rd H a u) (x : HOk P w H h) : ObjOk P w H h a u := by
  rcases r with r | ⟨o, r⟩
  · exact x a u r
  · obtain ⟨_, q⟩ := x a _ r
    exact q
def Mut : Option HO → Prop
  | some (.lst _) => True
  | some (.dK _) => True
  | some (.dT _) => True
  | some (.set _ _) => True
  | some (.ins _ _ _) => True
  | some (.ext _) => True
  | _ => False
section
variable {P : Program} {w : World} {H : Hp} {h h' : Heap} {x e : Addr} {o' : HO}
theorem HOk.write (ok : HOk P w H h) (mu : Mut (H x)) (he : e = x ∨ H e = some (.own x)) (k : ∀ b u, b ≠ e → h.get? b = some u → h'.get? b = some u) (heo : ∃ u, h'.get? e = some u)
    (new : ObjOk P w (upd H x o') h' x o') : HOk P w (upd H x o') h' := fun b u q => by
  have nown : ∀ c y, H c = some (.own y) → c ≠ x := fun c y r z => by subst z; rw [r] at mu; exact mu
  have ntup : ∀ c xs, H c = some (.tup xs) → c ≠ x := fun c xs r z => by subst z; rw [r] at mu; exact mu
  by_cases hb : b = x
  · subst hb; rw [upd_same] at q; cases q; exact new
  · rw [upd_ne hb] at q
    by_cases hbe : b = e
    · have q' : H b = some (.own x) := by
        rcases he with z | z
        · exact absurd (hbe.trans z) hb
        · rw [hbe]; exact z
      rw [q] at q'; cases q'
      obtain ⟨v, hv⟩ := heo
      exact ⟨v, by rw [hbe]; exact hv⟩
    · refine (ok b u q).stay (fun c v hc r => k c v ?_ r) (fun c r => by rw [upd_ne (nown c b r)]; exact r) fun c xs r => by rw [upd_ne (ntup c xs r)]; exact r
      rcases hc with rfl | hc
      · exact hbe
      · rintro rfl
        rcases he with z | z
        · exact nown c b hc z
        · rw [hc] at z; cases z; exact hb rfl
end
structure Un (fs ex : List Addr) (H H' : Hp) (h h' : Heap) : Prop where
  keep : ∀ b o, h.get? b = some o → H b = none → b ∉ fs → b ∉ ex → h'.get? b = some o
  slot : ∀ b o, h.get? b = some o → H b = none → b ∈ fs → b ∉ ex → ∃ sl, h'.get? b = some { o with slots := sl }
  free : ∀ b o, h.get? b = some o → H b = none → b ∉ ex → H' b = none
  there : ∀ b o, h.get? b = some o → b ∉ ex → ∃ o', h'.get? b = some o'
  tups : ∀ b xs, H b = some (.tup xs) → H' b = some (.tup xs)
  frzs : ∀ b o u, H b = some (.frz o u) → H' b = some (.frz o u)
  tbls : ∀ b ps, H b = some (.tbl ps) → ∃ more, H' b = some (.tbl (ps ++ more))
section
variable {fs fs' ex ex' : List Addr} {H H1 H2 : Hp} {h h1 h2 h' : Heap} {a x e : Addr} {o : HO}
theorem Un.any (u : Un fs ex H H1 h h1) {b : Addr} {ob : Obj} (q : h.get? b = some ob) (n : H b = none) (hx : b ∉ ex) : ∃ sl, h1.get? b = some { ob with slots := sl } := by
  by_cases hb : b ∈ fs
  · exact u.slot b ob q n hb hx
  · exact ⟨ob.slots, u.keep b ob q n hb hx⟩
theorem Un.trans (a : Un fs ex H H1 h h1) (b : Un fs ex H1 H2 h1 h2) : Un fs ex H H2 h h2 where
  keep := fun c ob q n hc hx => b.keep c ob (a.keep c ob q n hc hx) (a.free c ob q n hx) hc hx
  slot := fun c ob q n hc hx => by
    obtain ⟨sl, e1⟩ := a.slot c ob q n hc hx
    obtain ⟨sl', e2⟩ := b.slot c _ e1 (a.free c ob q n hx) hc hx
    exact ⟨sl', e2⟩
  free := fun c ob q n hx => by
    obtain ⟨o', e1⟩ := a.there c ob q hx
    exact b.free c o' e1 (a.free c ob q n hx) hx
  there := fun c ob q hx => by
    obtain ⟨o', e1⟩ := a.there c ob q hx
    exact b.there c o' e1 hx
  tups := fun c xs q => b.tups c xs (a.tups c xs q)
  frzs := fun c ob xs q => b.frzs c ob xs (a.frzs c ob xs q)
  tbls := fun c ps q => by
    obtain ⟨m1, e1⟩ := a.tbls c ps q
    obtain ⟨m2, e2⟩ := b.tbls c _ e1
    exact ⟨m1 ++ m2, by rw [e2, Array.append_assoc]⟩
theorem Un.kept (k : ∀ b u, h.get? b = some u → h'.get? b = some u) : Un fs ex H H h h' :=
  ⟨fun b ob q _ _ _ => k b ob q, fun b ob q _ _ _ => ⟨ob.slots, k b ob q⟩, fun _ _ _ n _ => n, fun b ob q _ => ⟨ob, k b ob q⟩, fun _ _ q => q, fun _ _ _ q => q, fun _ ps q => ⟨#[], by rw [q]; simp⟩⟩
theorem Un.refl : Un fs ex H H h h := Un.kept fun _ _ q => q
theorem Un.laid (k : ∀ b u, h.get? b = some u → h'.get? b = some u) (hp : h.objs.size ≤ a) (hn : H a = none) : Un fs ex H (upd H a o) h h' where
  keep := fun b u q _ _ _ => k b u q
  slot := fun b u q _ _ _ => ⟨u.slots, k b u q⟩
  free := fun b u q n _ => by rw [upd_ne (Nat.ne_of_lt (Nat.lt_of_lt_of_le (Heap.lt_size q) hp))]; exact n
  there := fun b u q _ => ⟨u, k b u q⟩
  tups := fun b xs q => by rw [upd_ne (ne_of_none q hn)]; exact q
  frzs := fun b u xs q => by rw [upd_ne (ne_of_none q hn)]; exact q
  tbls := fun b ps q => ⟨#[], by rw [upd_ne (ne_of_none q hn), q]; simp⟩
theorem Un.write (mu : Mut (H x)) (he : e = x ∨ H e = some (.own x)) (k : ∀ b u, b ≠ e → h.get? b = some u → h'.get? b = some u) (heo : ∃ u, h'.get? e = some u) : Un fs ex H (upd H x o) h h' := by
  have hx : ∀ b, H b = none → b ≠ x := fun b n z => by subst z; rw [n] at mu; exact mu
  have hb : ∀ b, H b = none → b ≠ e := fun b n z => by
    subst z
    rcases he with r | r
    · exact hx b n r
    · rw [n] at r; cases r
  have hm : ∀ b u, H b = some u → ¬ Mut (some u) → b ≠ x := fun b u q nm z => by subst z; rw [q] at mu; exact nm mu
  refine ⟨fun b u q n _ _ => k b u (hb b n) q, fun b u q n _ _ => ⟨u.slots, k b u (hb b n) q⟩, fun b u q n _ => by rw [upd_ne (hx b n)]; exact n, fun b u q _ => ?_,
    fun b xs q => by rw [upd_ne (hm b _ q fun z => z)]; exact q, fun b u xs q => by rw [upd_ne (hm b _ q fun z => z)]; exact q, fun b ps q => ⟨#[], by rw [upd_ne (hm b _ q fun z => z), q]; simp⟩⟩
  by_cases hbe : b = e
  · subst hbe; exact heo
  · exact ⟨u, k b u hbe q⟩
theorem Un.mono (u : Un fs ex H H1 h h1) (hs : ∀ b ∈ fs, b ∈ fs') (hx : ∀ b ∈ ex, b ∈ ex') : Un fs' ex' H H1 h h1 :=
  ⟨fun b ob q n hb he => u.keep b ob q n (fun z => hb (hs b z)) fun z => he (hx b z), fun _ _ q n _ he => u.any q n fun z => he (hx _ z), fun b ob q n he => u.free b ob q n fun z => he (hx b z), fun b ob q he => u.there b ob q fun z => he (hx b z), u.tups, u.frzs, u.tbls⟩
end
def trk (h : Heap) (H : Hp) : List Addr := (List.range h.objs.size).filter fun a => (H a).isSome
def hidT (h : Heap) (H : Hp) : Heap := PySem.W.hideAll h (trk h H)
theorem hidT_size (h : Heap) (H : Hp) : (hidT h H).objs.size = h.objs.size := PySem.W.hideAll_size _ _
theorem hidT_get {h : Heap} {H : Hp} {b : Addr} {o : Obj} (e : h.get? b = some o) (n : H b = none) : (hidT h H).get? b = some o :=
  PySem.W.hideAll_get _ e fun hm => by
    have q : (H b).isSome = true := (List.mem_filter.mp hm).2
    rw [n] at q; simp at q
theorem of_hidT {h : Heap} {H : Hp} {b : Addr} {o : Obj} (e : (hidT h H).get? b = some o) : h.get? b = some o ∧ H b = none := by
  have e' : h.get? b = some o := PySem.W.of_hideAll (trk h H) e
  refine ⟨e', ?_⟩
  cases q : H b with
  | none => rfl
  | some x =>
    have hm : b ∈ trk h H := List.mem_filter.mpr ⟨List.mem_range.mpr (Heap.lt_size e'), by simp [q]⟩
    have z : (hidT h H).get? b = none := PySem.W.hideAll_none (trk h H) hm
    rw [z] at e; cases e
def allNews (g h : Heap) (L : Addr) : List (Addr × Obj) := (List.range h.objs.size).filterMap fun a => if a = L ∨ (g.get? a).isSome = true then none else (h.get? a).map fun o => (a, o)
theorem mem_allNews {g h : Heap} {L a : Addr} {o : Obj} (h1 : a ≠ L) (h2 : g.get? a = none) (h3 : h.get? a = some o) : (a, o) ∈ allNews g h L :=
  List.mem_filterMap.mpr ⟨a, List.mem_range.mpr (Heap.lt_size h3), by simp [h1, h2, h3]⟩
theorem of_mem_allNews {g h : Heap} {L : Addr} {p : Addr × Obj} (hp : p ∈ allNews g h L) : p.1 ≠ L ∧ g.get? p.1 = none ∧ h.get? p.1 = some p.2 := by
  obtain ⟨b, _, e⟩ := List.mem_filterMap.mp hp
  split at e
  · cases e
  · rename_i hn
    cases q : h.get? b with
    | none => rw [q] at e; simp at e
    | some u =>
      rw [q] at e
      simp only [Option.map_some, Option.some.injEq] at e
      subst e
      refine ⟨fun z => hn (.inl z), ?_, q⟩
      show g.get? b = none
      cases r : g.get? b with
      | none => rfl
      | some v => exact (hn (.inr (by simp [r]))).elim
def rest (g h : Heap) (L d : Addr) : List (Addr × Obj) := (allNews g h L).filter fun p => decide (p.1 ≠ d)
theorem rest_ne {g h : Heap} {L d : Addr} : ∀ p ∈ rest g h L d, p.1 ≠ d := fun p hp => of_decide_eq_true (List.mem_filter.mp hp).2
theorem mem_rest {g h : Heap} {L d a : Addr} {o : Obj} (h1 : a ≠ L) (h2 : g.get? a = none) (h3 : h.get? a = some o) (h4 : a ≠ d) : (a, o) ∈ rest g h L d :=
  List.mem_filter.mpr ⟨mem_allNews h1 h2 h3, decide_eq_true h4⟩
theorem news_all {g h : Heap} {L : Addr} : News g L h (allNews g h L) := fun p hp => let ⟨a, b, c⟩ := of_mem_allNews hp; ⟨c, a, b⟩
theorem news_at {g h : Heap} {L d : Addr} {o : Obj} (h1 : d ≠ L) (h2 : g.get? d = none) (h3 : h.get? d = some o) : News g L h ((d, o) :: rest g h L d) := fun p hp => by
  rcases List.mem_cons.mp hp with rfl | hp
  · exact ⟨h3, h1, h2⟩
  · exact news_all p (List.mem_filter.mp hp).1
theorem kept_of_news {g h h' : Heap} {L d : Addr} {m : Str → Option Value} (k : ∀ b o, g.get? b = some o → h.get? b = some o) (F : Fr g L h' m) (N : News g L h' (rest g h L d)) :
    ∀ b o, b ≠ L → b ≠ d → h.get? b = some o → h'.get? b = some o := fun b o h1 h2 e => by
  cases q : g.get? b with
  | some u =>
    have := k b u q
    rw [e] at this; cases this
    exact F.keep b _ q
  | none => exact (N (b, o) (mem_rest h1 q e h2)).1
end L2
namespace L2
open PySem PySem.Spec PyProof.Rows
structure Mod (K : PySem.W.Frag) (mg : Str → Option Value) (base : Heap) : Prop where
  kin : K.In base
  glob : base.Ns mainGlobals mg
  blt : ∃ mb, base.Ns builtinsNs mb ∧ ∀ x : Str, x ≠ "__name__" → mb x = bootBuiltins x
  nolimit : base.NoLimit
/-- the context: a def's body (or a comprehension's block) running. base: fixed through the whole law; s₀, H₀: the entry; outer: the frames whose slots others may change (a def's callers); stack: all frames that run;
   ex: iterators that were made ahead of the entry and are walked here (a comprehension's); fn: the names whose cells were made at the entry (a def: all; a comprehension's block: its own); calm: not within an except suite; pn: pins that every state bears; xe: what is wanted of an exception that leaves the code -/
structure Cx where
  prog : Program
  w : World
  K : PySem.W.Frag
  mg : Str → Option Value
  base : Heap
  A : Around
  N : List Str
  s₀ : Shared
  H₀ : Hp
  env : Env
  outer : List Env
  stack : List Env
  ex : List Addr
  fn : Str → Bool
  calm : Bool
  pn : List (Addr × Obj)
  xe : Value → Shared → Prop
def frs (l : List Env) : List Addr := l.filterMap (·.frame)
abbrev Cx.fs (X : Cx) : List Addr := frs X.outer
def Vis (sc : Scope) (x : Str) : Prop := sc.names.lookup x = some .local ∨ sc.names.lookup x = some .cell ∨ sc.names.lookup x = some .free
def Loc (sc : Scope) (x : Str) : Prop := sc.names.lookup x = some .local ∨ sc.names.lookup x = some .cell
def Look (env : Env) (h : Heap) (m : Str → Option Value) (x : Str) (u : Value) : Prop :=
  (env.kindOf x = some .local ∧ m x = some u) ∨ ((env.kindOf x = some .cell ∨ env.kindOf x = some .free) ∧ ∃ c, env.cells.lookup x = some c ∧ h.IsCell c (some u))
structure Cx.Ok (X : Cx) : Prop where
  mod : Mod X.K X.mg X.base
  kind : X.env.scope.kind = .function
  glob : X.env.globals = mainGlobals
  blt : X.env.builtins = builtinsNs
  above : X.s₀.heap.objs.size ≤ X.env.locals
  inj : ∀ x y c, X.env.cells.lookup x = some c → X.env.cells.lookup y = some c → x = y
  has : ∀ x, (X.env.kindOf x = some .cell ∨ X.env.kindOf x = some .free) → ∃ c, X.env.cells.lookup x = some c
  cab : ∀ x c, X.fn x = true → X.env.cells.lookup x = some c → X.s₀.heap.objs.size ≤ c
  hd : X.calm = true → X.A.handled = none
  frames : X.A.frames = some X.stack
  stk : X.stack = X.outer ∨ (X.stack = X.env :: X.outer ∧ X.env.frame = some X.env.locals)
  exf : ∀ b ∈ X.ex, b ≠ X.env.locals ∧ ∀ x c, X.env.cells.lookup x = some c → c ≠ b
  bs : ∀ b o, X.base.get? b = some o → X.s₀.heap.get? b = some o ∧ X.H₀ b = none
  bsz : X.base.objs.size ≤ X.s₀.heap.objs.size
  noex : ∀ b o, X.base.get? b = some o → b ∉ X.ex
  exfs : ∀ b ∈ X.ex, b ∉ X.fs
  funs : X.s₀.heap.FunFrames X.base X.outer
  frf : ∀ b ∈ X.fs, X.H₀ b = none
structure Inv (X : Cx) (pins : List (Addr × Obj)) (σ : List (Option V)) (H : Hp) (s : Shared) : Prop where
  ok : X.Ok
  os : s.os = X.s₀.os
  bare : AllBare s.gens
  base : Un X.fs X.ex X.H₀ H X.s₀.heap s.heap
  loc : ∃ m, s.heap.Ns X.env.locals m ∧ ∀ (i : Nat) (x : Str) (v : V), X.N[i]? = some x → σ[i]? = some (some v) → Vis X.env.scope x → ∃ u, RelV v u ∧ Look X.env s.heap m x u
  cell : ∀ x c, X.env.cells.lookup x = some c → ∃ v, s.heap.IsCell c v
  free : H X.env.locals = none
  freeC : ∀ x c, X.env.cells.lookup x = some c → H c = none
  pin : ∀ p ∈ X.pn ++ pins, s.heap.get? p.1 = some p.2 ∧ H p.1 = none ∧ p.1 ≠ X.env.locals ∧ p.1 ∉ X.fs ∧ ∀ v, p.2.data ≠ .cell v
  hok : HOk X.prog X.w H s.heap
  len : σ.length = X.N.length
section
variable {X : Cx} {pins : List (Addr × Obj)} {σ : List (Option V)} {H H' : Hp} {s : Shared} {h' : Heap}
theorem Cx.Ok.nofr (ok : X.Ok) {b : Addr} {o : Obj} (e : X.base.get? b = some o) : b ∉ X.fs := fun hb => by
  have := (ok.funs.mem hb).1
  rw [e] at this; cases this
theorem Inv.bs (I : Inv X pins σ H s) : ∀ b o, X.base.get? b = some o → s.heap.get? b = some o ∧ H b = none := fun b o e =>
  ⟨I.base.keep b o (I.ok.bs b o e).1 (I.ok.bs b o e).2 (I.ok.nofr e) (I.ok.noex b o e), I.base.free b o (I.ok.bs b o e).1 (I.ok.bs b o e).2 (I.ok.noex b o e)⟩
theorem Inv.bk (I : Inv X pins σ H s) : ∀ b o, X.base.get? b = some o → s.heap.get? b = some o := fun b o e => (I.bs b o e).1
theorem Inv.mod (I : Inv X pins σ H s) : Mod X.K X.mg X.base := I.ok.mod
theorem Inv.kIn (I : Inv X pins σ H s) : X.K.In s.heap := I.ok.mod.kin.keeps I.bk
theorem Inv.nolimit (I : Inv X pins σ H s) : s.heap.NoLimit := I.ok.mod.nolimit.keeps I.bk
theorem Inv.fr (I : Inv X pins σ H s) : ∃ m, Fr X.base X.env.locals s.heap m :=
  let ⟨m, hn, _⟩ := I.loc
  ⟨m, hn, I.bk, Nat.le_trans I.ok.bsz I.ok.above⟩
theorem Inv.lt (I : Inv X pins σ H s) : X.env.locals < s.heap.objs.size := let ⟨_, hn, _⟩ := I.loc; hn.lt
theorem Inv.sz (I : Inv X pins σ H s) : X.s₀.heap.objs.size ≤ s.heap.objs.size := Nat.le_trans I.ok.above (Nat.le_of_lt I.lt)
theorem Inv.nofs (I : Inv X pins σ H s) {a : Addr} (h : s.heap.objs.size ≤ a) : a ∉ X.fs := fun hb => by
  obtain ⟨_, o, ho, _⟩ := I.ok.funs.mem hb
  exact absurd (Nat.lt_of_lt_of_le (Heap.lt_size ho) (Nat.le_trans I.sz h)) (Nat.lt_irrefl _)
theorem Inv.cne (I : Inv X pins σ H s) : ∀ x c, X.env.cells.lookup x = some c → c ≠ X.env.locals := fun x c e z => by
  obtain ⟨v, o, ho, hd⟩ := I.cell x c e
  obtain ⟨m, ⟨o', es, ep, ho', hd', _⟩, _⟩ := I.loc
  rw [z, ho'] at ho; cases ho; rw [hd'] at hd; cases hd
theorem Inv.funs (I : Inv X pins σ H s) : s.heap.FunFrames X.base X.outer := by
  have all : ∀ (l : List Env), (∀ b ∈ frs l, b ∈ X.fs) → X.s₀.heap.FunFrames X.base l → s.heap.FunFrames X.base l := by
    intro l
    induction l with
    | nil => intro _ _; trivial
    | cons env r ih =>
      intro hs hl
      obtain ⟨hk, ⟨L, o, hf, hn, ho, hd⟩, hr⟩ := hl
      have hL : L ∈ X.fs := hs L (by unfold frs; rw [List.filterMap_cons, hf]; exact List.mem_cons_self)
      obtain ⟨sl, e⟩ := I.base.slot L o ho (I.ok.frf L hL) hL fun z => I.ok.exfs L z hL
      exact ⟨hk, ⟨L, _, hf, hn, e, hd⟩, ih (fun b hb => hs b (by unfold frs; rw [List.filterMap_cons, hf]; exact List.mem_cons_of_mem _ hb)) hr⟩
  exact all X.outer (fun _ hb => hb) I.ok.funs
theorem Inv.stack (I : Inv X pins σ H s) : s.heap.FunFrames X.base X.stack := by
  rcases I.ok.stk with e | ⟨e, hf⟩
  · rw [e]; exact I.funs
  · rw [e]
    obtain ⟨m, hn, _⟩ := I.loc
    refine .cons (by rw [I.ok.kind]; decide) hf hn ?_ I.funs
    exact Heap.get?_none_of_le (Nat.le_trans I.ok.bsz I.ok.above)
theorem Inv.stkSub (I : Inv X pins σ H s) : ∀ b ∈ frs X.stack, b ∈ X.env.locals :: X.fs := fun b hb => by
  rcases I.ok.stk with e | ⟨e, hf⟩
  · rw [e] at hb; exact List.mem_cons_of_mem _ hb
  · rw [e] at hb
    unfold frs at hb
    rw [List.filterMap_cons, hf] at hb
    exact hb
theorem Inv.stkFree (I : Inv X pins σ H s) : ∀ b ∈ frs X.stack, H b = none := fun b hb => by
  rcases List.mem_cons.mp (I.stkSub b hb) with e | hb
  · rw [e]; exact I.free
  · obtain ⟨_, o, ho, _⟩ := I.ok.funs.mem hb
    exact I.base.free b o ho (I.ok.frf b hb) fun z => I.ok.exfs b z hb
theorem Inv.step {g' : Array GenState} {t' : Nat} {d' : Drawn} {ch : List Addr} (I : Inv X pins σ H s)
    (hch : ∀ b ∈ ch, (b ∈ X.ex ∨ X.s₀.heap.objs.size ≤ b) ∧ b ≠ X.env.locals ∧ (∀ x c, X.env.cells.lookup x = some c → c ≠ b) ∧ ∀ p ∈ X.pn ++ pins, p.1 ≠ b)
    (keep : ∀ b o, b ≠ X.env.locals → b ∉ X.fs → b ∉ ch → s.heap.get? b = some o → H b = none → h'.get? b = some o)
    (slot : ∀ b o, b ≠ X.env.locals → b ∈ X.fs → b ∉ ch → s.heap.get? b = some o → H b = none → ∃ sl, h'.get? b = some { o with slots := sl }) (free : ∀ b o, b ∉ ch → s.heap.get? b = some o → H b = none → H' b = none)
    (there : ∀ b o, b ∉ ch → s.heap.get? b = some o → ∃ o', h'.get? b = some o')
    (tups : ∀ b xs, H b = some (.tup xs) → H' b = some (.tup xs)) (frzs : ∀ b o u, H b = some (.frz o u) → H' b = some (.frz o u)) (tbls : ∀ b ps, H b = some (.tbl ps) → ∃ more, H' b = some (.tbl (ps ++ more)))
    (ns : ∀ m, s.heap.Ns X.env.locals m → h'.Ns X.env.locals m) (hok : HOk X.prog X.w H' h') (hg : AllBare g') :
    Inv X pins σ H' { s with heap := h', gens := g', drawn := d', toks := t' } := by
  have neL : ∀ b o, X.s₀.heap.get? b = some o → b ≠ X.env.locals := fun b o e => Nat.ne_of_lt (Nat.lt_of_lt_of_le (Heap.lt_size e) I.ok.above)
  have neC : ∀ b o, X.s₀.heap.get? b = some o → b ∉ X.ex → b ∉ ch := fun b o e hx hb => by
    rcases (hch b hb).1 with z | z
    · exact hx z
    · exact absurd (Nat.lt_of_lt_of_le (Heap.lt_size e) z) (Nat.lt_irrefl _)
  have cellK : ∀ x c, X.env.cells.lookup x = some c → ∀ v, s.heap.IsCell c v → h'.IsCell c v := fun x c e v ⟨o, ho, hd⟩ => by
    have nch : c ∉ ch := fun z => (hch c z).2.2.1 x c e rfl
    by_cases hc : c ∈ X.fs
    · obtain ⟨sl, q⟩ := slot c o (I.cne x c e) hc nch ho (I.freeC x c e)
      exact ⟨_, q, hd⟩
    · exact ⟨o, keep c o (I.cne x c e) hc nch ho (I.freeC x c e), hd⟩
  refine ⟨I.ok, I.os, hg, ⟨fun b o e n hb hx => ?_, fun b o e n hb hx => ?_, fun b o e n hx => ?_, fun b o e hx => ?_, fun b xs e => tups b xs (I.base.tups b xs e), fun b o xs e => frzs b o xs (I.base.frzs b o xs e), fun b ps e => ?_⟩, ?_, fun x c e => ?_, ?_, fun x c e => ?_, fun p hp => ?_, hok, I.len⟩
  · exact keep b o (neL b o e) hb (neC b o e hx) (I.base.keep b o e n hb hx) (I.base.free b o e n hx)
  · obtain ⟨sl, e1⟩ := I.base.slot b o e n hb hx
    obtain ⟨sl', e2⟩ := slot b _ (neL b o e) hb (neC b o e hx) e1 (I.base.free b o e n hx)
    exact ⟨sl', e2⟩
  · obtain ⟨o', e1⟩ := I.base.there b o e hx
    exact free b o' (neC b o e hx) e1 (I.base.free b o e n hx)
  · obtain ⟨o', e1⟩ := I.base.there b o e hx
    exact there b o' (neC b o e hx) e1
  · obtain ⟨m1, e1⟩ := I.base.tbls b ps e
    obtain ⟨m2, e2⟩ := tbls b _ e1
    exact ⟨m1 ++ m2, by rw [e2, Array.append_assoc]⟩
  · obtain ⟨m, hn, hl⟩ := I.loc
    refine ⟨m, ns m hn, fun i x v e1 e2 e3 => ?_⟩
    obtain ⟨u, r, l⟩ := hl i x v e1 e2 e3
    refine ⟨u, r, ?_⟩
    rcases l with l | ⟨k, c, e, z⟩
    · exact .inl l
    · exact .inr ⟨k, c, e, cellK x c e _ z⟩
  · obtain ⟨v, z⟩ := I.cell x c e
    exact ⟨v, cellK x c e v z⟩
  · obtain ⟨m, ⟨o, _, _, ho, _⟩, _⟩ := I.loc
    exact free _ o (fun z => (hch _ z).2.1 rfl) ho I.free
  · obtain ⟨v, o, ho, hd⟩ := I.cell x c e
    exact free c o (fun z => (hch c z).2.2.1 x c e rfl) ho (I.freeC x c e)
  · obtain ⟨e, n, ne, nf, d⟩ := I.pin p hp
    have nch : p.1 ∉ ch := fun z => (hch p.1 z).2.2.2 p hp rfl
    exact ⟨keep p.1 p.2 ne nf nch e n, free p.1 p.2 nch e n, ne, nf, d⟩
theorem Inv.un {t' : Nat} (I : Inv X pins σ H s) (u : Un X.fs [] H H' s.heap h') (hok : HOk X.prog X.w H' h') : Inv X pins σ H' { s with heap := h', toks := t' } := by
  obtain ⟨m, ⟨o, es, ep, ho, r⟩, _⟩ := id I.loc
  obtain ⟨sl, hL⟩ := u.any ho I.free (by simp)
  exact I.step (g' := s.gens) (d' := s.drawn) (ch := []) (fun _ z => nomatch z) (fun b o _ hb _ e n => u.keep b o e n hb (by simp)) (fun b o _ hb _ e n => u.slot b o e n hb (by simp)) (fun b o _ e n => u.free b o e n (by simp)) (fun b o _ e => u.there b o e (by simp)) u.tups u.frzs u.tbls (fun m' hm => by
    obtain ⟨o', es', ep', ho', r'⟩ := hm
    rw [ho] at ho'; cases ho'
    exact ⟨_, es', ep', hL, r'⟩) hok I.bare
theorem Inv.call {g' : Array GenState} {t' : Nat} {d' : Drawn} {ch : List Addr} (I : Inv X pins σ H s) (u : Un (frs X.stack) ch H H' s.heap h') (hok : HOk X.prog X.w H' h') (hg : AllBare g')
    (hch : ∀ b ∈ ch, (b ∈ X.ex ∨ X.s₀.heap.objs.size ≤ b) ∧ b ≠ X.env.locals ∧ (∀ x c, X.env.cells.lookup x = some c → c ≠ b) ∧ ∀ p ∈ X.pn ++ pins, p.1 ≠ b) :
    Inv X pins σ H' { s with heap := h', gens := g', drawn := d', toks := t' } := by
  obtain ⟨m, ⟨o, es, ep, ho, r⟩, _⟩ := id I.loc
  obtain ⟨sl, hL⟩ := u.any ho I.free fun z => (hch _ z).2.1 rfl
  exact I.step (ch := ch) hch (fun b o hL hb hc e n => u.keep b o e n (fun z => (List.mem_cons.mp (I.stkSub b z)).elim hL hb) hc) (fun b o _ _ hc e n => u.any e n hc) (fun b o hc e n => u.free b o e n hc) (fun b o hc e => u.there b o e hc) u.tups u.frzs u.tbls (fun m' hm => by
    obtain ⟨o', es', ep', ho', r'⟩ := hm
    rw [ho] at ho'; cases ho'
    exact ⟨_, es', ep', hL, r'⟩) hok hg
theorem Inv.turned {t' : Nat} {it : Addr} (I : Inv X pins σ H s) (k : ∀ b o, b ≠ it → s.heap.get? b = some o → h'.get? b = some o) (hn : H it = none) (hL : it ≠ X.env.locals)
    (h1 : it ∈ X.ex ∨ X.s₀.heap.objs.size ≤ it) (h2 : ∀ x c, X.env.cells.lookup x = some c → c ≠ it) (h3 : ∀ p ∈ X.pn ++ pins, p.1 ≠ it) : Inv X pins σ H { s with heap := h', toks := t' } := by
  have nit : ∀ b u, H b = some u → b ≠ it := fun b u e z => by rw [z, hn] at e; cases e
  refine I.step (g' := s.gens) (d' := s.drawn) (ch := [it]) (fun b hb => ?_) (fun b o _ _ hc e _ => k b o (fun z => hc (by simp [z])) e) (fun b o _ _ hc e _ => ⟨o.slots, k b o (fun z => hc (by simp [z])) e⟩) (fun _ _ _ _ n => n)
    (fun b o hc e => ⟨o, k b o (fun z => hc (by simp [z])) e⟩) (fun _ _ e => e) (fun _ _ _ e => e) (fun b ps e => ⟨#[], by rw [e]; simp⟩) (fun m hm => ?_) (fun b u e => ?_) I.bare
  · have e : b = it := by simpa using hb
    subst e
    exact ⟨h1, hL, h2, h3⟩
  · obtain ⟨o, es, ep, ho, r⟩ := hm
    exact ⟨o, es, ep, k _ o (Ne.symm hL) ho, r⟩
  · refine (I.hok b u e).stay (fun c v hc q => k c v ?_ q) (fun _ q => q) fun _ _ q => q
    rcases hc with z | z
    · rw [z]; exact nit b u e
    · exact nit c _ z
theorem Inv.tok (I : Inv X pins σ H s) (t : Nat) : Inv X pins σ H { s with toks := t } := I.un (h' := s.heap) (t' := t) Un.refl I.hok
theorem Inv.kept {t' : Nat} (I : Inv X pins σ H s) (k : ∀ b u, s.heap.get? b = some u → h'.get? b = some u) : Inv X pins σ H { s with heap := h', toks := t' } := I.un (Un.kept k) (I.hok.kept k)
theorem Inv.laid {a : Addr} {o : HO} {t' : Nat} (I : Inv X pins σ H s) (k : ∀ b u, s.heap.get? b = some u → h'.get? b = some u) (hp : s.heap.objs.size ≤ a) (new : ObjOk X.prog X.w (upd H a o) h' a o) :
    Inv X pins σ (upd H a o) { s with heap := h', toks := t' } := I.un (Un.laid k hp (I.hok.fresh hp)) (I.hok.laid k hp new)
theorem Inv.write {x e : Addr} {o : HO} {t' : Nat} (I : Inv X pins σ H s) (mu : Mut (H x)) (he : e = x ∨ H e = some (.own x)) (k : ∀ b u, b ≠ e → s.heap.get? b = some u → h'.get? b = some u) (heo : ∃ u, h'.get? e = some u)
    (new : ObjOk X.prog X.w (upd H x o) h' x o) : Inv X pins σ (upd H x o) { s with heap := h', toks := t' } := I.un (Un.write mu he k heo) (I.hok.write mu he k heo new)
theorem Inv.weak {σ' : List (Option V)} (I : Inv X pins σ H s) (hl : σ'.length = σ.length) (w : ∀ (i : Nat) v, σ'[i]? = some (some v) → σ[i]? = some (some v)) : Inv X pins σ' H s :=
  ⟨I.ok, I.os, I.bare, I.base, let ⟨m, hn, hl'⟩ := I.loc; ⟨m, hn, fun i x v e1 e2 e3 => hl' i x v e1 (w i v e2) e3⟩, I.cell, I.free, I.freeC, I.pin, I.hok, hl.trans I.len⟩
theorem Inv.pins_of {pins' : List (Addr × Obj)} (I : Inv X pins σ H s) (h : ∀ p ∈ pins', s.heap.get? p.1 = some p.2 ∧ H p.1 = none ∧ p.1 ≠ X.env.locals ∧ p.1 ∉ X.fs ∧ ∀ v, p.2.data ≠ .cell v) : Inv X pins' σ H s :=
  ⟨I.ok, I.os, I.bare, I.base, I.loc, I.cell, I.free, I.freeC, fun p hp => (List.mem_append.mp hp).elim (fun z => I.pin p (List.mem_append_left _ z)) (h p), I.hok, I.len⟩
theorem nodup_ix {N : List Str} (hN : N.Nodup) {i j : Nat} {x : Str} (a : N[i]? = some x) (b : N[j]? = some x) : i = j := by
  obtain ⟨h1, e1⟩ := List.getElem?_eq_some_iff.mp a
  obtain ⟨h2, e2⟩ := List.getElem?_eq_some_iff.mp b
  exact (List.getElem_inj hN).mp (e1.trans e2.symm)
theorem store_ok2 {M : Model} {A : Around} {E : Value → Shared → Prop} {i : Nat} {x : Str} {v : V} {u : Value} {Q : Unit → Shared → Prop} (I : Inv X pins σ H s) (hN : X.N.Nodup) (hi : X.N[i]? = some x) (hx : Loc X.env.scope x) (r : RelV v u)
    (h : ∀ s', Inv X pins (σ.set i (some v)) H s' → (∃ a, Heap.SameBut a s.heap s'.heap ∧ (a = X.env.locals ∨ X.env.cells.lookup x = some a)) → Q () s') (hf : X.fn x = true ∨ X.env.scope.names.lookup x = some .local := by first | exact .inl rfl | exact .inr rfl | assumption) : wpAny M A (storeName X.env x u) Q E s := by
  obtain ⟨m, hn, hl⟩ := id I.loc
  have hcls : (X.env.scope.kind == .class || (X.env.scope.kind == .module && X.env.locals != X.env.globals)) = false := by rw [I.ok.kind]; rfl
  have hiσ : i < σ.length := by rw [I.len]; exact (List.getElem?_eq_some_iff.mp hi).1
  have cne := I.cne
  have tracked : ∀ {a : Addr} {h' : Heap}, (∃ o, s.heap.get? a = some o ∧ H a = none) → Heap.SameBut a s.heap h' → HOk X.prog X.w H h' := fun {a h'} ha hs b ob e => by
    obtain ⟨_, _, hfree⟩ := ha
    refine (I.hok b ob e).stay (fun c w' hc q => (hs.2 c ?_).trans q) (fun _ q => q) fun _ _ q => q
    rintro rfl
    rcases hc with rfl | hc
    · rw [hfree] at e; cases e
    · rw [hfree] at hc; cases hc
  rcases hx with hk | hk
  · refine wpAny_storeName_local hk hn (fun h' hn' hs => ?_) hcls
    obtain ⟨oL, _, _, hoL, _⟩ := id hn
    refine h _ ⟨I.ok, I.os, I.bare, ⟨fun b o e n hb hx => ?_, fun b o e n hb hx => ?_, I.base.free, fun b o e hx => ?_, I.base.tups, I.base.frzs, I.base.tbls⟩, ⟨_, hn', fun j y v' e1 e2 e3 => ?_⟩, fun y c e => ?_, I.free, I.freeC, fun p hp => ?_, tracked ⟨oL, hoL, I.free⟩ hs, by simpa using I.len⟩ ⟨_, hs, .inl rfl⟩
    · exact (hs.2 b (Nat.ne_of_lt (Nat.lt_of_lt_of_le (Heap.lt_size e) I.ok.above))).trans (I.base.keep b o e n hb hx)
    · obtain ⟨sl, e1⟩ := I.base.slot b o e n hb hx
      exact ⟨sl, (hs.2 b (Nat.ne_of_lt (Nat.lt_of_lt_of_le (Heap.lt_size e) I.ok.above))).trans e1⟩
    · obtain ⟨o', e1⟩ := I.base.there b o e hx
      exact ⟨o', (hs.2 b (Nat.ne_of_lt (Nat.lt_of_lt_of_le (Heap.lt_size e) I.ok.above))).trans e1⟩
    · by_cases hj : j = i
      · subst hj
        rw [hi] at e1; cases e1
        rw [List.getElem?_set_self hiσ] at e2
        cases e2
        exact ⟨u, r, .inl ⟨hk, by simp⟩⟩
      · rw [List.getElem?_set_ne (Ne.symm hj)] at e2
        obtain ⟨u', r', q⟩ := hl j y v' e1 e2 e3
        refine ⟨u', r', ?_⟩
        rcases q with ⟨k, e⟩ | ⟨k, c, e, z⟩
        · refine .inl ⟨k, ?_⟩
          have : y ≠ x := fun e => hj (nodup_ix hN e1 (e ▸ hi))
          simp [this, e]
        · exact .inr ⟨k, c, e, z.sameBut hs (cne y c e)⟩
    · obtain ⟨w', z⟩ := I.cell y c e
      exact ⟨w', z.sameBut hs (cne y c e)⟩
    · obtain ⟨e, n, ne, nf, d⟩ := I.pin p hp
      exact ⟨(hs.2 p.1 ne).trans e, n, ne, nf, d⟩
  · have hfn : X.fn x = true := by
      rcases hf with z | z
      · exact z
      · rw [z] at hk; cases hk
    obtain ⟨c, hc⟩ := I.ok.has x (.inl hk)
    obtain ⟨w', z⟩ := I.cell x c hc
    refine wpAny_storeName_cell I.ok.kind hk hc z (fun h' hc' hs => ?_)
    obtain ⟨oc, hoc, hocd⟩ := id z
    refine h { s with heap := h' } ⟨I.ok, I.os, I.bare, ⟨fun b o e n hb hx => ?_, fun b o e n hb hx => ?_, I.base.free, fun b o e hx => ?_, I.base.tups, I.base.frzs, I.base.tbls⟩, ⟨m, hn.sameBut hs (Ne.symm (cne x c hc)), fun j y v' e1 e2 e3 => ?_⟩, fun y c' e => ?_, I.free, I.freeC, fun p hp => ?_, tracked ⟨oc, hoc, I.freeC x c hc⟩ hs, by simpa using I.len⟩ ⟨c, hs, .inr hc⟩
    · exact (hs.2 b (Nat.ne_of_lt (Nat.lt_of_lt_of_le (Heap.lt_size e) (I.ok.cab x c hfn hc)))).trans (I.base.keep b o e n hb hx)
    · obtain ⟨sl, e1⟩ := I.base.slot b o e n hb hx
      exact ⟨sl, (hs.2 b (Nat.ne_of_lt (Nat.lt_of_lt_of_le (Heap.lt_size e) (I.ok.cab x c hfn hc)))).trans e1⟩
    · obtain ⟨o', e1⟩ := I.base.there b o e hx
      exact ⟨o', (hs.2 b (Nat.ne_of_lt (Nat.lt_of_lt_of_le (Heap.lt_size e) (I.ok.cab x c hfn hc)))).trans e1⟩
    · by_cases hj : j = i
      · subst hj
        rw [hi] at e1; cases e1
        rw [List.getElem?_set_self hiσ] at e2
        cases e2
        exact ⟨u, r, .inr ⟨.inl hk, c, hc, hc'⟩⟩
      · rw [List.getElem?_set_ne (Ne.symm hj)] at e2
        obtain ⟨u', r', q⟩ := hl j y v' e1 e2 e3
        refine ⟨u', r', ?_⟩
        rcases q with q | ⟨k, c', e, z'⟩
        · exact .inl q
        · refine .inr ⟨k, c', e, z'.sameBut hs ?_⟩
          rintro rfl
          exact hj (nodup_ix hN e1 (I.ok.inj _ _ _ e hc ▸ hi))
    · by_cases hcc : c' = c
      · subst hcc; exact ⟨_, hc'⟩
      · obtain ⟨w2, z2⟩ := I.cell y c' e
        exact ⟨w2, z2.sameBut hs hcc⟩
    · obtain ⟨e, n, ne, nf, d⟩ := I.pin p hp
      refine ⟨(hs.2 p.1 ?_).trans e, n, ne, nf, d⟩
      intro q
      rw [q, hoc] at e
      have q' : oc = p.2 := Option.some.inj e
      exact d w' (by rw [← q']; exact hocd)
theorem store_ok {M : Model} {A : Around} {E : Value → Shared → Prop} {i : Nat} {x : Str} {v : V} {u : Value} {Q : Unit → Shared → Prop} (I : Inv X pins σ H s) (hN : X.N.Nodup) (hi : X.N[i]? = some x) (hx : Loc X.env.scope x) (r : RelV v u)
    (h : ∀ s', Inv X pins (σ.set i (some v)) H s' → Q () s') (hf : X.fn x = true ∨ X.env.scope.names.lookup x = some .local := by first | exact .inl rfl | exact .inr rfl | assumption) : wpAny M A (storeName X.env x u) Q E s :=
  store_ok2 I hN hi hx r (fun s' I' _ => h s' I') hf
theorem Inv.call' {s' : Shared} {ch : List Addr} (I : Inv X pins σ H s) (ho : s'.os = s.os) (u : Un (frs X.stack) ch H H' s.heap s'.heap) (hok : HOk X.prog X.w H' s'.heap) (hg : AllBare s'.gens)
    (hch : ∀ b ∈ ch, (b ∈ X.ex ∨ X.s₀.heap.objs.size ≤ b) ∧ b ≠ X.env.locals ∧ (∀ x c, X.env.cells.lookup x = some c → c ≠ b) ∧ ∀ p ∈ X.pn ++ pins, p.1 ≠ b) : Inv X pins σ H' s' := by
  obtain ⟨h', g', d', t', o'⟩ := s'
  have e : o' = s.os := ho
  subst e
  exact I.call (g' := g') (t' := t') (d' := d') u hok hg hch
end
abbrev XK := Value → Option Addr → Hp → Prop
abbrev St := List (Option V)
abbrev VK := V → Hp → Prop
abbrev TE := St → Hp → VK → Prop
abbrev TT := St → Hp → (Bool → Hp → Prop) → Prop
abbrev TA := St → Hp → (List V → Hp → Prop) → Prop
structure Ends where
  nx : St → Hp → Prop
  rt : VK
  bk : St → Hp → Prop := fun _ _ => False
  ct : St → Hp → Prop := fun _ _ => False
abbrev TS := Ends → St → Hp → Prop
def EP (X : Cx) (pins : List (Addr × Obj)) (σ : St) (Q : VK) (u : Value) (s' : Shared) : Prop := ∃ v H', Inv X pins σ H' s' ∧ RelV v u ∧ Q v H'
def TP (X : Cx) (pins : List (Addr × Obj)) (σ : St) (Q : Bool → Hp → Prop) (b : Bool) (s' : Shared) : Prop := ∃ H', Inv X pins σ H' s' ∧ Q b H'
def AP (X : Cx) (pins : List (Addr × Obj)) (σ : St) (Q : List V → Hp → Prop) (us : List Value) (s' : Shared) : Prop := ∃ vs H', Inv X pins σ H' s' ∧ Vals vs us ∧ Q vs H'
def SP (X : Cx) (pins : List (Addr × Obj)) (D : Ends) (f : Flow) (s' : Shared) : Prop :=
  match f with
  | .next => ∃ σ' H', Inv X pins σ' H' s' ∧ D.nx σ' H'
  | .brk => ∃ σ' H', Inv X pins σ' H' s' ∧ D.bk σ' H'
  | .cont => ∃ σ' H', Inv X pins σ' H' s' ∧ D.ct σ' H'
  | .ret u => ∃ v σ' H', Inv X pins σ' H' s' ∧ RelV v u ∧ D.rt v H'
def PE (X : Cx) (e : Expr) (t : TE) : Prop :=
  ∀ (pins : List (Addr × Obj)) (s : Shared) (σ : St) (H : Hp) (Q : VK), Inv X pins σ H s → t σ H Q → wpAny (model X.prog X.w) X.A (eval e X.env) (EP X pins σ Q) X.xe s
def PT (X : Cx) (e : Expr) (t : TT) : Prop :=
  ∀ (pins : List (Addr × Obj)) (s : Shared) (σ : St) (H : Hp) (Q : Bool → Hp → Prop), Inv X pins σ H s → t σ H Q → wpAny (model X.prog X.w) X.A (isTrue e X.env (eval e X.env)) (TP X pins σ Q) X.xe s
def PW (X : Cx) (e : Expr) (t : TT) : Prop :=
  ∀ (whole : Sem Value) (pins : List (Addr × Obj)) (s : Shared) (σ : St) (H : Hp) (Q : Bool → Hp → Prop), Inv X pins σ H s → t σ H Q → wpAny (model X.prog X.w) X.A (isTrue e X.env whole) (TP X pins σ Q) X.xe s
theorem PW.pt {X : Cx} {e : Expr} {t : TT} (h : PW X e t) : PT X e t := h _
def PA (X : Cx) (es : List Expr) (t : TA) : Prop :=
  ∀ (pos : Pos) (pins : List (Addr × Obj)) (s : Shared) (σ : St) (H : Hp) (Q : List V → Hp → Prop), Inv X pins σ H s → t σ H Q → wpAny (model X.prog X.w) X.A (spliced (backTo pos (starEach es X.env))) (AP X pins σ Q) X.xe s
def PS (X : Cx) (st : Stmt) (t : TS) : Prop :=
  ∀ (pins : List (Addr × Obj)) (s : Shared) (σ : St) (H : Hp) (D : Ends), Inv X pins σ H s → t D σ H → wpAny (model X.prog X.w) X.A (exec st X.env) (SP X pins D) X.xe s
def PSs (X : Cx) (st : List Stmt) (t : TS) : Prop :=
  ∀ (pins : List (Addr × Obj)) (s : Shared) (σ : St) (H : Hp) (D : Ends), Inv X pins σ H s → t D σ H → wpAny (model X.prog X.w) X.A (execs st X.env) (SP X pins D) X.xe s
theorem thn {α : Type} {t : Sem α} {Q Q' : α → Shared → Prop} {M : Model} {A : Around} {E : Value → Shared → Prop} {s : Shared} (h : wpAny M A t Q E s) (hQ : ∀ a s, Q a s → Q' a s) : wpAny M A t Q' E s := wpAny_mono h hQ fun _ _ x => x
end L2
namespace L2
open PySem PySem.Spec PyProof.Rows
section
variable {X : Cx}
theorem bin {a b : Expr} {ta tb : TE} (ha : PE X a ta) (hb : PE X b tb) {pins : List (Addr × Obj)} {s : Shared} {σ : St} {H : Hp} {R : V → V → Hp → Prop} (I : Inv X pins σ H s) (h : ta σ H fun x H1 => tb σ H1 fun y H2 => R x y H2)
    {α : Type} {Q : α → Shared → Prop} {f : Value → Value → Sem α}
    (hf : ∀ v u s2 x y H2, Inv X pins σ H2 s2 → RelV x v → RelV y u → R x y H2 → wpAny (model X.prog X.w) X.A (f v u) Q X.xe s2) :
    wpAny (model X.prog X.w) X.A (eval a X.env) (fun v s₁ => wpAny (model X.prog X.w) X.A (eval b X.env) (fun u s₂ => wpAny (model X.prog X.w) X.A (f v u) Q X.xe s₂) X.xe s₁) X.xe s := by
  refine thn (ha pins s σ H _ I h) fun v s1 ⟨x, H1, I1, r1, q1⟩ => ?_
  refine thn (hb pins s1 σ H1 _ I1 q1) fun u s2 ⟨y, H2, I2, r2, q2⟩ => ?_
  exact hf v u s2 x y H2 I2 r1 r2 q2
def tVar (i : Nat) : TE := fun σ H Q => ∃ v, σ[i]? = some (some v) ∧ Q v H
def tC (v : V) : TE := fun _ H Q => Q v H
theorem pe_var {i : Nat} {x : Str} {pos : Pos} (hN : X.N[i]? = some x) (hv : Vis X.env.scope x) (hd : (x == ("__debug__" : Str)) = false := by decide) (hcd : (x == ("__classdict__" : Str)) = false := by decide) : PE X (.Name x pos) (tVar i) := by
  intro pins s σ H Q I h
  obtain ⟨v, e, h⟩ := h
  obtain ⟨m, hn, hl⟩ := I.loc
  obtain ⟨u, r, l⟩ := hl i x v hN e hv
  have fin : EP X pins σ Q u s := ⟨v, H, I, r, h⟩
  rcases l with ⟨hk, hm⟩ | ⟨hk, c, hc, hcell⟩
  · exact wpAny_Name (wpAny_loadName_local I.ok.kind hk hn hm fin) hd
  · rcases hk with hk | hk
    · exact wpAny_Name (wpAny_loadName_cell I.ok.kind hk hc hcell fin) hd
    · exact wpAny_Name (wpAny_loadName_free I.ok.kind hk hc hcell fin hcd) hd
theorem pe_int {i j pos} : PE X (.Constant (.int i) j pos) (tC (.int i)) := fun _ _ _ H _ I h => wpAny_Constant_int ⟨.int i, H, I.tok _, ⟨_, rfl⟩, h⟩
theorem pe_bl {b j pos} : PE X (.Constant (.bool b) j pos) (tC (.bl b)) := fun _ _ _ H _ I h => Constant_bool ⟨.bl b, H, I, rfl, h⟩
theorem pe_non {j pos} : PE X (.Constant .none j pos) (tC .non) := fun _ _ _ H _ I h => Constant_none ⟨.non, H, I, rfl, h⟩
theorem pe_str {x j pos} : PE X (.Constant (.str x) j pos) (tC (.str x)) := fun _ _ _ H _ I h => Calls.Constant_str ⟨.str x, H, I.tok _, ⟨_, rfl⟩, h⟩
def Gl (X : Cx) (x : Str) : Prop := X.env.kindOf x = some .globalImplicit
theorem ld_glob {E : Value → Shared → Prop} {pins : List (Addr × Obj)} {s : Shared} {σ : St} {H : Hp} {x : Str} {u : Value} {pos : Pos} {Q : Value → Shared → Prop} (I : Inv X pins σ H s) (hg : Gl X x) (hm : X.mg x = some u) (h : Q u s)
    (hd : (x == ("__debug__" : Str)) = false := by decide) : wpAny (model X.prog X.w) X.A (eval (.Name x pos) X.env) Q E s :=
  Calls.Name_function_global I.ok.kind hg (Calls.loadGlobal_global (by rw [I.ok.glob]; exact I.mod.glob.keeps I.bk) hm h) hd
theorem ld_blt {E : Value → Shared → Prop} {pins : List (Addr × Obj)} {s : Shared} {σ : St} {H : Hp} {x : Str} {u : Value} {pos : Pos} {Q : Value → Shared → Prop} (I : Inv X pins σ H s) (hg : Gl X x) (hm : X.mg x = none) (hv : bootBuiltins x = some u) (h : Q u s)
    (hn : x ≠ "__name__" := by decide) (hd : (x == ("__debug__" : Str)) = false := by decide) : wpAny (model X.prog X.w) X.A (eval (.Name x pos) X.env) Q E s := by
  obtain ⟨mb, h1, h2⟩ := I.mod.blt
  exact Calls.Name_function_global I.ok.kind hg (Calls.loadGlobal_builtin (by rw [I.ok.glob]; exact I.mod.glob.keeps I.bk) hm (by rw [I.ok.blt]; exact h1.keeps I.bk) ((h2 x hn).trans hv) h) hd
theorem pe_glob {x : Str} {v : V} {u : Value} {pos : Pos} (hg : Gl X x) (hm : X.mg x = some u) (r : RelV v u) (hd : (x == ("__debug__" : Str)) = false := by decide) : PE X (.Name x pos) (tC v) :=
  fun _ _ _ H _ I h => ld_glob I hg hm ⟨v, H, I, r, h⟩ hd
theorem pe_bltn {x : Str} {v : V} {u : Value} {pos : Pos} (hg : Gl X x) (hm : X.mg x = none) (hv : bootBuiltins x = some u) (r : RelV v u) (hn : x ≠ "__name__" := by decide) (hd : (x == ("__debug__" : Str)) = false := by decide) : PE X (.Name x pos) (tC v) :=
  fun _ _ _ H _ I h => ld_blt I hg hm hv ⟨v, H, I, r, h⟩ hn hd
def t2I (ta tb : TE) (k : Int → Int → Hp → Prop) : St → Hp → Prop := fun σ H => ta σ H fun x H1 => tb σ H1 fun y H2 => ∃ i j, x = .int i ∧ y = .int j ∧ k i j H2
def tAdd (ta tb : TE) : TE := fun σ H Q => t2I ta tb (fun i j H2 => Q (.int (i + j)) H2) σ H
def tSub (ta tb : TE) : TE := fun σ H Q => t2I ta tb (fun i j H2 => Q (.int (i - j)) H2) σ H
def tMul (ta tb : TE) : TE := fun σ H Q => t2I ta tb (fun i j H2 => (-(2 ^ 64) < i ∧ i < 2 ^ 64) ∧ Q (.int (i * j)) H2) σ H
variable {a b : Expr} {ta tb : TE} {pos : Pos}
theorem pe_add (ha : PE X a ta) (hb : PE X b tb) : PE X (.BinOp a .Add b pos) (tAdd ta tb) := by
  intro pins s σ H Q I h
  refine wpAny_BinOp (bin ha hb I h fun v u s2 x y H2 I2 rx ry q => ?_)
  obtain ⟨i, j, rfl, rfl, q⟩ := q
  obtain ⟨t, rfl⟩ := rx
  obtain ⟨t', rfl⟩ := ry
  exact add_int ⟨.int _, H2, I2.tok _, ⟨_, rfl⟩, q⟩
theorem pe_sub (ha : PE X a ta) (hb : PE X b tb) : PE X (.BinOp a .Sub b pos) (tSub ta tb) := by
  intro pins s σ H Q I h
  refine wpAny_BinOp (bin ha hb I h fun v u s2 x y H2 I2 rx ry q => ?_)
  obtain ⟨i, j, rfl, rfl, q⟩ := q
  obtain ⟨t, rfl⟩ := rx
  obtain ⟨t', rfl⟩ := ry
  exact sub_int ⟨.int _, H2, I2.tok _, ⟨_, rfl⟩, q⟩
theorem pe_mul (ha : PE X a ta) (hb : PE X b tb) : PE X (.BinOp a .Mult b pos) (tMul ta tb) := by
  intro pins s σ H Q I h
  refine wpAny_BinOp (bin ha hb I h fun v u s2 x y H2 I2 rx ry q => ?_)
  obtain ⟨i, j, rfl, rfl, ⟨q1, q2⟩, q⟩ := q
  obtain ⟨t, rfl⟩ := rx
  obtain ⟨t', rfl⟩ := ry
  exact mul_int ⟨.int _, H2, I2.tok _, ⟨_, rfl⟩, q⟩ (.of_left (intBits_le_64 q1 q2))
def PC (X : Cx) (op : CmpOp) (a b : Expr) (t : TE) : Prop :=
  ∀ (pins : List (Addr × Obj)) (s : Shared) (σ : St) (H : Hp) (Q : VK), Inv X pins σ H s → t σ H Q →
    wpAny (model X.prog X.w) X.A (eval a X.env) (fun v s₁ => wpAny (model X.prog X.w) X.A (eval b X.env) (fun u s₂ => wpAny (model X.prog X.w) X.A (compareOp op v u) (EP X pins σ Q) X.xe s₂) X.xe s₁) X.xe s
theorem nobehind (b : Expr) {op : CmpOp} (h : op ≠ .In) (h2 : op ≠ .NotIn) : behindInMarks op b = false := by
  have e1 : (op == CmpOp.In) = false := by cases op <;> first | rfl | exact absurd rfl h
  have e2 : (op == CmpOp.NotIn) = false := by cases op <;> first | rfl | exact absurd rfl h2
  cases b <;> simp [behindInMarks, e1, e2]
def tCmp (p : Int → Int → Bool) (ta tb : TE) : TE := fun σ H Q => t2I ta tb (fun i j H2 => Q (.bl (p i j)) H2) σ H
abbrev tLt : TE → TE → TE := tCmp fun i j => decide (i < j)
abbrev tLe : TE → TE → TE := tCmp fun i j => decide (i ≤ j)
abbrev tGt : TE → TE → TE := tCmp fun i j => decide (j < i)
abbrev tGe : TE → TE → TE := tCmp fun i j => decide (j ≤ i)
abbrev tEqI : TE → TE → TE := tCmp fun i j => decide (i = j)
abbrev tNeI : TE → TE → TE := tCmp fun i j => !decide (i = j)
theorem pc_int {op : CmpOp} {p : Int → Int → Bool} (ha : PE X a ta) (hb : PE X b tb)
    (rule : ∀ (i j : Int) (t u : Tok) (Q : Value → Shared → Prop) (s : Shared), Q (.bool (p i j)) s → wpAny (model X.prog X.w) X.A (compareOp op (.int i t) (.int j u)) Q X.xe s) : PC X op a b (tCmp p ta tb) := by
  intro pins s σ H Q I h
  refine bin ha hb I h fun v u s2 x y H2 I2 rx ry q => ?_
  obtain ⟨i, j, rfl, rfl, q⟩ := q
  obtain ⟨t, rfl⟩ := rx
  obtain ⟨t', rfl⟩ := ry
  exact rule i j t t' _ s2 ⟨.bl _, H2, I2, rfl, q⟩
theorem pc_lt (ha : PE X a ta) (hb : PE X b tb) : PC X .Lt a b (tLt ta tb) := pc_int ha hb fun _ _ _ _ _ _ h => lt_int h
theorem pc_le (ha : PE X a ta) (hb : PE X b tb) : PC X .LtE a b (tLe ta tb) := pc_int ha hb fun _ _ _ _ _ _ h => le_int h
theorem pc_gt (ha : PE X a ta) (hb : PE X b tb) : PC X .Gt a b (tGt ta tb) := pc_int ha hb fun _ _ _ _ _ _ h => gt_int h
theorem pc_ge (ha : PE X a ta) (hb : PE X b tb) : PC X .GtE a b (tGe ta tb) := pc_int ha hb fun _ _ _ _ _ _ h => ge_int h
theorem pc_eqI (ha : PE X a ta) (hb : PE X b tb) : PC X .Eq a b (tEqI ta tb) := pc_int ha hb fun _ _ _ _ _ _ h => eq_int (by rw [Bool.beq_eq_decide_eq]; exact h)
theorem pc_neI (ha : PE X a ta) (hb : PE X b tb) : PC X .NotEq a b (tNeI ta tb) := pc_int ha hb fun _ _ _ _ _ _ h => ne_int (by rw [bne, Bool.beq_eq_decide_eq]; exact h)
def tIsN (ta : TE) : TE := fun σ H Q => ta σ H fun x H1 => Q (.bl (decide (x = .non))) H1
def tNotN (ta : TE) : TE := fun σ H Q => ta σ H fun x H1 => Q (.bl (!decide (x = .non))) H1
theorem RelV.none_iff {x : V} {v : Value} (r : RelV x v) : (v == Value.none) = decide (x = .non) := by
  cases x with
  | non => cases r; rfl
  | bl _ => cases r; rfl
  | int _ => obtain ⟨t, rfl⟩ := r; rfl
  | str _ => obtain ⟨t, rfl⟩ := r; rfl
  | byt _ => obtain ⟨t, rfl⟩ := r; rfl
  | flt _ => obtain ⟨t, rfl⟩ := r; rfl
  | ref _ => cases r; rfl
  | ty _ => cases r; rfl
theorem pc_isN {j pos'} (ha : PE X a ta) : PC X .Is a (.Constant .none j pos') (tIsN ta) := by
  intro pins s σ H Q I h
  refine thn (ha pins s σ H _ I h) fun v s1 ⟨x, H1, I1, r1, q1⟩ => ?_
  exact Constant_none (is_none_gen ⟨.bl _, H1, I1, by rw [r1.none_iff]; rfl, q1⟩)
theorem pc_notN {j pos'} (ha : PE X a ta) : PC X .IsNot a (.Constant .none j pos') (tNotN ta) := by
  intro pins s σ H Q I h
  refine thn (ha pins s σ H _ I h) fun v s1 ⟨x, H1, I1, r1, q1⟩ => ?_
  exact Constant_none (isnot_none_gen ⟨.bl _, H1, I1, by rw [r1.none_iff]; rfl, q1⟩)
def tB (t : TE) : TT := fun σ H Q => t σ H fun x H1 => ∃ c, x = .bl c ∧ Q c H1
theorem pe_cmp {op : CmpOp} {t : TE} (h : PC X op a b t) (h1 : behindInMarks op b = false := by first | exact nobehind _ (by decide) (by decide) | rfl) : PE X (.Compare a [op] [b] pos) t := fun pins s σ H Q I hw => wpAny_Compare1 (h pins s σ H Q I hw) h1
theorem pt_cmp {op : CmpOp} {t : TE} (h : PC X op a b t) (h1 : behindInMarks op b = false := by first | exact nobehind _ (by decide) (by decide) | rfl) : PT X (.Compare a [op] [b] pos) (tB t) := by
  intro pins s σ H Q I hw
  refine wpAny_isTrue_Compare1 (thn (h pins s σ H _ I hw) fun v s1 h1 => thn h1 fun u s2 h2 => thn h2 fun c s3 ⟨x, H1, I1, r1, q1⟩ => ?_) h1
  obtain ⟨d, rfl, q⟩ := q1
  cases r1
  exact wpAny_truthy_bool ⟨H1, I1, q⟩
theorem pt_val {e : Expr} {t : TE} (h : PE X e t) (he : ∀ whole, isTrue e X.env whole = (do let v ← whole; standAt e.pos; holding [v] (truthy v)) := by intro _; rfl) : PT X e (tB t) := by
  intro pins s σ H Q I hw
  refine isTrue_plain (thn (h pins s σ H _ I hw) fun v s1 ⟨x, H1, I1, r1, q1⟩ => ?_) (he _)
  obtain ⟨d, rfl, q⟩ := q1
  cases r1
  exact wpAny_truthy_bool ⟨H1, I1, q⟩
variable {tA tB' : TT} {rest : List Expr}
def tAnd (t u : TT) : TT := fun σ H Q => t σ H fun c H1 => if c = true then u σ H1 Q else Q false H1
def tOr (t u : TT) : TT := fun σ H Q => t σ H fun c H1 => if c = true then Q true H1 else u σ H1 Q
def tNot (t : TT) : TT := fun σ H Q => t σ H fun c H1 => Q (!c) H1
theorem pw_and1 (ha : PT X a tA) : PW X (.BoolOp .And [a] pos) tA := by
  intro wh pins s σ H Q I h
  refine isTrue_and (thn (ha pins s σ H Q I h) fun c s1 e => ?_)
  cases c with
  | true => exact isTrue_and_nil e
  | false => exact e
theorem pw_or1 (ha : PT X a tA) : PW X (.BoolOp .Or [a] pos) tA := by
  intro wh pins s σ H Q I h
  refine isTrue_or (thn (ha pins s σ H Q I h) fun c s1 e => ?_)
  cases c with
  | false => exact isTrue_or_nil e
  | true => exact e
theorem pw_and (ha : PT X a tA) (hb : PW X (.BoolOp .And (b :: rest) pos) tB') : PW X (.BoolOp .And (a :: b :: rest) pos) (tAnd tA tB') := by
  intro wh pins s σ H Q I h
  refine isTrue_and (thn (ha pins s σ H _ I h) fun c s1 ⟨H1, I1, q1⟩ => ?_)
  cases c with
  | true => exact hb wh pins s1 σ H1 Q I1 q1
  | false => exact ⟨H1, I1, q1⟩
theorem pw_or (ha : PT X a tA) (hb : PW X (.BoolOp .Or (b :: rest) pos) tB') : PW X (.BoolOp .Or (a :: b :: rest) pos) (tOr tA tB') := by
  intro wh pins s σ H Q I h
  refine isTrue_or (thn (ha pins s σ H _ I h) fun c s1 ⟨H1, I1, q1⟩ => ?_)
  cases c with
  | true => exact ⟨H1, I1, q1⟩
  | false => exact hb wh pins s1 σ H1 Q I1 q1
theorem pt_not (ha : PT X a tA) : PT X (.UnaryOp .Not a pos) (tNot tA) := by
  intro pins s σ H Q I h
  exact isTrue_not (ha pins s σ H (fun c H1 => Q (!c) H1) I h)
def tAndV (ta tb : TE) : TE := fun σ H Q => ta σ H fun x H1 => ∃ c, x = .bl c ∧ if c = true then tb σ H1 Q else Q (.bl false) H1
def tOrV (ta tb : TE) : TE := fun σ H Q => ta σ H fun x H1 => ∃ c, x = .bl c ∧ if c = true then Q (.bl true) H1 else tb σ H1 Q
def tNotV (ta : TE) : TE := fun σ H Q => ta σ H fun x H1 => ∃ c, x = .bl c ∧ Q (.bl (!c)) H1
theorem pe_one {op} {t : TE} (h : PE X a t) : PE X (.BoolOp op [a] pos) t := fun pins s σ H Q I hw => BoolOp_one (h pins s σ H Q I hw)
theorem pe_and (ha : PE X a ta) (hb : PE X (.BoolOp .And (b :: rest) pos) tb) : PE X (.BoolOp .And (a :: b :: rest) pos) (tAndV ta tb) := by
  intro pins s σ H Q I h
  refine BoolOp_and (thn (ha pins s σ H _ I h) fun v s1 ⟨x, H1, I1, r1, q1⟩ => ?_)
  obtain ⟨c, rfl, q1⟩ := q1
  cases r1
  refine wpAny_truthy_bool ?_
  cases c with
  | true => exact hb pins s1 σ H1 Q I1 q1
  | false => exact ⟨.bl false, H1, I1, rfl, q1⟩
theorem pe_or (ha : PE X a ta) (hb : PE X (.BoolOp .Or (b :: rest) pos) tb) : PE X (.BoolOp .Or (a :: b :: rest) pos) (tOrV ta tb) := by
  intro pins s σ H Q I h
  refine BoolOp_or (thn (ha pins s σ H _ I h) fun v s1 ⟨x, H1, I1, r1, q1⟩ => ?_)
  obtain ⟨c, rfl, q1⟩ := q1
  cases r1
  refine wpAny_truthy_bool ?_
  cases c with
  | false => exact hb pins s1 σ H1 Q I1 q1
  | true => exact ⟨.bl true, H1, I1, rfl, q1⟩
theorem pe_not (ha : PE X a ta) : PE X (.UnaryOp .Not a pos) (tNotV ta) := by
  intro pins s σ H Q I h
  refine UnaryOp_ (thn (ha pins s σ H _ I h) fun v s1 ⟨x, H1, I1, r1, q1⟩ => ?_)
  obtain ⟨c, rfl, q1⟩ := q1
  cases r1
  exact not_of (wpAny_truthy_bool ⟨.bl (!c), H1, I1, rfl, q1⟩)
def tIf (t : TT) (ta tb : TE) : TE := fun σ H Q => t σ H fun c H1 => if c = true then ta σ H1 Q else tb σ H1 Q
theorem pe_ifExp {c : Expr} (hc : PT X c tA) (ha : PE X a ta) (hb : PE X b tb) : PE X (.IfExp c a b pos) (tIf tA ta tb) := by
  intro pins s σ H Q I h
  refine wpAny_IfExp (thn (hc pins s σ H _ I h) fun d s1 ⟨H1, I1, q1⟩ => ?_)
  cases d with
  | true => exact ha pins s1 σ H1 Q I1 q1
  | false => exact hb pins s1 σ H1 Q I1 q1
end
end L2
namespace L2
open PySem PySem.Spec PyProof.Rows
def SqL (K : PySem.W.Frag) (H : Hp) (a : Addr) (xs : List V) : Prop :=
  Rd H a (.lst xs) ∨
    ∃ (o : Obj) (its : Array Value) (n : Nat), K.lookup a = some o ∧ o.cls = .type "list" ∧ o.dict = none ∧ o.data = .seq its n ∧ its.size ≤ sizeLine ∧ Vals xs its.toList
def SqT (K : PySem.W.Frag) (H : Hp) (a : Addr) (xs : List V) : Prop :=
  Rd H a (.tup xs) ∨
    ∃ (o : Obj) (its : Array Value) (n : Nat), K.lookup a = some o ∧ o.cls = .type "tuple" ∧ o.data = .seq its n ∧ its.size ≤ sizeLine ∧ Vals xs its.toList
def absV : Value → Option V
  | .none => some .non
  | .bool b => some (.bl b)
  | .int i _ => some (.int i)
  | .str x _ => some (.str x)
  | .bytes b _ => some (.byt b)
  | .float b _ => some (.flt b)
  | .ref a => some (.ref a)
  | .type n => some (.ty n)
  | _ => none
theorem RelV.abs {x : V} {u : Value} (r : RelV x u) : absV u = some x := by
  cases x with
  | non => cases r; rfl
  | bl _ => cases r; rfl
  | int _ => obtain ⟨t, rfl⟩ := r; rfl
  | str _ => obtain ⟨t, rfl⟩ := r; rfl
  | byt _ => obtain ⟨t, rfl⟩ := r; rfl
  | flt _ => obtain ⟨t, rfl⟩ := r; rfl
  | ref _ => cases r; rfl
  | ty _ => cases r; rfl
theorem RelV.inj {x y : V} {u : Value} (r : RelV x u) (q : RelV y u) : x = y := Option.some.inj (r.abs.symm.trans q.abs)
theorem Vals.inj : ∀ {xs ys : List V} {us : List Value}, Vals xs us → Vals ys us → xs = ys
  | _, _, _, .nil, .nil => rfl
  | _, _, _, .cons r t, .cons r' t' => by rw [r.inj r', Vals.inj t t']
section
variable {X : Cx} {pins : List (Addr × Obj)} {σ : St} {H : Hp} {s : Shared} {a : Addr} {xs ys : List V}
theorem SqL.of {K : PySem.W.Frag} (h : H a = some (.lst xs)) : SqL K H a xs := .inl (.inl h)
theorem SqT.of {K : PySem.W.Frag} (h : H a = some (.tup xs)) : SqT K H a xs := .inl (.inl h)
theorem Inv.list (I : Inv X pins σ H s) (h : SqL X.K H a xs) : ∃ its : List Value, Vals xs its ∧ PlainL s.heap a its.toArray ∧ xs.length ≤ sizeLine := by
  rcases h with h | ⟨o, its, n, hk, hc, hd, hs, hz, r⟩
  · obtain ⟨z, its, n, r, e⟩ := h.ok I.hok
    exact ⟨its, r, ⟨_, n, e, rfl, rfl, rfl⟩, z⟩
  · refine ⟨its.toList, r, ⟨o, n, I.kIn a o hk, hc, hd, by simpa using hs⟩, ?_⟩
    have e := r.length
    simp only [Array.length_toList] at e
    omega
theorem Inv.tuple (I : Inv X pins σ H s) (h : SqT X.K H a xs) : ∃ its : List Value, Vals xs its ∧ IsTup s.heap a its.toArray ∧ xs.length ≤ sizeLine := by
  rcases h with h | ⟨o, its, n, hk, hc, hs, hz, r⟩
  · obtain ⟨z, its, r, p⟩ := h.ok I.hok
    exact ⟨its, r, p, z⟩
  · refine ⟨its.toList, r, ⟨o, I.kIn a o hk, hc, n, by simpa using hs⟩, ?_⟩
    have e := r.length
    simp only [Array.length_toList] at e
    omega
theorem Inv.list_inj (I : Inv X pins σ H s) (h : SqL X.K H a xs) (h' : SqL X.K H a ys) : xs = ys := by
  obtain ⟨its, r, ⟨o, n, e, _, _, d⟩, _⟩ := I.list h
  obtain ⟨its', r', ⟨o', n', e', _, _, d'⟩, _⟩ := I.list h'
  rw [e] at e'; cases e'
  rw [d] at d'
  injection d' with d1 _
  have : its = its' := by simpa using congrArg Array.toList d1
  subst this
  exact r.inj r'
theorem Inv.tuple_inj (I : Inv X pins σ H s) (h : SqT X.K H a xs) (h' : SqT X.K H a ys) : xs = ys := by
  obtain ⟨its, r, ⟨o, e, _, n, d⟩, _⟩ := I.tuple h
  obtain ⟨its', r', ⟨o', e', _, n', d'⟩, _⟩ := I.tuple h'
  rw [e] at e'; cases e'
  rw [d] at d'
  injection d' with d1 _
  have : its = its' := by simpa using congrArg Array.toList d1
  subst this
  exact r.inj r'
end
abbrev Cx.wish (X : Cx) (E : Value → Shared → Prop) : Cx := { X with xe := E }
abbrev Cx.nox (X : Cx) : Cx := X.wish fun _ _ => False
theorem Cx.Ok.wish {X : Cx} (ok : X.Ok) (E : Value → Shared → Prop) : (X.wish E).Ok :=
  ⟨ok.mod, ok.kind, ok.glob, ok.blt, ok.above, ok.inj, ok.has, ok.cab, ok.hd, ok.frames, ok.stk, ok.exf, ok.bs, ok.bsz, ok.noex, ok.exfs, ok.funs, ok.frf⟩
theorem Cx.Ok.unwish {X : Cx} {E : Value → Shared → Prop} (ok : (X.wish E).Ok) : X.Ok :=
  ⟨ok.mod, ok.kind, ok.glob, ok.blt, ok.above, ok.inj, ok.has, ok.cab, ok.hd, ok.frames, ok.stk, ok.exf, ok.bs, ok.bsz, ok.noex, ok.exfs, ok.funs, ok.frf⟩
section
variable {X : Cx} {pins : List (Addr × Obj)} {σ : St} {H : Hp} {s : Shared} {E : Value → Shared → Prop}
theorem Inv.wish (I : Inv X pins σ H s) (E : Value → Shared → Prop) : Inv (X.wish E) pins σ H s := ⟨I.ok.wish E, I.os, I.bare, I.base, I.loc, I.cell, I.free, I.freeC, I.pin, I.hok, I.len⟩
theorem Inv.unwish (I : Inv (X.wish E) pins σ H s) : Inv X pins σ H s := ⟨I.ok.unwish, I.os, I.bare, I.base, I.loc, I.cell, I.free, I.freeC, I.pin, I.hok, I.len⟩
theorem SP.unwish {D : Ends} {f : Flow} {s' : Shared} (h : SP (X.wish E) pins D f s') : SP X pins D f s' := by
  cases f with
  | next => obtain ⟨σ', H', I, q⟩ := h; exact ⟨σ', H', I.unwish, q⟩
  | brk => obtain ⟨σ', H', I, q⟩ := h; exact ⟨σ', H', I.unwish, q⟩
  | cont => obtain ⟨σ', H', I, q⟩ := h; exact ⟨σ', H', I.unwish, q⟩
  | ret u => obtain ⟨v, σ', H', I, r, q⟩ := h; exact ⟨v, σ', H', I.unwish, r, q⟩
theorem PE.nox {e : Expr} {t : TE} (h : PE X.nox e t) : PE X e t := fun pins s σ H Q I hw =>
  wpAny_mono (h pins s σ H Q (I.wish _) hw) (fun _ _ ⟨v, H', I', r, q⟩ => ⟨v, H', I'.unwish, r, q⟩) fun _ _ z => False.elim z
theorem PT.nox {e : Expr} {t : TT} (h : PT X.nox e t) : PT X e t := fun pins s σ H Q I hw =>
  wpAny_mono (h pins s σ H Q (I.wish _) hw) (fun _ _ ⟨H', I', q⟩ => ⟨H', I'.unwish, q⟩) fun _ _ z => False.elim z
theorem PSs.nox {st : List Stmt} {t : TS} (h : PSs X.nox st t) : PSs X st t := fun pins s σ H D I hw =>
  wpAny_mono (h pins s σ H D (I.wish _) hw) (fun _ _ q => q.unwish) fun _ _ z => False.elim z
end
section
variable {X : Cx} {st : Stmt} {rest : List Stmt} {t u : TS} {e : Expr} {te : TE} {pos : Pos}
def tNext : TS := fun D σ H => D.nx σ H
def tSeq (t u : TS) : TS := fun D σ H => t { D with nx := u D } σ H
theorem pss_nil : PSs X [] tNext := fun _ _ σ H _ I h => wpAny_execs_nil ⟨σ, H, I, h⟩
theorem pss_cons (h1 : PS X st t) (h2 : PSs X rest u) : PSs X (st :: rest) (tSeq t u) := by
  intro pins s σ H D I h
  refine wpAny_execs_cons (thn (h1 pins s σ H { D with nx := u D } I h) fun f s1 q => ?_)
  cases f with
  | next =>
    obtain ⟨σ', H', I', q⟩ := q
    exact h2 pins s1 σ' H' D I' q
  | ret v => exact q
  | brk => exact q
  | cont => exact q
theorem pss_one (h1 : PS X st t) : PSs X [st] t := by
  intro pins s σ H D I h
  refine wpAny_execs_cons (thn (h1 pins s σ H D I h) fun f s1 q => ?_)
  cases f with
  | next => exact wpAny_execs_nil q
  | ret v => exact q
  | brk => exact q
  | cont => exact q
def tBreak : TS := fun D σ H => D.bk σ H
def tCont : TS := fun D σ H => D.ct σ H
theorem ps_pass : PS X (.Pass pos) tNext := fun _ _ σ H _ I h => wpAny_Pass ⟨σ, H, I, h⟩
theorem ps_break : PS X (.Break pos) tBreak := fun _ _ σ H _ I h => wpAny_Break ⟨σ, H, I, h⟩
theorem ps_continue : PS X (.Continue pos) tCont := fun _ _ σ H _ I h => wpAny_Continue ⟨σ, H, I, h⟩
theorem Inv.quiet {pins : List (Addr × Obj)} {σ : St} {H : Hp} {s : Shared} (I : Inv X pins σ H s) : interactive X.env = false := by simp [interactive, I.ok.kind]
theorem ps_doc {x j pos pos'} : PS X (.Expr (.Constant (.str x) j pos) pos') tNext := fun _ s σ H _ I h => wpAny_Expr (Calls.Constant_str (show SP X _ _ .next { s with toks := s.toks + 1 } from ⟨σ, H, I.tok _, h⟩)) I.quiet
def tDrop (te : TE) : TS := fun D σ H => te σ H fun _ H1 => D.nx σ H1
theorem ps_expr (he : PE X e te) (hs : swapsWith e none pos.line X.env = pure false := by rfl) : PS X (.Expr e pos) (tDrop te) := by
  intro pins s σ H D I h
  exact wpAny_Expr_any (thn (he pins s σ H _ I h) fun v s1 ⟨x, H1, I1, r1, q1⟩ => ⟨σ, H1, I1, q1⟩) I.quiet hs
def tRet (te : TE) : TS := fun D σ H => te σ H D.rt
theorem ps_ret (he : PE X e te) : PS X (.Return (some e) pos) (tRet te) := by
  intro pins s σ H D I h
  exact wpAny_Return_some (thn (he pins s σ H _ I h) fun v s1 ⟨x, H1, I1, r1, q1⟩ => ⟨x, σ, H1, I1, r1, q1⟩)
def tRetN : TS := fun D _ H => D.rt .non H
theorem ps_retN : PS X (.Return none pos) tRetN := fun _ _ σ H _ I h => wpAny_Return_none ⟨.non, σ, H, I, rfl, h⟩
def tIfS (c : TT) (t u : TS) : TS := fun D σ H => c σ H fun b H1 => if b = true then t D σ H1 else u D σ H1
theorem ps_if {c : Expr} {a b : List Stmt} {tc : TT} (hc : PT X c tc) (ha : PSs X a t) (hb : PSs X b u) : PS X (.If c a b pos) (tIfS tc t u) := by
  intro pins s σ H D I h
  refine wpAny_If (thn (hc pins s σ H _ I h) fun d s1 ⟨H1, I1, q1⟩ => ?_)
  cases d with
  | true => exact ha pins s1 σ H1 D I1 q1
  | false => exact hb pins s1 σ H1 D I1 q1
def tNever : TS := fun _ _ _ => False
theorem ps_never : PS X st tNever := fun _ _ _ _ _ _ h => h.elim
theorem pss_never {sts : List Stmt} : PSs X sts tNever := fun _ _ _ _ _ _ h => h.elim
end
abbrev TG := V → St → Hp → (St → Hp → Prop) → Prop
abbrev TGs := List V → St → Hp → (St → Hp → Prop) → Prop
def PG (X : Cx) (target : Expr) (t : TG) : Prop :=
  ∀ (pins : List (Addr × Obj)) (s : Shared) (σ : St) (H : Hp) (v : V) (u : Value) (Q : St → Hp → Prop), Inv X pins σ H s → RelV v u → t v σ H Q →
    wpAny (model X.prog X.w) X.A (assign target X.env u) (fun _ s' => ∃ σ' H', Inv X pins σ' H' s' ∧ Q σ' H') X.xe s
def PGs (X : Cx) (ts : List Expr) (t : TGs) : Prop :=
  ∀ (pins : List (Addr × Obj)) (s : Shared) (σ : St) (H : Hp) (vs : List V) (us : List Value) (Q : St → Hp → Prop), Inv X pins σ H s → Vals vs us → t vs σ H Q →
    wpAny (model X.prog X.w) X.A (assignInOrder ((assignEach ts X.env).map (·.2)) us) (fun _ s' => ∃ σ' H', Inv X pins σ' H' s' ∧ Q σ' H') X.xe s
abbrev TSet := V → V → V → Hp → (Hp → Prop) → Prop
def PSet (X : Cx) (t : TSet) : Prop :=
  ∀ (pins : List (Addr × Obj)) (s : Shared) (σ : St) (H : Hp) (o i v : V) (ov iv u : Value) (Q : Hp → Prop), Inv X pins σ H s → RelV o ov → RelV i iv → RelV v u → t o i v H Q →
    wpAny (model X.prog X.w) X.A (setItem ov iv u) (fun _ s' => ∃ H', Inv X pins σ H' s' ∧ Q H') X.xe s
abbrev TIp := V → V → Hp → VK → Prop
def PIp (X : Cx) (op : Operator) (t : TIp) : Prop :=
  ∀ (pins : List (Addr × Obj)) (s : Shared) (σ : St) (H : Hp) (x y : V) (v u : Value) (Q : VK), Inv X pins σ H s → RelV x v → RelV y u → t x y H Q →
    wpAny (model X.prog X.w) X.A (inplaceOp op v u) (EP X pins σ Q) X.xe s
section
variable {X : Cx} {pos : Pos}
def gName (i : Nat) : TG := fun v σ H Q => Q (σ.set i (some v)) H
theorem pg_name {i : Nat} {x : Str} (hN : X.N.Nodup) (hi : X.N[i]? = some x) (hx : Loc X.env.scope x) (hf : X.fn x = true ∨ X.env.scope.names.lookup x = some .local := by first | exact .inl rfl | exact .inr rfl | assumption) : PG X (.Name x pos) (gName i) := by
  intro pins s σ H v u Q I r h
  exact wpAny_assign_Name (store_ok I hN hi hx r (fun s' I' => ⟨_, H, I', h⟩) hf)
def gNil : TGs := fun vs σ H Q => vs = [] ∧ Q σ H
def gCons (t : TG) (u : TGs) : TGs := fun vs σ H Q => ∃ v r, vs = v :: r ∧ t v σ H fun σ' H' => u r σ' H' Q
theorem pgs_nil : PGs X [] gNil := by
  intro pins s σ H vs us Q I r h
  obtain ⟨e, h⟩ := h
  subst e
  cases r
  exact assignInOrder_nil ⟨σ, H, I, h⟩
theorem pgs_cons {e : Expr} {es : List Expr} {t : TG} {u : TGs} (h1 : PG X e t) (h2 : PGs X es u)
    (hs : (assignEach (e :: es) X.env).map (·.2) = assign e X.env :: (assignEach es X.env).map (·.2) := by rfl) : PGs X (e :: es) (gCons t u) := by
  intro pins s σ H vs us Q I r h
  obtain ⟨v, vr, e1, h⟩ := h
  subst e1
  cases r with
  | cons r rr =>
    rw [hs]
    refine assignInOrder_cons (thn (h1 pins s σ H _ _ _ I r h) fun _ s1 ⟨σ1, H1, I1, q1⟩ => ?_)
    exact h2 pins s1 σ1 H1 _ _ Q I1 rr q1
def gTup (K : PySem.W.Frag) (n : Nat) (t : TGs) : TG := fun v σ H Q => ∃ a xs, v = .ref a ∧ SqT K H a xs ∧ xs.length = n ∧ t xs σ H Q
theorem pg_tup {es : List Expr} {k : Nat} {t : TGs} {n : Nat} (hc : X.calm = true) (h : PGs X es t)
    (hn : (assignEach es X.env).length = n := by rfl) (hst : (assignEach es X.env).findIdx? (·.1) = none := by rfl) : PG X (.Tuple es k pos) (gTup X.K n t) := by
  intro pins s σ H v u Q I r hw
  obtain ⟨a, xs, e1, hq, hl, hw⟩ := hw
  subst e1
  cases r
  obtain ⟨its, rv, ht, hz⟩ := I.tuple hq
  refine assign_Tuple_tuple (I.ok.hd hc) ht (by simp [hn, ← hl, rv.length]) hst fun h' hx => ?_
  have I1 : Inv X pins σ H { s with heap := h' } := I.kept (t' := s.toks) fun b o e => hx b o (Nat.ne_of_lt (Heap.lt_size e)) e
  exact h pins _ σ H xs _ Q I1 (by simpa using rv) hw
def gSub (to ti : TE) (t : TSet) : TG := fun v σ H Q => to σ H fun o H1 => ti σ H1 fun i H2 => t o i v H2 fun H3 => Q σ H3
theorem pg_sub {o i : Expr} {to ti : TE} {t : TSet} (ho : PE X o to) (hi : PE X i ti) (hs : PSet X t)
    (ha : ∀ v, assign (.Subscript o i pos) X.env v = (do
      let ov ← holding [v] (eval o X.env)
      let iv ← holding [v, ov] (eval i X.env)
      standAt pos
      holding [v, ov, iv] (setItem ov iv v)
      release [v, ov, iv] []) := by intro _; rfl) : PG X (.Subscript o i pos) (gSub to ti t) := by
  intro pins s σ H v u Q I r h
  rw [ha]
  refine wpAny_bind (wpAny_holding (thn (ho pins s σ H _ I h) fun ov s1 ⟨x, H1, I1, r1, q1⟩ => ?_))
  refine wpAny_bind (wpAny_holding (thn (hi pins s1 σ H1 _ I1 q1) fun iv s2 ⟨y, H2, I2, r2, q2⟩ => ?_))
  refine wpAny_bind (wpAny_standAt (wpAny_bind (wpAny_holding (thn (hs pins s2 σ H2 x y v ov iv u _ I2 r1 r2 r q2) fun _ s3 ⟨H3, I3, q3⟩ => ?_))))
  exact wpAny_release ⟨σ, H3, I3, q3⟩
def tAsg (te : TE) (g : TG) : TS := fun D σ H => te σ H fun x H1 => g x σ H1 D.nx
theorem ps_asg {tg e : Expr} {te : TE} {g : TG} (he : PE X e te) (hg : PG X tg g) (hs : swapsWithSole [tg] e pos.line X.env = pure false := by rfl) (hw : swappedStores [tg] e X.env = pure none := by rfl)
    (h1 : (assignEach [tg] X.env).map (·.2) = [assign tg X.env] := by rfl) : PS X (.Assign [tg] e pos) (tAsg te g) := by
  intro pins s σ H D I h
  refine wpAny_Assign_stores (thn (he pins s σ H _ I h) fun v s1 ⟨x, H1, I1, r1, q1⟩ => ?_) hs hw
  rw [h1]
  exact thn (hg pins s1 σ H1 x v _ I1 r1 q1) fun _ s2 q => q
theorem ps_set {i : Nat} {x : Str} {e : Expr} {te : TE} {pos' : Pos} (hN : X.N.Nodup) (hi : X.N[i]? = some x) (hx : Loc X.env.scope x) (he : PE X e te) (hs : swapsWith e (some (.Name x pos')) pos.line X.env = pure false := by rfl) (hf : X.fn x = true ∨ X.env.scope.names.lookup x = some .local := by first | exact .inl rfl | exact .inr rfl | assumption) :
    PS X (.Assign [.Name x pos'] e pos) (tAsg te (gName i)) := by
  intro pins s σ H D I h
  refine wpAny_Assign_Name (thn (he pins s σ H _ I h) fun v s1 ⟨y, H1, I1, r1, q1⟩ => ?_) hs
  exact store_ok I1 hN hi hx r1 (fun s2 I2 => ⟨_, H1, I2, q1⟩) hf
def tPar (i j : Nat) (ta : TA) : TS := fun D σ H => ta σ H fun vs H1 => ∃ v w, vs = [v, w] ∧ D.nx ((σ.set i (some v)).set j (some w)) H1
theorem ps_par {i j : Nat} {x y : Str} {a b : Expr} {ta : TA} {px py pt : Pos} {kt k2 pt2} (hc : X.calm = true) (hN : X.N.Nodup) (hi : X.N[i]? = some x) (hj : X.N[j]? = some y) (hij : i ≠ j)
    (hx : X.env.scope.names.lookup x = some .local) (hy : X.env.scope.names.lookup y = some .local) (ha : PA X [a, b] ta)
    (hw : swappedStores [.Tuple [.Name x px, .Name y py] kt pt] (.Tuple [a, b] k2 pt2) X.env = pure (some [x, y]))
    (hs : swapsWithSole [.Tuple [.Name x px, .Name y py] kt pt] (.Tuple [a, b] k2 pt2) pos.line X.env = pure false := by rfl) :
    PS X (.Assign [.Tuple [.Name x px, .Name y py] kt pt] (.Tuple [a, b] k2 pt2) pos) (tPar i j ta) := by
  intro pins s σ H D I h
  rw [exec_Assign_arm]
  refine wpAny_bind (wpAny_standAt ?_)
  rw [hs]
  refine wpAny_bind (wpAny_pure ?_)
  rw [if_neg (by decide)]
  refine wpAny_bind (Tuple_ (thn (ha _ pins s σ H _ I h) fun us s1 ⟨vs, H1, I1, r1, q1⟩ => ?_))
  obtain ⟨v, w, e1, q1⟩ := q1
  subst e1
  obtain ⟨u1, u2, rfl, rv, rw'⟩ : ∃ u1 u2, us = [u1, u2] ∧ RelV v u1 ∧ RelV w u2 := by
    cases r1 with
    | cons p q =>
      cases q with
      | cons p' q' =>
        cases q'
        exact ⟨_, _, rfl, p, p'⟩
  refine wpAny_newObj_type ?_ (by show 2 ≤ sizeLine; decide)
  have I2 : Inv X pins σ H1 { s1 with heap := s1.heap.push { cls := .type "tuple", data := .seq [u1, u2].toArray } } := I1.kept (t' := s1.toks) fun b o e => Heap.get?_push_of_some _ e
  rw [hw]
  refine wpAny_bind (wpAny_pure ?_)
  show wpAny (model X.prog X.w) X.A (do rule "assign.swapped-stores"; let items ← unpackItems (.ref s1.heap.objs.size) 2 none; assignInOrder [fun v => bindName X.env y v, fun v => bindName X.env x v] items.reverse; pure Flow.next) _ _ _
  refine wpAny_bind (wpAny_rule (wpAny_bind (unpackItems_tuple (items := #[u1, u2]) (I.ok.hd hc) (IsTup.new s1.heap _) fun h' hx' => ?_)))
  have I3 := I2.kept (h' := h') (t' := s1.toks) fun b o e => hx' b o (Nat.ne_of_lt (Heap.lt_size e)) e
  show wpAny _ _ (assignInOrder [fun v => bindName X.env y v, fun v => bindName X.env x v] [u2, u1] >>= fun _ => pure Flow.next) _ _ _
  refine wpAny_bind (assignInOrder_cons (wpAny_bindName (store_ok I3 hN hj (.inl hy) rw' (fun s2 I4 => ?_) (.inr hy))))
  refine assignInOrder_cons (wpAny_bindName (store_ok I4 hN hi (.inl hx) rv (fun s3 I5 => assignInOrder_nil (wpAny_pure ?_)) (.inr hx)))
  rw [List.set_comm _ _ (Ne.symm hij)] at I5
  exact ⟨_, H1, I5, q1⟩
def tAug (i : Nat) (te : TE) (ti : TIp) : TS := fun D σ H => ∃ x, σ[i]? = some (some x) ∧ te σ H fun y H1 => ti x y H1 fun z H2 => D.nx (σ.set i (some z)) H2
theorem ps_aug {i : Nat} {x : Str} {e : Expr} {te : TE} {op : Operator} {ti : TIp} {pos' : Pos} (hN : X.N.Nodup) (hi : X.N[i]? = some x) (hx : Loc X.env.scope x) (he : PE X e te) (ho : PIp X op ti) (hf : X.fn x = true ∨ X.env.scope.names.lookup x = some .local := by first | exact .inl rfl | exact .inr rfl | assumption) :
    PS X (.AugAssign (.Name x pos') op e pos) (tAug i te ti) := by
  intro pins s σ H D I h
  obtain ⟨v, e1, h⟩ := h
  obtain ⟨m, hn, hl⟩ := I.loc
  have vis : Vis X.env.scope x := by rcases hx with k | k; exact .inl k; exact .inr (.inl k)
  obtain ⟨u, r, l⟩ := hl i x v hi e1 vis
  refine wpAny_AugAssign_Name ?_
  have go : wpAny (model X.prog X.w) X.A (eval e X.env) (fun w s₂ => wpAny (model X.prog X.w) X.A (inplaceOp op u w) (fun r s₃ => wpAny (model X.prog X.w) X.A (storeName X.env x r) (fun _ => SP X pins D .next) X.xe s₃) X.xe s₂) X.xe s := by
    refine thn (he pins s σ H _ I h) fun w s1 ⟨y, H1, I1, r1, q1⟩ => ?_
    refine thn (ho pins s1 σ H1 v y u w _ I1 r r1 q1) fun z s2 ⟨zv, H2, I2, r2, q2⟩ => ?_
    exact store_ok I2 hN hi hx r2 (fun s3 I3 => ⟨_, H2, I3, q2⟩) hf
  rcases l with ⟨hk, hm⟩ | ⟨hk, c, hc, hcell⟩
  · exact wpAny_loadName_local I.ok.kind hk hn hm go
  · rcases hk with hk | hk
    · exact wpAny_loadName_cell I.ok.kind hk hc hcell go
    · rcases hx with k | k
      · have : X.env.scope.names.lookup x = some .free := hk
        rw [k] at this; cases this
      · have : X.env.scope.names.lookup x = some .free := hk
        rw [k] at this; cases this
def tAugS (to ti te : TE) (tget : V → V → Hp → VK → Prop) (tip : TIp) (tset : TSet) : TS := fun D σ H => to σ H fun o H1 => ti σ H1 fun i H2 => tget o i H2 fun x H3 => te σ H3 fun y H4 => tip x y H4 fun z H5 => tset o i z H5 fun H6 => D.nx σ H6
def PGet (X : Cx) (t : V → V → Hp → VK → Prop) : Prop :=
  ∀ (pins : List (Addr × Obj)) (s : Shared) (σ : St) (H : Hp) (o i : V) (ov iv : Value) (Q : VK), Inv X pins σ H s → RelV o ov → RelV i iv → t o i H Q →
    wpAny (model X.prog X.w) X.A (getItem ov iv) (EP X pins σ Q) X.xe s
theorem ps_augS {o i e : Expr} {to ti te : TE} {tget : V → V → Hp → VK → Prop} {tip : TIp} {tset : TSet} {op : Operator} {tpos : Pos} (ho : PE X o to) (hi : PE X i ti) (hg : PGet X tget) (he : PE X e te) (hp : PIp X op tip) (hs : PSet X tset)
    (ha : ∀ ov iv new, augStore i ov iv new = (do holding [new, ov, iv] (setItem ov iv new); release [new, ov, iv] []; pure .next) := by intros; rfl) : PS X (.AugAssign (.Subscript o i tpos) op e pos) (tAugS to ti te tget tip tset) := by
  intro pins s σ H D I h
  refine wpAny_AugAssign_SubscriptAny (thn (ho pins s σ H _ I h) fun ov s1 ⟨x1, H1, I1, r1, q1⟩ => ?_) ha
  refine thn (hi pins s1 σ H1 _ I1 q1) fun iv s2 ⟨x2, H2, I2, r2, q2⟩ => ?_
  refine thn (hg pins s2 σ H2 x1 x2 ov iv _ I2 r1 r2 q2) fun old s3 ⟨x3, H3, I3, r3, q3⟩ => ?_
  refine thn (he pins s3 σ H3 _ I3 q3) fun v s4 ⟨x4, H4, I4, r4, q4⟩ => ?_
  refine thn (hp pins s4 σ H4 x3 x4 old v _ I4 r3 r4 q4) fun new s5 ⟨x5, H5, I5, r5, q5⟩ => ?_
  exact thn (hs pins s5 σ H5 x1 x2 x5 ov iv new _ I5 r1 r2 r5 q5) fun _ s6 ⟨H6, I6, q6⟩ => ⟨σ, H6, I6, q6⟩
def ipI (f : Int → Int → Int) : TIp := fun x y H Q => ∃ i j, x = .int i ∧ y = .int j ∧ Q (.int (f i j)) H
theorem ip_add : PIp X .Add (ipI fun i j => i + j) := by
  intro pins s σ H x y v u Q I r1 r2 h
  obtain ⟨i, j, e1, e2, q⟩ := h
  subst e1; subst e2
  obtain ⟨t, rfl⟩ := r1
  obtain ⟨t', rfl⟩ := r2
  exact iadd_int ⟨.int _, H, I.tok _, ⟨_, rfl⟩, q⟩
theorem ip_sub : PIp X .Sub (ipI fun i j => i - j) := by
  intro pins s σ H x y v u Q I r1 r2 h
  obtain ⟨i, j, e1, e2, q⟩ := h
  subst e1; subst e2
  obtain ⟨t, rfl⟩ := r1
  obtain ⟨t', rfl⟩ := r2
  exact isub_int ⟨.int _, H, I.tok _, ⟨_, rfl⟩, q⟩
end
section
variable {X : Cx} {pos : Pos}
def tWhile (c : TT) (tb : TS) : TS := fun D σ H => ∃ W : Nat → St → Hp → Prop, (∃ m, W m σ H) ∧ ∀ m σ H, W m σ H →
  c σ H fun b H1 => if b = true then ∃ N : St → Hp → Prop, (∀ σ' H', N σ' H' → ∃ m', m' < m ∧ W m' σ' H') ∧ tb { D with nx := N, ct := N, bk := D.nx } σ H1 else D.nx σ H1
theorem ps_while {c : Expr} {body : List Stmt} {tc : TT} {tb : TS} (hp : PassesOwn (model X.prog X.w) X.A X.env X.xe) (hc : PT X c tc) (hb : PSs X body tb) : PS X (.While c body [] pos) (tWhile tc tb) := by
  intro pins s σ H D I h
  obtain ⟨W, ⟨m0, w0⟩, turn⟩ := h
  refine wpAny_While (codeAny_whileLoop (fun n s' => ∃ σ' H', Inv X pins σ' H' s' ∧ W n σ' H') ?_ m0 ⟨σ, H, I, w0⟩)
  rintro n s1 ⟨σ1, H1, I1, w1⟩
  refine wpAny_passesOwn hp (thn (hc pins s1 σ1 H1 _ I1 (turn n σ1 H1 w1)) fun b s2 ⟨H2, I2, q2⟩ => ?_)
  cases b with
  | true =>
    obtain ⟨N, hN, q2⟩ := q2
    rw [if_pos rfl]
    refine wpAny_passesOwn hp (thn (hb pins s2 σ1 H2 _ I2 q2) fun f s3 q3 => ?_)
    cases f with
    | next =>
      obtain ⟨σ3, H3, I3, n3⟩ := q3
      obtain ⟨m', hm, w3⟩ := hN σ3 H3 n3
      exact ⟨m', hm, σ3, H3, I3, w3⟩
    | cont =>
      obtain ⟨σ3, H3, I3, n3⟩ := q3
      obtain ⟨m', hm, w3⟩ := hN σ3 H3 n3
      exact ⟨m', hm, σ3, H3, I3, w3⟩
    | brk => exact q3
    | ret v => exact q3
  | false =>
    rw [if_neg Bool.false_ne_true]
    exact wpAny_execs_nil ⟨σ1, H2, I2, q2⟩
end
structure It where
  go : Nat → Hp → Prop
  yld : Nat → Hp → V → Hp → Prop
  stop : Nat → Hp → Prop
def FpOk (X : Cx) (pins : List (Addr × Obj)) (H : Hp) (b : Addr) : Prop :=
  H b = none ∧ b ≠ X.env.locals ∧ b ∉ X.fs ∧ (b ∈ X.ex ∨ X.s₀.heap.objs.size ≤ b) ∧ (∀ x c, X.env.cells.lookup x = some c → c ≠ b) ∧ ∀ p ∈ X.pn ++ pins, p.1 ≠ b
theorem Inv.fpOk {X : Cx} {pins : List (Addr × Obj)} {σ : St} {H H' : Hp} {s : Shared} {b : Addr} (I : Inv X pins σ H s) (hb : s.heap.objs.size ≤ b) (hn : H' b = none) : FpOk X pins H' b := by
  refine ⟨hn, Nat.ne_of_gt (Nat.lt_of_lt_of_le I.lt hb), I.nofs hb, .inr (Nat.le_trans I.sz hb), fun x c e z => ?_, fun p hp z => ?_⟩
  · obtain ⟨v, q⟩ := I.cell x c e
    exact absurd (Nat.lt_of_lt_of_le q.lt (by rw [z]; exact hb)) (Nat.lt_irrefl _)
  · exact absurd (Nat.lt_of_lt_of_le (Heap.lt_size (I.pin p hp).1) (by rw [z]; exact hb)) (Nat.lt_irrefl _)
structure Turn (P : Program) (w : World) (K : PySem.W.Frag) (tg : Expr) (J : It) (fp : List Addr) (it : Addr) (tn : Nat → Heap → Prop) : Prop where
  mem : it ∈ fp
  obj : ∀ i h, tn i h → ∀ b ∈ fp, ∃ o, h.get? b = some o ∧ ∀ v, o.data ≠ .cell v
  keep : ∀ i h h', tn i h → (∀ b ∈ fp, ∀ o, h.get? b = some o → h'.get? b = some o) → tn i h'
  item : ∀ (X : Cx), X.prog = P → X.w = w → X.K = K → X.calm = true → ∀ (i : Nat) (pins : List (Addr × Obj)) (s : Shared) (σ : St) (H : Hp) (E : Value → Shared → Prop), Inv X pins σ H s → (∀ b ∈ fp, FpOk X pins H b) → tn i s.heap → J.go i H →
    wpAny (model P w) X.A (pyNext (.ref it)) (fun r s1 => ∃ u, r = some u ∧
      wpAny (model P w) X.A (letOwnedTupleGo tg (.ref it) u) (fun _ s2 => ∃ x H', Inv X pins σ H' s2 ∧ RelV x u ∧ J.yld i H x H' ∧ tn (i + 1) s2.heap ∧ ∀ b ∈ fp, H' b = none) E s1) E s
  done : ∀ (X : Cx), X.prog = P → X.w = w → X.K = K → X.calm = true → ∀ (i : Nat) (pins : List (Addr × Obj)) (s : Shared) (σ : St) (H : Hp) (E : Value → Shared → Prop), Inv X pins σ H s → (∀ b ∈ fp, FpOk X pins H b) → tn i s.heap → J.stop i H →
    wpAny (model P w) X.A (pyNext (.ref it)) (fun r s1 => r = none ∧ Inv X pins σ H s1) E s
  self : ∀ (A : Around) (i : Nat) (s : Shared) (Q : Value → Shared → Prop) (E : Value → Shared → Prop), tn i s.heap → Q (.ref it) s → wpAny (model P w) A (pyIter (.ref it)) Q E s
abbrev TI := St → Hp → (It → Hp → Prop) → Prop
def PIE (X : Cx) (pins : List (Addr × Obj)) (σ : St) (tg : Expr) (R : It → Hp → Prop) (itv : Value) (s2 : Shared) : Prop :=
  ∃ (it : Addr) (fp : List Addr) (tn : Nat → Heap → Prop) (J : It) (H' : Hp), itv = .ref it ∧ Inv X pins σ H' s2 ∧ Turn X.prog X.w X.K tg J fp it tn ∧ tn 0 s2.heap ∧ (∀ b ∈ fp, FpOk X pins H' b) ∧ R J H'
def PI (X : Cx) (tg iter : Expr) (wi : TI) : Prop :=
  ∀ (pins : List (Addr × Obj)) (s : Shared) (σ : St) (H : Hp) (R : It → Hp → Prop), Inv X pins σ H s → wi σ H R →
    wpAny (model X.prog X.w) X.A (eval iter X.env) (fun v s1 => wpAny (model X.prog X.w) X.A (pyIter v) (PIE X pins σ tg R) X.xe s1) X.xe s
theorem go_of {M : Model} {A : Around} {E : Value → Shared → Prop} {s : Shared} {tg : Expr} {it : Addr} {u : Value} {o : Obj} {n : String} {vs : Array Value} {Q : Unit → Shared → Prop} (ho : s.heap.get? it = some o) (hc : o.cls = .type n) (hd : o.data = .fields vs)
    (hn : ["enumerate", "zip", "dict_itemiterator", "dict_reverseitemiterator", "odict_iterator", "itertools.zip_longest", "itertools.pairwise"].contains n = false) (hQ : Q () s) : wpAny M A (letOwnedTupleGo tg (.ref it) u) Q E s := by
  unfold letOwnedTupleGo
  cases tg <;> first
    | exact wpAny_pure hQ
    | (cases u <;> first
        | exact wpAny_pure hQ
        | (refine wpAny_bind (wpAny_load ho ?_)
           rw [hc, hd]
           show wpAny M A (if (["enumerate", "zip", "dict_itemiterator", "dict_reverseitemiterator", "odict_iterator", "itertools.zip_longest", "itertools.pairwise"].contains n && vs[0]? == some (rawInt _)) = true then _ else _) Q E s
           rw [if_neg (by intro h; rw [hn, Bool.false_and] at h; cases h)]
           exact wpAny_pure hQ))
def Itl (K : PySem.W.Frag) (a : Addr) : It :=
  ⟨fun i H => ∃ xs x, SqL K H a xs ∧ xs[i]? = some x, fun i H x H' => H' = H ∧ ∀ xs, SqL K H a xs → xs[i]? = some x, fun i H => ∃ xs, SqL K H a xs ∧ xs.length ≤ i⟩
def Itt (K : PySem.W.Frag) (a : Addr) : It :=
  ⟨fun i H => ∃ xs x, SqT K H a xs ∧ xs[i]? = some x, fun i H x H' => H' = H ∧ ∀ xs, SqT K H a xs → xs[i]? = some x, fun i H => ∃ xs, SqT K H a xs ∧ xs.length ≤ i⟩
def Itr (lo : Int) (n : Nat) : It := ⟨fun i _ => i < n, fun i H x H' => H' = H ∧ x = .int (lo + i), fun i _ => n ≤ i⟩
theorem turn_list {P : Program} {w : World} {K : PySem.W.Frag} {tg : Expr} (a it : Addr) : Turn P w K tg (Itl K a) [it] it (fun i h => h.IsListIter it a i) where
  mem := by simp
  obj := fun i h st b hb => by
    have e : b = it := by simpa using hb
    subst e
    obtain ⟨o, e, c, d⟩ := st
    exact ⟨o, e, fun v z => by rw [d] at z; cases z⟩
  keep := fun i h h' st k => st.at fun o e => k it (by simp) o e
  item := by
    intro X hP hw hK hc i pins s σ H E I hf st hg
    subst hP hw hK
    obtain ⟨xs, x, hq, hx⟩ := hg
    obtain ⟨its, rv, p, hz⟩ := I.list hq
    obtain ⟨u, hu, ru⟩ := rv.get hx
    obtain ⟨f0, f1, f2, f3, f4, f5⟩ := hf it (by simp)
    refine wpAny_pyNext_list_item st p.isList (x := u) (by simpa using hu) fun h' st' sb => ?_
    have I1 : Inv X pins σ H { s with heap := h' } := I.turned (t' := s.toks) (fun b o hb e => (sb.2 b hb).trans e) f0 f1 f3 f4 f5
    obtain ⟨o, e, c, d⟩ := id st'
    exact ⟨u, rfl, go_of (s := { s with heap := h' }) e c d (by decide) ⟨x, H, I1, ru, ⟨rfl, fun ys hy => by rw [I.list_inj hy hq]; exact hx⟩, st', fun b hb => (hf b hb).1⟩⟩
  done := by
    intro X hP hw hK hc i pins s σ H E I hf st hg
    subst hP hw hK
    obtain ⟨xs, hq, hx⟩ := hg
    obtain ⟨its, rv, p, hz⟩ := I.list hq
    obtain ⟨f0, f1, f2, f3, f4, f5⟩ := hf it (by simp)
    have hl := rv.length
    exact wpAny_pyNext_list_end (I.ok.hd hc) st p.isList (by simp; omega) fun h' eb => ⟨rfl, I.turned (t' := s.toks) (fun b o hb e => eb b o hb e) f0 f1 f3 f4 f5⟩
  self := fun _ _ _ _ _ st h => wpAny_pyIter_listiter st h
theorem turn_tuple {P : Program} {w : World} {K : PySem.W.Frag} {tg : Expr} (a it : Addr) : Turn P w K tg (Itt K a) [it] it (fun i h => h.IsTupleIter it a i) where
  mem := by simp
  obj := fun i h st b hb => by
    have e : b = it := by simpa using hb
    subst e
    obtain ⟨o, e, c, d⟩ := st
    exact ⟨o, e, fun v z => by rw [d] at z; cases z⟩
  keep := fun i h h' st k => st.at fun o e => k it (by simp) o e
  item := by
    intro X hP hw hK hc i pins s σ H E I hf st hg
    subst hP hw hK
    obtain ⟨xs, x, hq, hx⟩ := hg
    obtain ⟨its, rv, p, hz⟩ := I.tuple hq
    obtain ⟨u, hu, ru⟩ := rv.get hx
    obtain ⟨f0, f1, f2, f3, f4, f5⟩ := hf it (by simp)
    refine wpAny_pyNext_tuple_item st (show s.heap.IsTuple a its.toArray from p) (x := u) (by simpa using hu) fun h' st' sb => ?_
    have I1 : Inv X pins σ H { s with heap := h' } := I.turned (t' := s.toks) (fun b o hb e => (sb.2 b hb).trans e) f0 f1 f3 f4 f5
    obtain ⟨o, e, c, d⟩ := id st'
    exact ⟨u, rfl, go_of (s := { s with heap := h' }) e c d (by decide) ⟨x, H, I1, ru, ⟨rfl, fun ys hy => by rw [I.tuple_inj hy hq]; exact hx⟩, st', fun b hb => (hf b hb).1⟩⟩
  done := by
    intro X hP hw hK hc i pins s σ H E I hf st hg
    subst hP hw hK
    obtain ⟨xs, hq, hx⟩ := hg
    obtain ⟨its, rv, p, hz⟩ := I.tuple hq
    obtain ⟨f0, f1, f2, f3, f4, f5⟩ := hf it (by simp)
    have hl := rv.length
    exact wpAny_pyNext_tuple_end (I.ok.hd hc) st (show s.heap.IsTuple a its.toArray from p) (by simp; omega) fun h' eb => ⟨rfl, I.turned (t' := s.toks) (fun b o hb e => eb b o hb e) f0 f1 f3 f4 f5⟩
  self := fun _ _ _ _ _ st h => wpAny_pyIter_tupleiter st h
theorem turn_range {P : Program} {w : World} {K : PySem.W.Frag} {tg : Expr} (it : Addr) (lo : Int) (n : Nat) : Turn P w K tg (Itr lo n) [it] it (fun i h => IsRangeIter h it (lo + (i : Nat) * 1) ((n : Int) - (i : Nat)) 1) where
  mem := by simp
  obj := fun i h st b hb => by
    have e : b = it := by simpa using hb
    subst e
    exact ⟨_, st, fun v z => by
      have z' : Data.fields _ = Data.cell v := z
      cases z'⟩
  keep := fun i h h' st k => k it (by simp) _ st
  item := by
    intro X hP hw hK hc i pins s σ H E I hf st hg
    subst hP hw hK
    obtain ⟨f0, f1, f2, f3, f4, f5⟩ := hf it (by simp)
    have W := Walks.range (prog := X.prog) (w := X.w) (I.ok.hd hc) it lo 1 n
    refine W.item i s _ _ hg st fun v h' tk hv st' kk => ?_
    obtain ⟨t, rfl⟩ := hv
    have I1 : Inv X pins σ H { s with heap := h', toks := tk } := I.turned (fun b o hb e => kk b o (by simpa using hb) e) f0 f1 f3 f4 f5
    refine ⟨_, rfl, go_of (s := { s with heap := h', toks := tk }) (n := "range_iterator") st' rfl rfl (by decide) ⟨.int (lo + i), H, I1, ⟨t, ?_⟩, ⟨rfl, rfl⟩, st', fun b hb => (hf b hb).1⟩⟩
    rw [Int.mul_one]
  done := by
    intro X hP hw hK hc i pins s σ H E I hf st hg
    subst hP hw hK
    obtain ⟨f0, f1, f2, f3, f4, f5⟩ := hf it (by simp)
    exact wpAny_pyNext_range_end (I.ok.hd hc) st (by have : n ≤ i := hg; omega) fun h' eb => ⟨rfl, I.turned (t' := s.toks) (fun b o hb e => eb b o hb e) f0 f1 f3 f4 f5⟩
  self := fun _ _ _ _ _ st h => wpAny_pyIter_rangeiter st h
end L2
namespace L2
open PySem PySem.Spec PyProof.Rows
section
variable {X : Cx} {tg : Expr}
def iList (K : PySem.W.Frag) (tl : TE) : TI := fun σ H R => tl σ H fun x H1 => ∃ a, x = .ref a ∧ (∃ xs, SqL K H1 a xs) ∧ R (Itl K a) H1
def iTup (K : PySem.W.Frag) (tl : TE) : TI := fun σ H R => tl σ H fun x H1 => ∃ a, x = .ref a ∧ (∃ xs, SqT K H1 a xs) ∧ R (Itt K a) H1
theorem pi_list {l : Expr} {tl : TE} (hl : PE X l tl) : PI X tg l (iList X.K tl) := by
  intro pins s σ H R I h
  refine thn (hl pins s σ H _ I h) fun v s1 ⟨x, H1, I1, r1, q1⟩ => ?_
  obtain ⟨a, e, ⟨xs, hq⟩, q⟩ := q1
  subst e
  cases r1
  obtain ⟨its, rv, p, hz⟩ := I1.list hq
  refine wpAny_pyIter_list p.isList ?_
  refine ⟨s1.heap.objs.size, [s1.heap.objs.size], _, _, H1, rfl, I1.kept (t' := s1.toks) fun b o e => Heap.get?_push_of_some _ e, turn_list a _, ⟨_, Heap.get?_push_size _ rfl, rfl, rfl⟩, fun b hb => ?_, q⟩
  have e : b = s1.heap.objs.size := by simpa using hb
  subst e
  exact I1.fpOk (Nat.le_refl _) (I1.hok.fresh (Nat.le_refl _))
theorem pi_tup {l : Expr} {tl : TE} (hl : PE X l tl) : PI X tg l (iTup X.K tl) := by
  intro pins s σ H R I h
  refine thn (hl pins s σ H _ I h) fun v s1 ⟨x, H1, I1, r1, q1⟩ => ?_
  obtain ⟨a, e, ⟨xs, hq⟩, q⟩ := q1
  subst e
  cases r1
  obtain ⟨its, rv, p, hz⟩ := I1.tuple hq
  refine wpAny_pyIter_tuple (show s1.heap.IsTuple a its.toArray from p) ?_
  refine ⟨s1.heap.objs.size, [s1.heap.objs.size], _, _, H1, rfl, I1.kept (t' := s1.toks) fun b o e => Heap.get?_push_of_some _ e, turn_tuple a _, ⟨_, Heap.get?_push_size _ rfl, rfl, rfl⟩, fun b hb => ?_, q⟩
  have e : b = s1.heap.objs.size := by simpa using hb
  subst e
  exact I1.fpOk (Nat.le_refl _) (I1.hok.fresh (Nat.le_refl _))
theorem range_it {pins : List (Addr × Obj)} {σ : St} {H : Hp} {s : Shared} {R : It → Hp → Prop} {E : Value → Shared → Prop} {lo hi : Int} {t u v : Tok} {tk : Nat} (I : Inv X pins σ H s) (h1 : -(2 ^ 62) ≤ lo) (h2 : lo < 2 ^ 62) (h3 : -(2 ^ 62) ≤ hi) (h4 : hi < 2 ^ 62)
    (q : R (Itr lo (hi - lo).toNat) H) : wpAny (model X.prog X.w) X.A (pyIter (.ref s.heap.objs.size)) (PIE X pins σ tg R) E { s with heap := s.heap.push { cls := .type "range", data := .fields #[.int lo t, .int hi u, .int 1 v] }, toks := tk } := by
  refine wpAny_pyIter_range (IsRange.new ..) (small_one h1 h2 h3 h4) ?_
  have I1 : Inv X pins σ H { s with heap := s.heap.push { cls := .type "range", data := .fields #[.int lo t, .int hi u, .int 1 v] }, toks := tk } := I.kept fun b o e => Heap.get?_push_of_some _ e
  refine ⟨(s.heap.push { cls := .type "range", data := .fields #[.int lo t, .int hi u, .int 1 v] }).objs.size, [(s.heap.push { cls := .type "range", data := .fields #[.int lo t, .int hi u, .int 1 v] }).objs.size], _, _, H, rfl,
    I1.kept (t' := tk) fun b o e => Heap.get?_push_of_some _ e, turn_range _ lo (hi - lo).toNat, ?_, fun b hb => ?_, q⟩
  · have e1 : lo + ((0 : Nat) : Int) * 1 = lo := by simp
    have e2 : (((hi - lo).toNat : Nat) : Int) - ((0 : Nat) : Int) = Builtin.Range.rangeSize lo hi 1 := by rw [rangeSize_one]; split <;> omega
    show IsRangeIter _ _ (lo + ((0 : Nat) : Int) * 1) ((((hi - lo).toNat : Nat) : Int) - ((0 : Nat) : Int)) 1
    rw [e1, e2]
    exact Heap.get?_push_size _ rfl
  · have e : b = (s.heap.push { cls := .type "range", data := .fields #[.int lo t, .int hi u, .int 1 v] }).objs.size := by simpa using hb
    subst e
    exact I1.fpOk (Nat.le_refl _) (I1.hok.fresh (Nat.le_refl _))
def iRng1 (ta : TA) : TI := fun σ H R => ta σ H fun vs H1 => ∃ j : Int, vs = [.int j] ∧ -(2 ^ 62) ≤ j ∧ j < 2 ^ 62 ∧ R (Itr 0 j.toNat) H1
def iRng2 (ta : TA) : TI := fun σ H R => ta σ H fun vs H1 => ∃ i j : Int, vs = [.int i, .int j] ∧ (-(2 ^ 62) ≤ i ∧ i < 2 ^ 62 ∧ -(2 ^ 62) ≤ j ∧ j < 2 ^ 62) ∧ R (Itr i (j - i).toNat) H1
theorem pi_range1 {a : Expr} {ta : TA} {p pos : Pos} (hg : Gl X "range") (hm : X.mg "range" = none) (ha : PA X [a] ta) (hs : starEach [a] X.env = [(false, eval a X.env)] := by rfl) : PI X tg (.Call (.Name "range" p) [a] [] pos) (iRng1 ta) := by
  intro pins s σ H R I h
  refine Call_ (ld_blt I hg hm boot_range (PyProof.Rows.callWith_type1 (thn (ha pos pins s σ H _ I h) fun us s1 ⟨vs, H1, I1, r1, q1⟩ => ?_) hs rfl))
  obtain ⟨j, e, q1, q2, q⟩ := q1
  subst e
  cases r1 with
  | cons r rr =>
    cases rr
    obtain ⟨t, rfl⟩ := r
    exact call_range_1 (range_it I1 (by omega) (by omega) q1 q2 (by simpa using q))
theorem pi_range2 {a b : Expr} {ta : TA} {p pos : Pos} (hg : Gl X "range") (hm : X.mg "range" = none) (ha : PA X [a, b] ta) (hs : starEach [a, b] X.env = [(false, eval a X.env), (false, eval b X.env)] := by rfl) (hs2 : starEach [b] X.env = [(false, eval b X.env)] := by rfl) :
    PI X tg (.Call (.Name "range" p) [a, b] [] pos) (iRng2 ta) := by
  intro pins s σ H R I h
  refine Call_ (ld_blt I hg hm boot_range (PyProof.Rows.callWith_type1 (thn (ha pos pins s σ H _ I h) fun us s1 ⟨vs, H1, I1, r1, q1⟩ => ?_) (by rw [hs, hs2]) (by rw [hs2]; rfl)))
  obtain ⟨i, j, e, ⟨q1, q2, q3, q4⟩, q⟩ := q1
  subst e
  cases r1 with
  | cons r rr =>
    cases rr with
    | cons r' rr =>
      cases rr
      obtain ⟨t, rfl⟩ := r
      obtain ⟨t', rfl⟩ := r'
      exact call_range_2 (range_it I1 q1 q2 q3 q4 q)
def tFor (wi : TI) (g : TG) (tb : TS) : TS := fun D σ H => wi σ H fun J H1 => ∃ W : Nat → Nat → St → Hp → Prop, (∃ m, W 0 m σ H1) ∧ ∀ i m σ H, W i m σ H →
  (J.stop i H ∧ D.nx σ H) ∨ (J.go i H ∧ ∃ N : St → Hp → Prop, (∀ σ' H', N σ' H' → ∃ m', m' < m ∧ W (i + 1) m' σ' H') ∧ ∀ x H', J.yld i H x H' → g x σ H' fun σ2 H2 => tb { D with nx := N, ct := N, bk := D.nx } σ2 H2)
def pinsAt (fp : List Addr) (h : Heap) : List (Addr × Obj) := fp.filterMap fun b => (h.get? b).map fun o => (b, o)
theorem mem_pinsAt {fp : List Addr} {h : Heap} {b : Addr} {o : Obj} (hb : b ∈ fp) (e : h.get? b = some o) : (b, o) ∈ pinsAt fp h := List.mem_filterMap.mpr ⟨b, hb, by rw [e]; rfl⟩
theorem of_pinsAt {fp : List Addr} {h : Heap} {p : Addr × Obj} (hp : p ∈ pinsAt fp h) : p.1 ∈ fp ∧ h.get? p.1 = some p.2 := by
  obtain ⟨b, hb, e⟩ := List.mem_filterMap.mp hp
  cases q : h.get? b with
  | none => rw [q] at e; cases e
  | some o =>
    rw [q] at e
    have e' : (b, o) = p := Option.some.inj e
    subst e'
    exact ⟨hb, q⟩
theorem Inv.pinned {pins : List (Addr × Obj)} {σ : St} {H : Hp} {s : Shared} {fp : List Addr} (I : Inv X pins σ H s) (hf : ∀ b ∈ fp, FpOk X pins H b) (ho : ∀ b ∈ fp, ∃ o, s.heap.get? b = some o ∧ ∀ v, o.data ≠ .cell v) : Inv X (pins ++ pinsAt fp s.heap) σ H s :=
  I.pins_of fun p hp => (List.mem_append.mp hp).elim (fun z => I.pin p (List.mem_append_right _ z)) fun z => by
    obtain ⟨hb, e⟩ := of_pinsAt z
    obtain ⟨f0, f1, f2, _⟩ := hf p.1 hb
    obtain ⟨o, e', d⟩ := ho p.1 hb
    rw [e] at e'; cases e'
    exact ⟨e, f0, f1, f2, d⟩
theorem Inv.unpinned {pins pl : List (Addr × Obj)} {σ : St} {H : Hp} {s : Shared} (I : Inv X (pins ++ pl) σ H s) : Inv X pins σ H s := I.pins_of fun p hp => I.pin p (List.mem_append_right _ (List.mem_append_left _ hp))
theorem ps_for {iter : Expr} {body : List Stmt} {wi : TI} {g : TG} {tb : TS} {pos : Pos} (hp : PassesOwn (model X.prog X.w) X.A X.env X.xe) (hc : X.calm = true) (hi : PI X tg iter wi) (hg : PG X tg g) (hb : PSs X body tb)
    (hs : ∀ x, foldedSetIterable iter X.env x = pure x := by intro _; rfl) : PS X (.For tg iter body [] pos) (tFor wi g tb) := by
  intro pins s σ H D I h
  refine wpAny_For (thn (hi pins s σ H _ I h) fun v s1 h1 => thn h1 fun itv s2 h2 => ?_) hs
  obtain ⟨it, fp, tn, J, H2, e, I2, T, st2, f2, W, ⟨m0, w0⟩, turn⟩ := h2
  subst e
  have stat : ∀ {H' : Hp}, (∀ b ∈ fp, H' b = none) → ∀ b ∈ fp, FpOk X pins H' b := fun hn b hb => ⟨hn b hb, (f2 b hb).2⟩
  refine codeAny_forLoop_any (fun n s' => ∃ i σ' H', Inv X pins σ' H' s' ∧ tn i s'.heap ∧ (∀ b ∈ fp, H' b = none) ∧ W i n σ' H') ?_ m0 ⟨0, σ, H2, I2, st2, fun b hb => (f2 b hb).1, w0⟩
  rintro n s3 ⟨i, σ3, H3, I3, st3, fr3, w3⟩
  rcases turn i n σ3 H3 w3 with ⟨stop, qn⟩ | ⟨go, N, hN, step⟩
  · refine wpAny_passesOwn hp (thn (T.done X rfl rfl rfl hc i pins s3 σ3 H3 X.xe I3 (stat fr3) st3 stop) fun r s4 ⟨hr, I4⟩ => ?_)
    subst hr
    exact wpAny_execs_nil ⟨σ3, H3, I4, qn⟩
  · refine wpAny_passesOwn hp (thn (T.item X rfl rfl rfl hc i pins s3 σ3 H3 X.xe I3 (stat fr3) st3 go) fun r s4 ⟨u, hr, h4⟩ => ?_)
    subst hr
    refine wpAny_passesOwn hp (thn h4 fun _ s5 ⟨x, H5, I5, r5, y5, st5, fr5⟩ => ?_)
    have I5' := I5.pinned (stat fr5) (T.obj _ _ st5)
    refine wpAny_passesOwn hp (thn (hg _ s5 σ3 H5 x u _ I5' r5 (step x H5 y5)) fun _ s6 ⟨σ6, H6, I6, q6⟩ => ?_)
    refine wpAny_passesOwn hp (thn (hb _ s6 σ6 H6 _ I6 q6) fun f s7 q7 => ?_)
    have again : ∀ {σ7 : St} {H7 : Hp}, Inv X (pins ++ pinsAt fp s5.heap) σ7 H7 s7 → N σ7 H7 → ∃ m, m < n ∧ ∃ i σ' H', Inv X pins σ' H' s7 ∧ tn i s7.heap ∧ (∀ b ∈ fp, H' b = none) ∧ W i m σ' H' := fun {σ7 H7} I7 n7 => by
      obtain ⟨m', hm, w7⟩ := hN σ7 H7 n7
      refine ⟨m', hm, i + 1, σ7, H7, I7.unpinned, T.keep _ _ _ st5 fun b hb o e => (I7.pin (b, o) (List.mem_append_right _ (List.mem_append_right _ (mem_pinsAt hb e)))).1, fun b hb => ?_, w7⟩
      obtain ⟨o, e, d⟩ := T.obj _ _ st5 b hb
      exact (I7.pin (b, o) (List.mem_append_right _ (List.mem_append_right _ (mem_pinsAt hb e)))).2.1
    cases f with
    | next => obtain ⟨σ7, H7, I7, n7⟩ := q7; exact again I7 n7
    | cont => obtain ⟨σ7, H7, I7, n7⟩ := q7; exact again I7 n7
    | brk => obtain ⟨σ7, H7, I7, q7⟩ := q7; exact ⟨σ7, H7, I7.unpinned, q7⟩
    | ret v => obtain ⟨x7, σ7, H7, I7, r7, q7⟩ := q7; exact ⟨x7, σ7, H7, I7.unpinned, r7, q7⟩
end
theorem for_list {K : PySem.W.Frag} {a : Addr} {xs : List V} {g : TG} {tb : TS} {D : Ends} {σ : St} {H : Hp} (Pv : Nat → St → Hp → Prop) (h0 : Pv 0 σ H) (hl : ∀ i σ H, i ≤ xs.length → Pv i σ H → SqL K H a xs)
    (hs : ∀ i x σ H, xs[i]? = some x → Pv i σ H → g x σ H fun σ2 H2 => tb { D with nx := Pv (i + 1), ct := Pv (i + 1), bk := D.nx } σ2 H2) (hd : ∀ σ H, Pv xs.length σ H → D.nx σ H) :
    ∃ W : Nat → Nat → St → Hp → Prop, (∃ m, W 0 m σ H) ∧ ∀ i m σ H, W i m σ H →
      ((Itl K a).stop i H ∧ D.nx σ H) ∨ ((Itl K a).go i H ∧ ∃ N : St → Hp → Prop, (∀ σ' H', N σ' H' → ∃ m', m' < m ∧ W (i + 1) m' σ' H') ∧ ∀ x H', (Itl K a).yld i H x H' → g x σ H' fun σ2 H2 => tb { D with nx := N, ct := N, bk := D.nx } σ2 H2) := by
  refine ⟨fun i m σ H => m = xs.length - i ∧ i ≤ xs.length ∧ Pv i σ H, ⟨xs.length, by simp, Nat.zero_le _, h0⟩, ?_⟩
  rintro i m σ H ⟨rfl, hi, p⟩
  have q := hl i σ H hi p
  by_cases hlt : i < xs.length
  · refine .inr ⟨⟨xs, xs[i], q, by simp [hlt]⟩, Pv (i + 1), fun σ' H' p' => ⟨xs.length - (i + 1), by omega, rfl, hlt, p'⟩, fun x H' y => ?_⟩
    obtain ⟨e, y⟩ := y
    subst e
    exact hs i x σ _ (y xs q) p
  · have e : i = xs.length := by omega
    subst e
    exact .inl ⟨⟨xs, q, Nat.le_refl _⟩, hd σ H p⟩
theorem for_tup {K : PySem.W.Frag} {a : Addr} {xs : List V} {g : TG} {tb : TS} {D : Ends} {σ : St} {H : Hp} (Pv : Nat → St → Hp → Prop) (h0 : Pv 0 σ H) (hl : ∀ i σ H, i ≤ xs.length → Pv i σ H → SqT K H a xs)
    (hs : ∀ i x σ H, xs[i]? = some x → Pv i σ H → g x σ H fun σ2 H2 => tb { D with nx := Pv (i + 1), ct := Pv (i + 1), bk := D.nx } σ2 H2) (hd : ∀ σ H, Pv xs.length σ H → D.nx σ H) :
    ∃ W : Nat → Nat → St → Hp → Prop, (∃ m, W 0 m σ H) ∧ ∀ i m σ H, W i m σ H →
      ((Itt K a).stop i H ∧ D.nx σ H) ∨ ((Itt K a).go i H ∧ ∃ N : St → Hp → Prop, (∀ σ' H', N σ' H' → ∃ m', m' < m ∧ W (i + 1) m' σ' H') ∧ ∀ x H', (Itt K a).yld i H x H' → g x σ H' fun σ2 H2 => tb { D with nx := N, ct := N, bk := D.nx } σ2 H2) := by
  refine ⟨fun i m σ H => m = xs.length - i ∧ i ≤ xs.length ∧ Pv i σ H, ⟨xs.length, by simp, Nat.zero_le _, h0⟩, ?_⟩
  rintro i m σ H ⟨rfl, hi, p⟩
  have q := hl i σ H hi p
  by_cases hlt : i < xs.length
  · refine .inr ⟨⟨xs, xs[i], q, by simp [hlt]⟩, Pv (i + 1), fun σ' H' p' => ⟨xs.length - (i + 1), by omega, rfl, hlt, p'⟩, fun x H' y => ?_⟩
    obtain ⟨e, y⟩ := y
    subst e
    exact hs i x σ _ (y xs q) p
  · have e : i = xs.length := by omega
    subst e
    exact .inl ⟨⟨xs, q, Nat.le_refl _⟩, hd σ H p⟩
theorem for_range {lo : Int} {n : Nat} {g : TG} {tb : TS} {D : Ends} {σ : St} {H : Hp} (Pv : Nat → St → Hp → Prop) (h0 : Pv 0 σ H)
    (hs : ∀ i σ H, i < n → Pv i σ H → g (.int (lo + i)) σ H fun σ2 H2 => tb { D with nx := Pv (i + 1), ct := Pv (i + 1), bk := D.nx } σ2 H2) (hd : ∀ σ H, Pv n σ H → D.nx σ H) :
    ∃ W : Nat → Nat → St → Hp → Prop, (∃ m, W 0 m σ H) ∧ ∀ i m σ H, W i m σ H →
      ((Itr lo n).stop i H ∧ D.nx σ H) ∨ ((Itr lo n).go i H ∧ ∃ N : St → Hp → Prop, (∀ σ' H', N σ' H' → ∃ m', m' < m ∧ W (i + 1) m' σ' H') ∧ ∀ x H', (Itr lo n).yld i H x H' → g x σ H' fun σ2 H2 => tb { D with nx := N, ct := N, bk := D.nx } σ2 H2) := by
  refine ⟨fun i m σ H => m = n - i ∧ i ≤ n ∧ Pv i σ H, ⟨n, by simp, Nat.zero_le _, h0⟩, ?_⟩
  rintro i m σ H ⟨rfl, hi, p⟩
  by_cases hlt : i < n
  · refine .inr ⟨hlt, Pv (i + 1), fun σ' H' p' => ⟨n - (i + 1), by omega, rfl, hlt, p'⟩, fun x H' y => ?_⟩
    obtain ⟨e, y⟩ := y
    subst e y
    exact hs i σ _ hlt p
  · have e : i = n := by omega
    subst e
    exact .inl ⟨Nat.le_refl _, hd σ H p⟩
theorem while_by {c : TT} {tb : TS} {D : Ends} {σ : St} {H : Hp} (Pv : St → Hp → Prop) (μ : St → Hp → Nat) (h0 : Pv σ H)
    (hs : ∀ σ H, Pv σ H → c σ H fun b H1 => if b = true then tb { D with nx := fun σ' H' => Pv σ' H' ∧ μ σ' H' < μ σ H, ct := fun σ' H' => Pv σ' H' ∧ μ σ' H' < μ σ H, bk := D.nx } σ H1 else D.nx σ H1)
    (mono : ∀ σ H Q Q', (∀ b H1, Q b H1 → Q' b H1) → c σ H Q → c σ H Q') : tWhile c tb D σ H := by
  refine ⟨fun m σ H => m = μ σ H ∧ Pv σ H, ⟨_, rfl, h0⟩, ?_⟩
  rintro m σ H ⟨rfl, p⟩
  refine mono σ H _ _ (fun b H1 q => ?_) (hs σ H p)
  cases b with
  | true => exact ⟨_, fun σ' H' ⟨p', l⟩ => ⟨_, l, rfl, p'⟩, q⟩
  | false => exact q
end L2
namespace L2
open PySem PySem.Spec PyProof.Rows
abbrev R2 := V → V → Hp → VK → Prop
def OpR (X : Cx) (f : Value → Value → Sem Value) (r : R2) : Prop :=
  ∀ (pins : List (Addr × Obj)) (s : Shared) (σ : St) (H : Hp) (x y : V) (v u : Value) (Q : VK), Inv X pins σ H s → RelV x v → RelV y u → r x y H Q →
    wpAny (model X.prog X.w) X.A (f v u) (EP X pins σ Q) X.xe s
def UnR (X : Cx) (f : Value → Sem Value) (r : V → Hp → VK → Prop) : Prop :=
  ∀ (pins : List (Addr × Obj)) (s : Shared) (σ : St) (H : Hp) (x : V) (v : Value) (Q : VK), Inv X pins σ H s → RelV x v → r x H Q →
    wpAny (model X.prog X.w) X.A (f v) (EP X pins σ Q) X.xe s
def CallR (X : Cx) (f : Value) (r : List V → Hp → VK → Prop) : Prop :=
  ∀ (pins : List (Addr × Obj)) (s : Shared) (σ : St) (H : Hp) (xs : List V) (us : List Value) (Q : VK), Inv X pins σ H s → Vals xs us → r xs H Q →
    wpAny (model X.prog X.w) X.A (call f us) (EP X pins σ Q) X.xe s
def TruR (X : Cx) (r : V → Hp → (Bool → Hp → Prop) → Prop) : Prop :=
  ∀ (pins : List (Addr × Obj)) (s : Shared) (σ : St) (H : Hp) (x : V) (v : Value) (Q : Bool → Hp → Prop), Inv X pins σ H s → RelV x v → r x H Q →
    wpAny (model X.prog X.w) X.A (truthy v) (TP X pins σ Q) X.xe s
def tOp (r : R2) (ta tb : TE) : TE := fun σ H Q => ta σ H fun x H1 => tb σ H1 fun y H2 => r x y H2 Q
def tUn (r : V → Hp → VK → Prop) (ta : TE) : TE := fun σ H Q => ta σ H fun x H1 => r x H1 Q
def rI (C : Int → Int → Prop) (g : Int → Int → V) : R2 := fun x y H Q => ∃ i j, x = .int i ∧ y = .int j ∧ C i j ∧ Q (g i j) H
def rI0 (g : Int → Int → V) : R2 := fun x y H Q => ∃ i j, x = .int i ∧ y = .int j ∧ Q (g i j) H
def rU (g : Int → V) : V → Hp → VK → Prop := fun x H Q => ∃ i, x = .int i ∧ Q (g i) H
section
variable {X : Cx} {a b c : Expr} {ta tb tc : TE} {pos : Pos}
theorem binT (ha : PE X a ta) (hb : PE X b tb) {pins : List (Addr × Obj)} {s : Shared} {σ : St} {H : Hp} {R : V → V → Hp → Prop} (I : Inv X pins σ H s)
    (h : ta σ H fun x H1 => tb σ H1 fun y H2 => R x y H2) {Q : Value → Shared → Prop} {f : Value → Value → Sem Value}
    (hf : ∀ v u s2 x y H2, Inv X pins σ H2 s2 → RelV x v → RelV y u → R x y H2 → wpAny (model X.prog X.w) X.A (f v u) Q X.xe s2) :
    wpAny (model X.prog X.w) X.A (eval a X.env) (fun v s₁ => wpAny (model X.prog X.w) X.A (eval b X.env) (fun u s₂ => wpAny (model X.prog X.w) X.A (f v u) Q X.xe s₂) X.xe s₁) X.xe s := by
  refine thn (ha pins s σ H _ I h) fun v s1 ⟨x, H1, I1, r1, q1⟩ => ?_
  refine thn (hb pins s1 σ H1 _ I1 q1) fun u s2 ⟨y, H2, I2, r2, q2⟩ => ?_
  exact hf v u s2 x y H2 I2 r1 r2 q2
theorem pe_op {op : Operator} {r : R2} (ho : OpR X (binaryOp op) r) (ha : PE X a ta) (hb : PE X b tb) : PE X (.BinOp a op b pos) (tOp r ta tb) := by
  intro pins s σ H Q I h
  exact wpAny_BinOp (binT ha hb I h fun v u s2 x y H2 I2 rx ry q => ho pins s2 σ H2 x y v u Q I2 rx ry q)
theorem pe_un {op : UnaryOp} {r : V → Hp → VK → Prop} (ho : UnR X (unaryOp op) r) (ha : PE X a ta) : PE X (.UnaryOp op a pos) (tUn r ta) := by
  intro pins s σ H Q I h
  exact UnaryOp_ (thn (ha pins s σ H _ I h) fun v s1 ⟨x, H1, I1, r1, q1⟩ => ho pins s1 σ H1 x v Q I1 r1 q1)
theorem augR {op : Operator} {r : R2} (ho : OpR X (inplaceOp op) r) {pins : List (Addr × Obj)} {s : Shared} {σ : St} {H : Hp} {x y : V} {v u : Value} {Q : VK} (I : Inv X pins σ H s)
    (rx : RelV x v) (ry : RelV y u) (q : r x y H Q) : wpAny (model X.prog X.w) X.A (inplaceOp op v u) (EP X pins σ Q) X.xe s := ho pins s σ H x y v u Q I rx ry q
theorem opI {f : Value → Value → Sem Value} {C : Int → Int → Prop} {g : Int → Int → Int}
    (rule : ∀ (i j : Int) (t u : Tok) (s : Shared) (Q : Value → Shared → Prop) (E : Value → Shared → Prop), C i j → Q (.int (g i j) s.toks) { s with toks := s.toks + 1 } → wpAny (model X.prog X.w) X.A (f (.int i t) (.int j u)) Q E s) :
    OpR X f (rI C fun i j => .int (g i j)) := by
  intro pins s σ H x y v u Q I rx ry h
  obtain ⟨i, j, rfl, rfl, hc, q⟩ := h
  obtain ⟨t, rfl⟩ := rx
  obtain ⟨t', rfl⟩ := ry
  exact rule i j t t' s _ _ hc ⟨.int (g i j), H, I.tok _, ⟨_, rfl⟩, q⟩
theorem opI0 {f : Value → Value → Sem Value} {g : Int → Int → Int}
    (rule : ∀ (i j : Int) (t u : Tok) (s : Shared) (Q : Value → Shared → Prop) (E : Value → Shared → Prop), Q (.int (g i j) s.toks) { s with toks := s.toks + 1 } → wpAny (model X.prog X.w) X.A (f (.int i t) (.int j u)) Q E s) :
    OpR X f (rI0 fun i j => .int (g i j)) := by
  intro pins s σ H x y v u Q I rx ry h
  obtain ⟨i, j, rfl, rfl, q⟩ := h
  obtain ⟨t, rfl⟩ := rx
  obtain ⟨t', rfl⟩ := ry
  exact rule i j t t' s _ _ ⟨.int (g i j), H, I.tok _, ⟨_, rfl⟩, q⟩
theorem opB0 {f : Value → Value → Sem Value} {g : Int → Int → Bool}
    (rule : ∀ (i j : Int) (t u : Tok) (s : Shared) (Q : Value → Shared → Prop) (E : Value → Shared → Prop), Q (.bool (g i j)) s → wpAny (model X.prog X.w) X.A (f (.int i t) (.int j u)) Q E s) :
    OpR X f (rI0 fun i j => .bl (g i j)) := by
  intro pins s σ H x y v u Q I rx ry h
  obtain ⟨i, j, rfl, rfl, q⟩ := h
  obtain ⟨t, rfl⟩ := rx
  obtain ⟨t', rfl⟩ := ry
  exact rule i j t t' s _ _ ⟨.bl (g i j), H, I, rfl, q⟩
def CDiv (i j : Int) : Prop := 0 < j ∧ j < 1073741824
def CDivN (i j : Int) : Prop := j ≠ 0 ∧ j.natAbs < 1073741824
def CPow (i j : Int) : Prop := 0 ≤ j ∧ j ≤ 1000000 ∧ i.natAbs < 2 ^ 64
def CMul (i j : Int) : Prop := (-(2 ^ 64) < i ∧ i < 2 ^ 64) ∨ (-(2 ^ 64) < j ∧ j < 2 ^ 64)
theorem CMul.ok {i j : Int} (h : CMul i j) : IntMulOk i j := by
  rcases h with ⟨h1, h2⟩ | ⟨h1, h2⟩
  · exact .of_left (intBits_le_64 h1 h2)
  · exact .of_right (intBits_le_64 h1 h2)
theorem two_pow_nn (k : Nat) : (0 : Int) ≤ 2 ^ k := by
  rw [two_pow_cast]
  exact Int.natCast_nonneg _
theorem op_add : OpR X (binaryOp .Add) (rI0 fun i j => .int (i + j)) := opI0 fun _ _ _ _ _ _ _ q => add_int q
theorem op_sub : OpR X (binaryOp .Sub) (rI0 fun i j => .int (i - j)) := opI0 fun _ _ _ _ _ _ _ q => sub_int q
theorem op_mul : OpR X (binaryOp .Mult) (rI CMul fun i j => .int (i * j)) := opI fun _ _ _ _ _ _ _ hc q => mul_int q hc.ok
theorem op_fdiv : OpR X (binaryOp .FloorDiv) (rI CDiv fun i j => .int (i / j)) := opI fun i j _ _ _ _ _ hc q => by
  have h1 : (0 : Int) < j := hc.1
  have h2 : j < 1073741824 := hc.2
  exact floordiv_int (by omega) (by rw [Int.fdiv_eq_ediv_of_nonneg i (by omega)]; exact q) (.inl (PyProof.noPylong_small (by omega)))
theorem op_fdivN : OpR X (binaryOp .FloorDiv) (rI CDivN fun i j => .int (i.fdiv j)) := opI fun _ _ _ _ _ _ _ hc q => floordiv_int hc.1 q (.inl (PyProof.noPylong_small hc.2))
theorem op_mod : OpR X (binaryOp .Mod) (rI (fun _ j => 0 < j) fun i j => .int (i % j)) := opI fun i j _ _ _ _ _ hc q => by
  have h1 : (0 : Int) < j := hc
  exact mod_int' (by omega) (by rw [Int.fmod_eq_emod_of_nonneg i (by omega)]; exact q)
theorem op_modN : OpR X (binaryOp .Mod) (rI (fun _ j => j ≠ 0) fun i j => .int (i.fmod j)) := opI fun _ _ _ _ _ _ _ hc q => mod_int' hc q
theorem op_pow : OpR X (binaryOp .Pow) (rI CPow fun i j => .int (i ^ j.toNat)) := opI fun _ _ _ _ _ _ _ hc q => pow_int_small hc.1 hc.2.1 hc.2.2 q
theorem op_shl : OpR X (binaryOp .LShift) (rI CPow fun i j => .int (i * 2 ^ j.toNat)) := opI fun _ _ _ _ _ _ _ hc q => lshift_int_small hc.1 hc.2.1 hc.2.2 q
theorem op_shr : OpR X (binaryOp .RShift) (rI (fun _ j => 0 ≤ j) fun i j => .int (i / 2 ^ j.toNat)) := opI fun i j _ _ _ _ _ hc q =>
  rshift_int hc (by rw [Int.fdiv_eq_ediv_of_nonneg i (two_pow_nn _)]; exact q)
theorem op_and : OpR X (binaryOp .BitAnd) (rI0 fun i j => .int (Builtin.bitAnd i j)) := opI0 fun _ _ _ _ _ _ _ q => and_int q
theorem op_or : OpR X (binaryOp .BitOr) (rI0 fun i j => .int (Builtin.bitOr i j)) := opI0 fun _ _ _ _ _ _ _ q => or_int q
theorem op_xor : OpR X (binaryOp .BitXor) (rI0 fun i j => .int (Builtin.bitXor i j)) := opI0 fun _ _ _ _ _ _ _ q => xor_int q
theorem iop_add : OpR X (inplaceOp .Add) (rI0 fun i j => .int (i + j)) := opI0 fun _ _ _ _ _ _ _ q => iadd_int q
theorem iop_sub : OpR X (inplaceOp .Sub) (rI0 fun i j => .int (i - j)) := opI0 fun _ _ _ _ _ _ _ q => isub_int q
theorem iop_mul : OpR X (inplaceOp .Mult) (rI CMul fun i j => .int (i * j)) := opI fun _ _ _ _ _ _ _ hc q => imul_int q hc.ok
theorem iop_fdiv : OpR X (inplaceOp .FloorDiv) (rI CDiv fun i j => .int (i / j)) := opI fun i j _ _ _ _ _ hc q => by
  have h1 : (0 : Int) < j := hc.1
  have h2 : j < 1073741824 := hc.2
  exact ifloordiv_int (by omega) (by rw [Int.fdiv_eq_ediv_of_nonneg i (by omega)]; exact q) (.inl (PyProof.noPylong_small (by omega)))
theorem iop_mod : OpR X (inplaceOp .Mod) (rI (fun _ j => 0 < j) fun i j => .int (i % j)) := opI fun i j _ _ _ _ _ hc q => by
  have h1 : (0 : Int) < j := hc
  exact imod_int (by omega) (by rw [Int.fmod_eq_emod_of_nonneg i (by omega)]; exact q)
theorem iop_shl : OpR X (inplaceOp .LShift) (rI CPow fun i j => .int (i * 2 ^ j.toNat)) := opI fun _ _ _ _ _ _ _ hc q => ilshift_int_small hc.1 hc.2.1 hc.2.2 q
theorem iop_shr : OpR X (inplaceOp .RShift) (rI (fun _ j => 0 ≤ j) fun i j => .int (i / 2 ^ j.toNat)) := opI fun i j _ _ _ _ _ hc q =>
  irshift_int hc (by rw [Int.fdiv_eq_ediv_of_nonneg i (two_pow_nn _)]; exact q)
theorem iop_and : OpR X (inplaceOp .BitAnd) (rI0 fun i j => .int (Builtin.bitAnd i j)) := opI0 fun _ _ _ _ _ _ _ q => iand_int q
theorem iop_or : OpR X (inplaceOp .BitOr) (rI0 fun i j => .int (Builtin.bitOr i j)) := opI0 fun _ _ _ _ _ _ _ q => ior_int q
theorem iop_xor : OpR X (inplaceOp .BitXor) (rI0 fun i j => .int (Builtin.bitXor i j)) := opI0 fun _ _ _ _ _ _ _ q => ixor_int q
theorem unI {f : Value → Sem Value} {g : Int → Int}
    (rule : ∀ (i : Int) (t : Tok) (s : Shared) (Q : Value → Shared → Prop) (E : Value → Shared → Prop), Q (.int (g i) s.toks) { s with toks := s.toks + 1 } → wpAny (model X.prog X.w) X.A (f (.int i t)) Q E s) :
    UnR X f (rU fun i => .int (g i)) := by
  intro pins s σ H x v Q I rx h
  obtain ⟨i, rfl, q⟩ := h
  obtain ⟨t, rfl⟩ := rx
  exact rule i t s _ _ ⟨.int (g i), H, I.tok _, ⟨_, rfl⟩, q⟩
theorem un_neg : UnR X (unaryOp .USub) (rU fun i => .int (-i)) := unI fun _ _ _ _ _ q => neg_int q
theorem un_inv : UnR X (unaryOp .Invert) (rU fun i => .int (Builtin.bitNot i)) := unI fun _ _ _ _ _ q => invert_int q
theorem op_add_ib : OpR X (binaryOp .Add) (fun x y H Q => ∃ i k, x = .int i ∧ y = .bl k ∧ Q (.int (i + b2i k)) H) := by
  intro pins s σ H x y v u Q I rx ry h
  obtain ⟨i, k, rfl, rfl, q⟩ := h
  obtain ⟨t, rfl⟩ := rx
  cases ry
  exact add_int_bool ⟨.int (i + b2i k), H, I.tok _, ⟨_, rfl⟩, q⟩
end
def scal : V → V → Bool
  | .non, .non => true | .non, .int _ => true | .int _, .non => true | .non, .bl _ => true | .bl _, .non => true | .non, .str _ => true | .str _, .non => true
  | .int _, .int _ => true | .bl _, .bl _ => true | .str _, .str _ => true | .byt _, .byt _ => true
  | .int _, .str _ => true | .str _, .int _ => true | .bl _, .str _ => true | .str _, .bl _ => true
  | _, _ => false
def rEq : R2 := fun x y H Q => scal x y = true ∧ Q (.bl (decide (x = y))) H
def rNe : R2 := fun x y H Q => scal x y = true ∧ Q (.bl (!decide (x = y))) H
theorem dec_int {i j : Int} : decide (V.int i = V.int j) = (i == j) := by
  rw [Bool.eq_iff_iff]
  simp
theorem dec_bl {i j : Bool} : decide (V.bl i = V.bl j) = (i == j) := by
  rw [Bool.eq_iff_iff]
  simp
theorem dec_str {i j : Str} : decide (V.str i = V.str j) = (i == j) := by
  rw [Bool.eq_iff_iff]
  simp
theorem dec_byt {i j : Array UInt8} : decide (V.byt i = V.byt j) = (i.toList == j.toList) := by
  rw [Bool.eq_iff_iff]
  cases i
  cases j
  simp
section
variable {X : Cx} {a b c : Expr} {ta tb tc : TE} {pos : Pos}
theorem fin_bl {pins : List (Addr × Obj)} {σ : St} {H : Hp} {s : Shared} {Q : VK} {k k' : Bool} (I : Inv X pins σ H s) (q : Q (.bl k) H) (e : k = k') : EP X pins σ Q (.bool k') s := by
  subst e
  exact ⟨.bl k, H, I, rfl, q⟩
theorem op_eq : OpR X (compareOp .Eq) rEq := by
  intro pins s σ H x y v u Q I rx ry h
  obtain ⟨hs, q⟩ := h
  cases x with
  | non =>
    cases rx
    cases y with
    | non => cases ry; exact PySem.EqNone.eq_none_none (fin_bl I q (by simp))
    | bl j => cases ry; exact PySem.EqNone.eq_none_bool (fin_bl I q (by simp))
    | int j => obtain ⟨t', rfl⟩ := ry; exact PySem.EqNone.eq_none_int (fin_bl I q (by simp))
    | str j => obtain ⟨t', rfl⟩ := ry; exact PySem.EqNone.eq_none_str (fin_bl I q (by simp))
    | _ => exact absurd (show false = true from hs) Bool.false_ne_true
  | bl i =>
    cases rx
    cases y with
    | non => cases ry; exact PySem.EqNone.eq_bool_none (fin_bl I q (by simp))
    | bl j => cases ry; exact eq_bool (fin_bl I q dec_bl)
    | str j => obtain ⟨t', rfl⟩ := ry; exact PySem.EqMixed.eq_bool_str (fin_bl I q (by simp))
    | _ => exact absurd (show false = true from hs) Bool.false_ne_true
  | int i =>
    obtain ⟨t, rfl⟩ := rx
    cases y with
    | non => cases ry; exact PySem.EqNone.eq_int_none (fin_bl I q (by simp))
    | int j => obtain ⟨t', rfl⟩ := ry; exact eq_int (fin_bl I q dec_int)
    | str j => obtain ⟨t', rfl⟩ := ry; exact PySem.EqMixed.eq_int_str (fin_bl I q (by simp))
    | _ => exact absurd (show false = true from hs) Bool.false_ne_true
  | str i =>
    obtain ⟨t, rfl⟩ := rx
    cases y with
    | non => cases ry; exact PySem.EqNone.eq_str_none (fin_bl I q (by simp))
    | bl j => cases ry; exact PySem.EqMixed.eq_str_bool (fin_bl I q (by simp))
    | int j => obtain ⟨t', rfl⟩ := ry; exact PySem.EqMixed.eq_str_int (fin_bl I q (by simp))
    | str j => obtain ⟨t', rfl⟩ := ry; exact eq_str (fin_bl I q dec_str)
    | _ => exact absurd (show false = true from hs) Bool.false_ne_true
  | byt i =>
    obtain ⟨t, rfl⟩ := rx
    cases y with
    | byt j => obtain ⟨t', rfl⟩ := ry; exact PySem.W.eq_bytes (fin_bl I q dec_byt)
    | _ => exact absurd (show false = true from hs) Bool.false_ne_true
  | _ => cases y <;> exact absurd (show false = true from hs) Bool.false_ne_true
theorem op_ne : OpR X (compareOp .NotEq) rNe := by
  intro pins s σ H x y v u Q I rx ry h
  obtain ⟨hs, q⟩ := h
  cases x with
  | non =>
    cases rx
    cases y with
    | non => cases ry; exact PySem.EqNone.ne_none_none (fin_bl I q (by simp))
    | bl j => cases ry; exact PySem.EqNone.ne_none_bool (fin_bl I q (by simp))
    | int j => obtain ⟨t', rfl⟩ := ry; exact PySem.EqNone.ne_none_int (fin_bl I q (by simp))
    | str j => obtain ⟨t', rfl⟩ := ry; exact PySem.EqNone.ne_none_str (fin_bl I q (by simp))
    | _ => exact absurd (show false = true from hs) Bool.false_ne_true
  | bl i =>
    cases rx
    cases y with
    | non => cases ry; exact PySem.EqNone.ne_bool_none (fin_bl I q (by simp))
    | bl j => cases ry; exact ne_bool (fin_bl I q (congrArg not dec_bl))
    | str j => obtain ⟨t', rfl⟩ := ry; exact PySem.EqMixed.ne_bool_str (fin_bl I q (by simp))
    | _ => exact absurd (show false = true from hs) Bool.false_ne_true
  | int i =>
    obtain ⟨t, rfl⟩ := rx
    cases y with
    | non => cases ry; exact PySem.EqNone.ne_int_none (fin_bl I q (by simp))
    | int j => obtain ⟨t', rfl⟩ := ry; exact ne_int (fin_bl I q (congrArg not dec_int))
    | str j => obtain ⟨t', rfl⟩ := ry; exact PySem.EqMixed.ne_int_str (fin_bl I q (by simp))
    | _ => exact absurd (show false = true from hs) Bool.false_ne_true
  | str i =>
    obtain ⟨t, rfl⟩ := rx
    cases y with
    | non => cases ry; exact PySem.EqNone.ne_str_none (fin_bl I q (by simp))
    | bl j => cases ry; exact PySem.EqMixed.ne_str_bool (fin_bl I q (by simp))
    | int j => obtain ⟨t', rfl⟩ := ry; exact PySem.EqMixed.ne_str_int (fin_bl I q (by simp))
    | str j => obtain ⟨t', rfl⟩ := ry; exact ne_str (fin_bl I q (congrArg not dec_str))
    | _ => exact absurd (show false = true from hs) Bool.false_ne_true
  | byt i =>
    obtain ⟨t, rfl⟩ := rx
    cases y with
    | byt j => obtain ⟨t', rfl⟩ := ry; exact PySem.W.ne_bytes (fin_bl I q (congrArg not dec_byt))
    | _ => exact absurd (show false = true from hs) Bool.false_ne_true
  | _ => cases y <;> exact absurd (show false = true from hs) Bool.false_ne_true
theorem op_lt : OpR X (compareOp .Lt) (rI0 fun i j => .bl (decide (i < j))) := opB0 fun _ _ _ _ _ _ _ q => lt_int q
theorem op_le : OpR X (compareOp .LtE) (rI0 fun i j => .bl (decide (i ≤ j))) := opB0 fun _ _ _ _ _ _ _ q => le_int q
theorem op_gt : OpR X (compareOp .Gt) (rI0 fun i j => .bl (decide (j < i))) := opB0 fun _ _ _ _ _ _ _ q => gt_int q
theorem op_ge : OpR X (compareOp .GtE) (rI0 fun i j => .bl (decide (j ≤ i))) := opB0 fun _ _ _ _ _ _ _ q => ge_int q
theorem op_lt_str : OpR X (compareOp .Lt) (fun x y H Q => ∃ i j, x = .str i ∧ y = .str j ∧ Q (.bl (decide (i.cps.toList < j.cps.toList))) H) := by
  intro pins s σ H x y v u Q I rx ry h
  obtain ⟨i, j, rfl, rfl, q⟩ := h
  obtain ⟨t, rfl⟩ := rx
  obtain ⟨t', rfl⟩ := ry
  exact lt_str (fin_bl I q rfl)
theorem op_in_str : OpR X (compareOp .In) (fun x y H Q => ∃ i j, x = .str i ∧ y = .str j ∧ Q (.bl (!(Builtin.Str.occurrences j i 0 j.length 1).isEmpty)) H) := by
  intro pins s σ H x y v u Q I rx ry h
  obtain ⟨i, j, rfl, rfl, q⟩ := h
  obtain ⟨t, rfl⟩ := rx
  obtain ⟨t', rfl⟩ := ry
  exact in_str (fin_bl I q rfl)
theorem op_isN : OpR X (compareOp .Is) (fun x y H Q => y = .non ∧ Q (.bl (decide (x = .non))) H) := by
  intro pins s σ H x y v u Q I rx ry h
  obtain ⟨rfl, q⟩ := h
  cases ry
  refine is_none_gen (fin_bl I q ?_)
  cases x <;> first
    | (cases rx; rfl)
    | (obtain ⟨t, rfl⟩ := rx; rfl)
theorem op_notN : OpR X (compareOp .IsNot) (fun x y H Q => y = .non ∧ Q (.bl (!decide (x = .non))) H) := by
  intro pins s σ H x y v u Q I rx ry h
  obtain ⟨rfl, q⟩ := h
  cases ry
  refine isnot_none_gen (fin_bl I q ?_)
  cases x <;> first
    | (cases rx; rfl)
    | (obtain ⟨t, rfl⟩ := rx; rfl)
theorem op_notin_str : OpR X (compareOp .NotIn) (fun x y H Q => ∃ i j, x = .str i ∧ y = .str j ∧ Q (.bl (!(!(Builtin.Str.occurrences j i 0 j.length 1).isEmpty))) H) := by
  intro pins s σ H x y v u Q I rx ry h
  obtain ⟨i, j, rfl, rfl, q⟩ := h
  obtain ⟨t, rfl⟩ := rx
  obtain ⟨t', rfl⟩ := ry
  exact notIn_str (fin_bl I q rfl)
def isObj : HO → Bool
  | .lst _ => true
  | .ins _ _ _ => true
  | _ => false
theorem obj_there {pins : List (Addr × Obj)} {s : Shared} {σ : St} {H : Hp} {a : Addr} {o : HO} (I : Inv X pins σ H s) (h : H a = some o) (p : isObj o = true) : ∃ ob, s.heap.get? a = some ob ∧ ob.cls ≠ .type "tuple" := by
  cases o with
  | lst xs =>
    obtain ⟨_, its, n, _, e⟩ : xs.length ≤ sizeLine ∧ ∃ (its : List Value) (n : Nat), Vals xs its ∧ s.heap.get? a = some { cls := .type "list", data := .seq its.toArray n } := I.hok a _ h
    exact ⟨_, e, (by show Value.type "list" ≠ .type "tuple"; decide +kernel)⟩
  | ins C dx fs =>
    have x := I.hok a _ h
    obtain ⟨_, _, _, e, _⟩ := x
    exact ⟨_, e, (by show Value.ref C ≠ .type "tuple"; exact fun z => by cases z)⟩
  | _ => exact absurd (show false = true from p) Bool.false_ne_true
theorem op_is_ref : OpR X (compareOp .Is) (fun x y H Q => ∃ a b oa ob, x = .ref a ∧ y = .ref b ∧ H a = some oa ∧ isObj oa = true ∧ H b = some ob ∧ isObj ob = true ∧ Q (.bl (decide (a = b))) H) := by
  intro pins s σ H x y v u Q I rx ry h
  obtain ⟨a, b, oa, ob, rfl, rfl, ha, pa, hb, pb, q⟩ := h
  cases rx
  cases ry
  obtain ⟨o1, e1, n1⟩ := obj_there I ha pa
  obtain ⟨o2, e2, _⟩ := obj_there I hb pb
  by_cases z : a = b
  · subst z
    exact wpAny_is_ref_self (fin_bl I q (by simp))
  · exact wpAny_is_ref_other z e1 e2 n1 (fin_bl I q (by simp [z]))
theorem op_isnot_ref : OpR X (compareOp .IsNot) (fun x y H Q => ∃ a b oa ob, x = .ref a ∧ y = .ref b ∧ H a = some oa ∧ isObj oa = true ∧ H b = some ob ∧ isObj ob = true ∧ Q (.bl (!decide (a = b))) H) := by
  intro pins s σ H x y v u Q I rx ry h
  obtain ⟨a, b, oa, ob, rfl, rfl, ha, pa, hb, pb, q⟩ := h
  cases rx
  cases ry
  obtain ⟨o1, e1, n1⟩ := obj_there I ha pa
  obtain ⟨o2, e2, _⟩ := obj_there I hb pb
  by_cases z : a = b
  · subst z
    exact wpAny_isNot_ref_self (fin_bl I q (by simp))
  · exact wpAny_isNot_ref_other z e1 e2 n1 (fin_bl I q (by simp [z]))
theorem OpR.or {f : Value → Value → Sem Value} {r r' : R2} (h : OpR X f r) (h' : OpR X f r') : OpR X f (fun x y H Q => r x y H Q ∨ r' x y H Q) := by
  intro pins s σ H x y v u Q I rx ry q
  rcases q with q | q
  · exact h pins s σ H x y v u Q I rx ry q
  · exact h' pins s σ H x y v u Q I rx ry q
theorem nomark (b : Expr) {op : CmpOp} (h : op ≠ .In := by decide) (h2 : op ≠ .NotIn := by decide) : behindInMarks op b = false := by
  have e1 : (op == CmpOp.In) = false := by cases op <;> first | rfl | exact absurd rfl h
  have e2 : (op == CmpOp.NotIn) = false := by cases op <;> first | rfl | exact absurd rfl h2
  cases b <;> simp [behindInMarks, e1, e2]
theorem pe_cmpR {op : CmpOp} {r : R2} (ho : OpR X (compareOp op) r) (ha : PE X a ta) (hb : PE X b tb) (hm : behindInMarks op b = false) : PE X (.Compare a [op] [b] pos) (tOp r ta tb) := by
  intro pins s σ H Q I h
  exact wpAny_Compare1 (binT ha hb I h fun v u s2 x y H2 I2 rx ry q => ho pins s2 σ H2 x y v u Q I2 rx ry q) hm
def tTest (t : TE) : TT := fun σ H Q => t σ H fun x H' => ∃ k, x = .bl k ∧ Q k H'
theorem pt_cmpR {op : CmpOp} {r : R2} (ho : OpR X (compareOp op) r) (ha : PE X a ta) (hb : PE X b tb) (hm : behindInMarks op b = false) : PT X (.Compare a [op] [b] pos) (tTest (tOp r ta tb)) := by
  intro pins s σ H Q I h
  refine wpAny_isTrue_Compare1 (thn (ha pins s σ H _ I h) fun v s1 ⟨x, H1, I1, r1, q1⟩ => thn (hb pins s1 σ H1 _ I1 q1) fun u s2 ⟨y, H2, I2, r2, q2⟩ =>
    thn (ho pins s2 σ H2 x y v u _ I2 r1 r2 q2) fun c s3 ⟨z, H3, I3, r3, k, e, q3⟩ => ?_) hm
  subst e
  cases r3
  exact wpAny_truthy_bool ⟨H3, I3, q3⟩
def tChain (r r' : R2) (ta tb tc : TE) : TE := fun σ H Q => ta σ H fun x H1 => tb σ H1 fun y H2 => r x y H2 fun z H3 => ∃ k, z = .bl k ∧
  (if k = true then tc σ H3 fun w' H4 => r' y w' H4 Q else Q (.bl false) H3)
theorem pe_chain {op op' : CmpOp} {r r' : R2} (ho : OpR X (compareOp op) r) (ho' : OpR X (compareOp op') r') (ha : PE X a ta) (hb : PE X b tb) (hc : PE X c tc)
    (hm : lastMarks [op, op'] [b, c] = false := by with_unfolding_all rfl) : PE X (.Compare a [op, op'] [b, c] pos) (tChain r r' ta tb tc) := by
  intro pins s σ H Q I h
  refine Compare_chain (thn (ha pins s σ H _ I h) fun v s1 ⟨x, H1, I1, r1, q1⟩ => chain_link (thn (hb pins s1 σ H1 _ I1 q1) fun u s2 ⟨y, H2, I2, r2, q2⟩ =>
    thn (ho pins s2 σ H2 x y v u _ I2 r1 r2 q2) fun d s3 ⟨z, H3, I3, r3, k, e, q3⟩ => ?_)) hm
  subst e
  cases r3
  refine wpAny_truthy_bool ?_
  cases k with
  | false => exact ite_ff ⟨.bl false, H3, I3, rfl, q3⟩
  | true => exact ite_tt (chain_last (thn (hc pins s3 σ H3 _ I3 q3) fun w' s4 ⟨z', H4, I4, r4, q4⟩ => ho' pins s4 σ H4 y z' u w' Q I4 r2 r4 q4))
theorem pt_chain {op op' : CmpOp} {r r' : R2} (ho : OpR X (compareOp op) r) (ho' : OpR X (compareOp op') r') (ha : PE X a ta) (hb : PE X b tb) (hc : PE X c tc)
    (hm : lastMarks [op, op'] [b, c] = false := by with_unfolding_all rfl) : PT X (.Compare a [op, op'] [b, c] pos) (tTest (tChain r r' ta tb tc)) := by
  intro pins s σ H Q I h
  refine isTrue_chain (thn (ha pins s σ H _ I h) fun v s1 ⟨x, H1, I1, r1, q1⟩ => test_link (thn (hb pins s1 σ H1 _ I1 q1) fun u s2 ⟨y, H2, I2, r2, q2⟩ =>
    thn (ho pins s2 σ H2 x y v u _ I2 r1 r2 q2) fun d s3 ⟨z, H3, I3, r3, k, e, q3⟩ => ?_)) hm
  subst e
  cases r3
  refine wpAny_truthy_bool ?_
  cases k with
  | false =>
    obtain ⟨k', e', q'⟩ := q3
    cases e'
    exact ite_ff ⟨H3, I3, q'⟩
  | true =>
    refine ite_tt (test_last (thn (hc pins s3 σ H3 _ I3 q3) fun w' s4 ⟨z', H4, I4, r4, q4⟩ => thn (ho' pins s4 σ H4 y z' u w' _ I4 r2 r4 q4) fun d' s5 ⟨z2, H5, I5, r5, k2, e2, q5⟩ => ?_))
    subst e2
    cases r5
    exact wpAny_truthy_bool ⟨H5, I5, q5⟩
def TruV (K : PySem.W.Frag) (x : V) (H : Hp) (k : Bool) : Prop :=
  match x with
  | .non => k = false
  | .bl b => k = b
  | .int i => k = (i != 0)
  | .str y => y.length ≤ sizeLine ∧ k = ((y.length : Int) != 0)
  | .byt y => y.size ≤ sizeLine ∧ k = ((y.size : Int) != 0)
  | .ref p => (∃ xs, SqL K H p xs ∧ k = !xs.isEmpty) ∨ (∃ xs, SqT K H p xs ∧ k = !xs.isEmpty) ∨ ∃ kvs, H p = some (.dK kvs) ∧ k = !kvs.isEmpty
  | _ => False
theorem isEmpty_kv {κ : Type} {kvs : List (κ × V)} {vs : List (κ × Value)} (r : KV kvs vs) : (!vs.isEmpty) = !kvs.isEmpty := by
  cases r <;> rfl
theorem isEmpty_of {xs : List V} {its : List Value} (r : Vals xs its) : (!its.toArray.isEmpty) = !xs.isEmpty := by
  cases r <;> simp
theorem line63 : (sizeLine : Nat) < 2 ^ 63 := by rw [sizeLine_eq]; decide
theorem tru_ok : TruR X (fun x H Q => ∃ k, TruV X.K x H k ∧ Q k H) := by
  intro pins s σ H x v Q I rx h
  obtain ⟨k, e, q⟩ := h
  have hl := line63
  have hs : sizeLine = 16777216 := sizeLine_eq
  cases x with
  | non =>
    cases rx
    have e' : k = false := e
    subst e'
    exact truthy_none ⟨H, I, q⟩
  | bl b =>
    cases rx
    have e' : k = b := e
    subst e'
    exact wpAny_truthy_bool ⟨H, I, q⟩
  | int i =>
    obtain ⟨t, rfl⟩ := rx
    have e' : k = (i != 0) := e
    subst e'
    exact PySem.P.truthy_int ⟨H, I, q⟩
  | str y =>
    obtain ⟨t, rfl⟩ := rx
    obtain ⟨hy, e'⟩ : y.length ≤ sizeLine ∧ k = ((y.length : Int) != 0) := e
    subst e'
    exact PySem.P.truthy_str (by omega) ⟨H, I.tok _, q⟩
  | byt y =>
    obtain ⟨t, rfl⟩ := rx
    obtain ⟨hy, e'⟩ : y.size ≤ sizeLine ∧ k = ((y.size : Int) != 0) := e
    subst e'
    exact PySem.W.truthy_bytes (by omega) ⟨H, I.tok _, q⟩
  | ref p =>
    cases rx
    have e' : (∃ xs, SqL X.K H p xs ∧ k = !xs.isEmpty) ∨ (∃ xs, SqT X.K H p xs ∧ k = !xs.isEmpty) ∨ ∃ kvs, H p = some (.dK kvs) ∧ k = !kvs.isEmpty := e
    rcases e' with ⟨xs, hx, e'⟩ | ⟨xs, hx, e'⟩ | ⟨kvs, hx, e'⟩
    · subst e'
      obtain ⟨its, r, pl, hz⟩ := I.list hx
      have hlen := r.length
      exact wpAny_truthy_list pl.isList (by simp only [List.size_toArray]; omega) ⟨H, I.tok _, by rw [isEmpty_of r]; exact q⟩
    · subst e'
      obtain ⟨its, r, pl, hz⟩ := I.tuple hx
      have hlen := r.length
      exact truthy_tuple pl (by simp only [List.size_toArray]; omega) ⟨H, I.tok _, by rw [isEmpty_of r]; exact q⟩
    · subst e'
      obtain ⟨hz, hS, vs, r, m⟩ : kvs.length ≤ sizeLine ∧ (p == sysModules) = false ∧ ∃ vs, KV kvs vs ∧ s.heap.DictOf (mixKind X.prog X.w) p vs := I.hok p _ hx
      have hlen : kvs.length = vs.length := Paired.length r
      exact wpAny_truthy_dict hS m (by omega) ⟨H, I.tok _, by rw [isEmpty_kv r]; exact q⟩
  | _ => exact (show False from e).elim
theorem pt_truth (ha : PE X a ta) (he : ∀ whole, isTrue a X.env whole = (do let v ← whole; standAt a.pos; holding [v] (truthy v))) :
    PT X a (fun σ H Q => ta σ H fun x H' => ∃ k, TruV X.K x H' k ∧ Q k H') := by
  intro pins s σ H Q I h
  exact isTrue_plain (thn (ha pins s σ H _ I h) fun v s1 ⟨x, H1, I1, r1, q1⟩ => tru_ok pins s1 σ H1 x v Q I1 r1 q1) (he _)
theorem pe_byt {x : List UInt8} {k : Nat} : PE X (.Constant (.bytes x) k pos) (fun _ H Q => Q (.byt x.toArray) H) := fun _ _ _ H _ I h => PySem.W.Constant_bytes ⟨.byt x.toArray, H, I.tok _, ⟨_, rfl⟩, h⟩
theorem op_add_str : OpR X (binaryOp .Add) (fun x y H Q => ∃ i j, x = .str i ∧ y = .str j ∧ i.length + j.length ≤ sizeLine ∧ Q (.str (i ++ j)) H) := by
  intro pins s σ H x y v u Q I rx ry h
  obtain ⟨i, j, rfl, rfl, hz, q⟩ := h
  obtain ⟨t, rfl⟩ := rx
  obtain ⟨t', rfl⟩ := ry
  exact add_str (fun t' tk => ⟨.str (i ++ j), H, I.tok _, ⟨_, rfl⟩, q⟩) hz
theorem iop_add_str : OpR X (inplaceOp .Add) (fun x y H Q => ∃ i j, x = .str i ∧ y = .str j ∧ i.length + j.length ≤ sizeLine ∧ Q (.str (i ++ j)) H) := by
  intro pins s σ H x y v u Q I rx ry h
  obtain ⟨i, j, rfl, rfl, hz, q⟩ := h
  obtain ⟨t, rfl⟩ := rx
  obtain ⟨t', rfl⟩ := ry
  exact iadd_str (fun t' tk => ⟨.str (i ++ j), H, I.tok _, ⟨_, rfl⟩, q⟩) hz
theorem op_add_byt : OpR X (binaryOp .Add) (fun x y H Q => ∃ i j, x = .byt i ∧ y = .byt j ∧ i.size + j.size ≤ 16777216 ∧ Q (.byt (i ++ j)) H) := by
  intro pins s σ H x y v u Q I rx ry h
  obtain ⟨i, j, rfl, rfl, hz, q⟩ := h
  obtain ⟨t, rfl⟩ := rx
  obtain ⟨t', rfl⟩ := ry
  exact PySem.W.KBy.add_bytes hz (fun t' tk => ⟨.byt (i ++ j), H, I.tok _, ⟨_, rfl⟩, q⟩)
def PlainIxT (b : Expr) : Prop := ∀ o i, subscripted b false o i = operate [o, i] (getItem o i)
theorem pe_item_str (ha : PE X a ta) (hb : PE X b tb) (hs : PlainIxT b) :
    PE X (.Subscript a b pos) (tOp (fun x y H Q => ∃ z i c, x = .str z ∧ y = .int i ∧ 0 ≤ i ∧ i < 2 ^ 63 ∧ i < z.length ∧ z.cps[i.toNat]? = some c ∧ Q (.str ⟨#[c]⟩) H) ta tb) := by
  intro pins s σ H Q I h
  refine Subscript_ (binT ha hb I h fun v u s2 x y H2 I2 rx ry q => ?_)
  obtain ⟨z, i, c, rfl, rfl, h0, h63, h1, hc, q⟩ := q
  obtain ⟨t, rfl⟩ := rx
  obtain ⟨t', rfl⟩ := ry
  have e : seqIndex? i z.length = some i.toNat := PySem.StrLaws.seqIndex_nonneg h0 h1
  exact tail_any (typeIs_str s2 z t) slot_str_getitem.lookup (getItem_str (c := c) (by
    have e1 : decide (i < -(2 ^ 63 : Int)) = false := decide_eq_false (by omega)
    have e2 : decide (i ≥ 2 ^ 63) = false := decide_eq_false (by omega)
    rw [e1, e2] <;> rfl) (by rw [e]; exact hc) ⟨.str ⟨#[c]⟩, H2, I2.tok _, ⟨_, rfl⟩, q⟩) (hs _ _)
theorem pe_item_byt (ha : PE X a ta) (hb : PE X b tb) (hs : PlainIxT b) :
    PE X (.Subscript a b pos) (tOp (fun x y H Q => ∃ (z : List UInt8) (i : Int), x = .byt z.toArray ∧ y = .int i ∧ z.length ≤ sizeLine ∧ 0 ≤ i ∧ i < z.length ∧ Q (.int ((z.getD i.toNat 0).toNat : Nat)) H) ta tb) := by
  intro pins s σ H Q I h
  refine Subscript_ (binT ha hb I h fun v u s2 x y H2 I2 rx ry q => ?_)
  obtain ⟨z, i, rfl, rfl, hz, h0, h1, q⟩ := q
  obtain ⟨t, rfl⟩ := rx
  obtain ⟨t', rfl⟩ := ry
  have hl : sizeLine = 16777216 := sizeLine_eq
  exact tail_any (PySem.W.typeIs_bytes s2 z.toArray t) PySem.W.FB.slot_bytes_getitem.lookup (PySem.W.getItem_bytes (by omega) h0 h1 ⟨.int ((z.getD i.toNat 0).toNat : Nat), H2, I2.tok _, ⟨_, rfl⟩, q⟩) (hs _ _)
theorem vals1 {x : V} {us : List Value} (r : Vals [x] us) : ∃ u, us = [u] ∧ RelV x u := by
  cases r with
  | cons r1 r2 => cases r2; exact ⟨_, rfl, r1⟩
theorem vals2 {x y : V} {us : List Value} (r : Vals [x, y] us) : ∃ u w', us = [u, w'] ∧ RelV x u ∧ RelV y w' := by
  cases r with
  | cons r1 r2 =>
    cases r2 with
    | cons r3 r4 => cases r4; exact ⟨_, _, rfl, r1, r3⟩
theorem call_abs : CallR X (.builtin "abs") (fun xs H Q => ∃ i, xs = [.int i] ∧ Q (.int (if i < 0 then -i else i)) H) := by
  intro pins s σ H xs us Q I r h
  obtain ⟨i, rfl, q⟩ := h
  obtain ⟨u, rfl, t, rfl⟩ := vals1 r
  exact call_abs_int fun u tk => ⟨.int (if i < 0 then -i else i), H, I.tok _, ⟨_, rfl⟩, q⟩
theorem call_max2 (hc : X.calm = true) : CallR X (.builtin "max") (fun xs H Q => ∃ i j, xs = [.int i, .int j] ∧ Q (.int (if j > i then j else i)) H) := by
  intro pins s σ H xs us Q I r h
  obtain ⟨i, j, rfl, q⟩ := h
  obtain ⟨u, w', rfl, ⟨t, rfl⟩, ⟨t', rfl⟩⟩ := vals2 r
  refine max_two_ints (I.ok.hd hc) fun h' tk k => ⟨_, H, I.kept k, ?_, q⟩
  by_cases hj : j > i
  · rw [if_pos hj, if_pos hj]; exact ⟨_, rfl⟩
  · rw [if_neg hj, if_neg hj]; exact ⟨_, rfl⟩
theorem call_min2 (hc : X.calm = true) : CallR X (.builtin "min") (fun xs H Q => ∃ i j, xs = [.int i, .int j] ∧ Q (.int (if j < i then j else i)) H) := by
  intro pins s σ H xs us Q I r h
  obtain ⟨i, j, rfl, q⟩ := h
  obtain ⟨u, w', rfl, ⟨t, rfl⟩, ⟨t', rfl⟩⟩ := vals2 r
  refine min_two_ints (I.ok.hd hc) fun h' tk k => ⟨_, H, I.kept k, ?_, q⟩
  by_cases hj : j < i
  · rw [if_pos hj, if_pos hj]; exact ⟨_, rfl⟩
  · rw [if_neg hj, if_neg hj]; exact ⟨_, rfl⟩
theorem call_int1 : CallR X (.type "int") (fun xs H Q => (∃ i, xs = [.int i] ∧ Q (.int i) H) ∨ ∃ k, xs = [.bl k] ∧ Q (.int (if k then 1 else 0)) H) := by
  intro pins s σ H xs us Q I r h
  rcases h with ⟨i, rfl, q⟩ | ⟨k, rfl, q⟩
  · obtain ⟨u, rfl, t, rfl⟩ := vals1 r
    exact call_int_int ⟨.int i, H, I, ⟨_, rfl⟩, q⟩
  · obtain ⟨u, rfl, r1⟩ := vals1 r
    cases r1
    exact call_int_bool ⟨.int (if k then 1 else 0), H, I.tok _, ⟨_, rfl⟩, q⟩
theorem call_bool1 : CallR X (.type "bool") (fun xs H Q => (∃ i, xs = [.int i] ∧ Q (.bl (i != 0)) H) ∨ ∃ k, xs = [.bl k] ∧ Q (.bl k) H) := by
  intro pins s σ H xs us Q I r h
  rcases h with ⟨i, rfl, q⟩ | ⟨k, rfl, q⟩
  · obtain ⟨u, rfl, t, rfl⟩ := vals1 r
    exact call_bool_int ⟨.bl (i != 0), H, I, rfl, q⟩
  · obtain ⟨u, rfl, r1⟩ := vals1 r
    cases r1
    exact call_bool_bool ⟨.bl k, H, I, rfl, q⟩
theorem call_str_int : CallR X (.type "str") (fun xs H Q => ∃ i, xs = [.int i] ∧ i.natAbs.log2 < 1920 ∧ Q (.str (toString i)) H) := by
  intro pins s σ H xs us Q I r h
  obtain ⟨i, rfl, hz, q⟩ := h
  obtain ⟨u, rfl, t, rfl⟩ := vals1 r
  exact PySem.P.str_of_int hz ⟨.str _, H, I.tok _, ⟨_, rfl⟩, q⟩
theorem call_ord : CallR X (.builtin "ord") (fun xs H Q => ∃ x, xs = [.str x] ∧ x.length = 1 ∧ Q (.int (x.cps.getD 0 0 : Nat)) H) := by
  intro pins s σ H xs us Q I r h
  obtain ⟨x, rfl, hz, q⟩ := h
  obtain ⟨u, rfl, t, rfl⟩ := vals1 r
  exact ord_of_one hz ⟨.int _, H, I.tok _, ⟨_, rfl⟩, q⟩
theorem call_chr : CallR X (.builtin "chr") (fun xs H Q => ∃ i, xs = [.int i] ∧ 0 ≤ i ∧ i ≤ 1114111 ∧ Q (.str ⟨#[i.toNat]⟩) H) := by
  intro pins s σ H xs us Q I r h
  obtain ⟨i, rfl, h0, h1, q⟩ := h
  obtain ⟨u, rfl, t, rfl⟩ := vals1 r
  exact chr_of_range h0 h1 ⟨.str _, H, I.tok _, ⟨_, rfl⟩, q⟩
def LenV (K : PySem.W.Frag) (x : V) (H : Hp) (n : Nat) : Prop :=
  match x with
  | .str y => y.length ≤ sizeLine ∧ n = y.length
  | .byt y => y.size ≤ sizeLine ∧ n = y.size
  | .ref p => (∃ xs, SqL K H p xs ∧ n = xs.length) ∨ ∃ xs, SqT K H p xs ∧ n = xs.length
  | _ => False
theorem call_len : CallR X (.builtin "len") (fun xs H Q => ∃ x n, xs = [x] ∧ LenV X.K x H n ∧ Q (.int n) H) := by
  intro pins s σ H xs us Q I r h
  obtain ⟨x, n, rfl, e, q⟩ := h
  obtain ⟨u, rfl, rx⟩ := vals1 r
  have hl := line63
  have hs : sizeLine = 16777216 := sizeLine_eq
  cases x with
  | str y =>
    obtain ⟨t, rfl⟩ := rx
    obtain ⟨hy, e'⟩ : y.length ≤ sizeLine ∧ n = y.length := e
    subst e'
    exact len_str (by omega) ⟨.int _, H, I.tok _, ⟨_, rfl⟩, q⟩
  | byt y =>
    obtain ⟨t, rfl⟩ := rx
    obtain ⟨hy, e'⟩ : y.size ≤ sizeLine ∧ n = y.size := e
    subst e'
    exact PySem.W.len_bytes (by omega) ⟨.int _, H, I.tok _, ⟨_, rfl⟩, q⟩
  | ref p =>
    cases rx
    have e' : (∃ xs, SqL X.K H p xs ∧ n = xs.length) ∨ ∃ xs, SqT X.K H p xs ∧ n = xs.length := e
    rcases e' with ⟨xs, hx, e'⟩ | ⟨xs, hx, e'⟩
    · subst e'
      obtain ⟨its, r', pl, hz⟩ := I.list hx
      have hlen := r'.length
      exact Calls.call_len_list pl.isList (by simp only [List.size_toArray]; omega) ⟨.int xs.length, H, I.tok _, ⟨_, by simp only [List.size_toArray]; rw [hlen]⟩, q⟩
    · subst e'
      obtain ⟨its, r', pl, hz⟩ := I.tuple hx
      have hlen := r'.length
      exact len_tuple pl (by simp only [List.size_toArray]; omega) ⟨.int xs.length, H, I.tok _, ⟨_, by simp only [List.size_toArray]; rw [hlen]⟩, q⟩
  | _ => exact (show False from e).elim
theorem call_divmod : CallR X (.builtin "divmod") (fun xs H Q => ∃ i j, xs = [.int i, .int j] ∧ CDiv i j ∧ ∀ p, H p = none → Q (.ref p) (upd H p (.tup [.int (i / j), .int (i % j)]))) := by
  intro pins s σ H xs us Q I r h
  obtain ⟨i, j, rfl, ⟨h1, h2⟩, q⟩ := h
  obtain ⟨u, w', rfl, ⟨t, rfl⟩, ⟨t', rfl⟩⟩ := vals2 r
  refine divmod_int (by omega) ?_ (.inl (PyProof.noPylong_small (by omega)))
  rw [Int.fdiv_eq_ediv_of_nonneg i (by omega), Int.fmod_eq_emod_of_nonneg i (by omega)]
  have hn : H s.heap.objs.size = none := I.hok.fresh (Nat.le_refl _)
  refine ⟨.ref s.heap.objs.size, _, ?_, rfl, q _ hn⟩
  refine I.laid (fun b o e => Heap.get?_push_of_some _ e) (Nat.le_refl _) ⟨by simp only [List.length_cons, List.length_nil]; rw [sizeLine_eq]; decide, [.int (i / j) s.toks, .int (i % j) (s.toks + 1)], .cons ⟨_, rfl⟩ (.cons ⟨_, rfl⟩ .nil), ?_⟩
  exact ⟨_, Heap.get?_push_size s.heap rfl, rfl, 0, rfl⟩
end
end L2
namespace L2
open PySem PySem.Spec PyProof.Rows
structure ObjM (h : Heap) (x dx C : Addr) (mA : Str → Option Value) : Prop where
  obj : h.get? x = some (PySem.W.instObj C dx)
  ns : h.Ns1 dx mA
  ne : dx ≠ x
theorem lookIn_ns {h : Heap} {dx : Addr} {mA : Str → Option Value} (n : h.Ns1 dx mA) : ∃ od, h.get? dx = some od ∧ ∀ name, PySem.W.lookIn name od = some (mA name) := by
  obtain ⟨o, es, ep, ho, hd, hk, _, hm⟩ := n
  refine ⟨o, ho, fun name => ?_⟩
  have e := hm name
  unfold nsFind findBy at e
  rw [← Array.find?_toList] at e
  unfold PySem.W.lookIn
  rw [hd]
  dsimp only
  split
  · rename_i y q
    rw [q] at e
    exact congrArg some e
  · rename_i q
    rw [q] at e
    have a : es.toList.any (·.refKey) = false := by
      rw [List.any_eq_false]
      intro y hy
      obtain ⟨z, t, hkey⟩ := hk y (Array.mem_toList_iff.mp hy)
      simp [DictEntry.refKey, hkey]
    have a' : ¬ es.toList.any (·.refKey) = true := by rw [a]; exact Bool.false_ne_true
    rw [if_neg a']
    exact congrArg some e
theorem ObjM.look {h : Heap} {x dx C : Addr} {mA : Str → Option Value} (I : ObjM h x dx C mA) : ∃ od, PySem.W.InstAt h x (PySem.W.instObj C dx) C (some od) ∧ ∀ name, PySem.W.lookIn name od = some (mA name) :=
  let ⟨od, ho, hl⟩ := lookIn_ns I.ns
  ⟨od, ⟨I.obj, rfl, rfl, ho⟩, hl⟩
section
variable {prog : Program} {w : World} {A : Around} {E : Value → Shared → Prop} {s : Shared} {K : PySem.W.Frag} {x dx C f : Addr} {mA : Str → Option Value} {name : Str} {v : Value}
theorem get_map {expr : Bool} {Q : Value → Shared → Prop} (X : K.In s.heap) (I : ObjM s.heap x dx C mA) (hg : PySem.W.plainGet K C name = true) (hh : PySem.W.hasDictIn K C = true)
    (ha : PySem.W.findIn K (.ref C) name = some none) (hv : mA name = some v) (hv' : PySem.W.handedIn v = true) (h : Q v { s with toks := s.toks + 1 }) :
    wpAny (model prog w) A (getAttr (.ref x) name expr) Q E s := by
  obtain ⟨od, J, hl⟩ := I.look
  exact PySem.W.get_value X J (PySem.W.plainGet_of hg).1 (PySem.W.findObj_own hh ha rfl (by rw [hl, hv])) hv' h
theorem get_const {expr : Bool} {a : Value} {Q : Value → Shared → Prop} (X : K.In s.heap) (I : ObjM s.heap x dx C mA) (hg : PySem.W.plainGet K C name = true) (hh : PySem.W.hasDictIn K C = true)
    (ha : PySem.W.findIn K (.ref C) name = some (some a)) (hn : PySem.W.specialIn K a "__get__" = some none) (hc : PySem.W.copiedNames.contains name = false) (hv : mA name = none) (hv' : PySem.W.handedIn a = true)
    (h : Q a { s with toks := s.toks + 1 }) : wpAny (model prog w) A (getAttr (.ref x) name expr) Q E s := by
  obtain ⟨od, J, hl⟩ := I.look
  exact PySem.W.get_value X J (PySem.W.plainGet_of hg).1 (PySem.W.findObj_cls hh ha hn hv' hc (by rw [hl, hv])) hv' h
theorem get_meth {pl : Sem Bool} {Q : Value × List Value → Shared → Prop} (X : K.In s.heap) (I : ObjM s.heap x dx C mA) (hg : PySem.W.plainGet K C name = true)
    (hf : PySem.W.findIn K (.ref C) name = some (some (.ref f))) (ht : PySem.W.isFn K (.ref f) = true) (hv : mA name = none) (h : Q (.ref f, [.ref x]) s) :
    wpAny (model prog w) A (getMethod (.ref x) name pl) Q E s := by
  obtain ⟨od, J, hl⟩ := I.look
  exact PySem.W.method_fn X J (PySem.W.plainGet_of hg).1 (PySem.W.plainGet_of hg).2 hf (beq_iff_eq.mp ht) (by show (PySem.W.lookIn name od).map (·.isSome) = some false; rw [hl, hv]; rfl) h
theorem set_map {ns : List Str} {Q : Unit → Shared → Prop} (X : K.In s.heap) (I : ObjM s.heap x dx C mA)
    (hs : PySem.W.findIn K (.ref C) "__setattr__" = some (some (.builtin "object.__setattr__"))) (hp : PySem.W.plainOver K C = true) (ht : PySem.W.takerIn K C name = some none) (hh : PySem.W.hasDictIn K C = true)
    (hw : PySem.Within mA ns) (hsz : ns.length ≤ sizeLine)
    (h : ∀ h', ObjM h' x dx C (fun y => if y = name then some v else mA y) → Heap.SameBut dx s.heap h' → Q () { s with heap := h', toks := s.toks + 2 }) :
    wpAny (model prog w) A (setAttr (.ref x) name v) Q E s := by
  obtain ⟨od, J, hl⟩ := I.look
  refine PySem.W.set_plain X J hs (PySem.W.osa_open (s := { s with toks := s.toks + 1 }) (r := none) X J hp ht fun b => ?_)
  obtain ⟨cd, hc, hd'⟩ := PySem.W.any_some hh
  have hx : s.heap.get? x = some ⟨.ref C, some dx, .plain, #[]⟩ := I.obj
  refine wpAny_bind (wpAny_pure (wpAny_bind (wpAny_bind (wpAny_loadPart hx (wpAny_bind (PySem.W.Looks.here (s := { s with toks := s.toks + 1 }) (PySem.W.looks_clsIn X hc) ?_))))))
  rw [hd']
  refine wpAny_pure (a := some dx) (wpAny_bind (wpAny_pure (wpAny_bind ?_)))
  refine wpAny_nsSet1 (s := { s with toks := s.toks + 1 }) I.ns fun h' hn2 hs2 => ?_
  obtain ⟨oD, esD, epD, hoD, hdD, hcD⟩ := hn2.count (PySem.Within.cons name v hw)
  refine wpAny_bind (wpAny_lookBehind hoD (by rw [hdD]; exact pastItsLine_dict (Nat.le_trans hcD (by rw [List.length_cons]; omega))) ?_)
  exact wpAny_pure (h _ ⟨(hs2.2 _ (Ne.symm I.ne)).trans I.obj, hn2, I.ne⟩ hs2)
theorem make_map {R : Result → Shared → Prop} {vs : List Value} {kw : List (Str × Value)} (X : K.In s.heap) (hm : PySem.W.makesIn K C = true)
    (hi : PySem.W.findIn K (.ref C) "__init__" = some (some (.ref f))) (hf : PySem.W.typeIn K (.ref f) = some (.type "function"))
    (h : codeAny (model prog w) (A.under (.builtin "type.__call__" ⟨.ref C :: vs, kw⟩)) (.call (.ref f) ⟨.ref (s.heap.objs.size + 1) :: vs, kw⟩) (PySem.W.InitBack (s.heap.objs.size + 1) R)
      { s with heap := (s.heap.push PySem.W.emptyDict).push (PySem.W.instObj C s.heap.objs.size) }) :
    codeAny (model prog w) A (.call (.ref C) ⟨vs, kw⟩) R s := by
  obtain ⟨hh, g, d, t, os⟩ := s
  exact PySem.W.make_core (PySem.W.makes_of X hm) (PySem.W.looks_findIn X hi) (fun self => PySem.W.bind_fn X self hf) (.inl rfl) h
theorem make_map0 {R : Result → Shared → Prop} (X : K.In s.heap) (hm : PySem.W.makesIn K C = true)
    (hi : PySem.W.findIn K (.ref C) "__init__" = some (some (.builtin "object.__init__")))
    (hb : ∀ self, PySem.W.Looks (model prog w) s.heap (bindSpecial (.builtin "object.__init__") self) (.builtin "object.__init__", [self]))
    (h : codeAny (model prog w) (A.under (.builtin "type.__call__" ⟨[.ref C], []⟩)) (.call (.builtin "object.__init__") ⟨[.ref (s.heap.objs.size + 1)], []⟩) (PySem.W.InitBack (s.heap.objs.size + 1) R)
      { s with heap := (s.heap.push PySem.W.emptyDict).push (PySem.W.instObj C s.heap.objs.size) }) :
    codeAny (model prog w) A (.call (.ref C) ⟨[], []⟩) R s := by
  obtain ⟨hh, g, d, t, os⟩ := s
  exact PySem.W.make_core (PySem.W.makes_of X hm) (PySem.W.looks_findIn X hi) hb (.inr ⟨rfl, rfl⟩) h
end
def putF (f : Str) (v : V) : List (Str × V) → List (Str × V)
  | [] => [(f, v)]
  | (g, x) :: r => if g = f then (g, v) :: r else (g, x) :: putF f v r
theorem lookup_putF (f g : Str) (v : V) : ∀ fs : List (Str × V), (putF f v fs).lookup g = if g = f then some v else fs.lookup g
  | [] => by
    show List.lookup g [(f, v)] = _
    by_cases h : g = f
    · have hb : (g == f) = true := beq_iff_eq.mpr h
      simp only [List.lookup, hb, if_pos h]
    · have hb : (g == f) = false := beq_eq_false_iff_ne.mpr h
      simp only [List.lookup, hb, if_neg h]
  | (k, x) :: r => by
    have ih := lookup_putF f g v r
    rw [show putF f v ((k, x) :: r) = (if k = f then (k, v) :: r else (k, x) :: putF f v r) from rfl]
    by_cases hk : k = f
    · rw [if_pos hk]
      by_cases h : g = k
      · have hb : (g == k) = true := beq_iff_eq.mpr h
        simp only [List.lookup, hb, if_pos (h.trans hk)]
      · have hb : (g == k) = false := beq_eq_false_iff_ne.mpr h
        simp only [List.lookup, hb, if_neg (fun e : g = f => h (e.trans hk.symm))]
    · rw [if_neg hk]
      by_cases h : g = k
      · have hb : (g == k) = true := beq_iff_eq.mpr h
        simp only [List.lookup, hb, if_neg (fun e : g = f => hk (h.symm.trans e))]
      · have hb : (g == k) = false := beq_eq_false_iff_ne.mpr h
        simp only [List.lookup, hb]
        exact ih
theorem keys_putF (f : Str) (v : V) : ∀ fs : List (Str × V), f ∈ (putF f v fs).map (·.1) ∧ ∀ g, g ∈ fs.map (·.1) → g ∈ (putF f v fs).map (·.1)
  | [] => ⟨by simp [putF], fun g h => by simp at h⟩
  | (k, x) :: r => by
    obtain ⟨i1, i2⟩ := keys_putF f v r
    rw [show putF f v ((k, x) :: r) = (if k = f then (k, v) :: r else (k, x) :: putF f v r) from rfl]
    by_cases hk : k = f
    · rw [if_pos hk]
      subst hk
      exact ⟨by simp, fun g h => by simpa using h⟩
    · rw [if_neg hk]
      refine ⟨?_, fun g h => ?_⟩
      · rw [List.map_cons]
        exact List.mem_cons_of_mem _ i1
      · rw [List.map_cons] at h ⊢
        rcases List.mem_cons.mp h with e | e
        · exact List.mem_cons.mpr (.inl e)
        · exact List.mem_cons_of_mem _ (i2 g e)
theorem length_putF (f : Str) (v : V) : ∀ fs : List (Str × V), (putF f v fs).length ≤ fs.length + 1
  | [] => by simp [putF]
  | (k, x) :: r => by
    have ih := length_putF f v r
    rw [show putF f v ((k, x) :: r) = (if k = f then (k, v) :: r else (k, x) :: putF f v r) from rfl]
    by_cases hk : k = f
    · rw [if_pos hk, List.length_cons, List.length_cons]; omega
    · rw [if_neg hk, List.length_cons, List.length_cons]; omega
theorem RelO.some_of {v : V} {o : Option Value} (r : RelO (some v) o) : ∃ u, o = some u ∧ RelV v u := by
  cases o with
  | none => exact (show False from r).elim
  | some u => exact ⟨u, rfl, r⟩
theorem RelO.none_of {o : Option Value} (r : RelO none o) : o = none := by
  cases o with
  | none => rfl
  | some u => exact (show False from r).elim
theorem handed_of {v : V} {u : Value} (r : RelV v u) : PySem.W.handedIn u = true := by
  cases v with
  | non => cases (show u = Value.none from r); rfl
  | bl b => cases (show u = Value.bool b from r); rfl
  | int i => obtain ⟨t, e⟩ := (show ∃ t, u = Value.int i t from r); cases e; rfl
  | str x => obtain ⟨t, e⟩ := (show ∃ t, u = Value.str x t from r); cases e; rfl
  | byt b => obtain ⟨t, e⟩ := (show ∃ t, u = Value.bytes b t from r); cases e; rfl
  | flt b => obtain ⟨t, e⟩ := (show ∃ t, u = Value.float b t from r); cases e; rfl
  | ref a => cases (show u = Value.ref a from r); rfl
  | ty n => cases (show u = Value.type n from r); rfl
section
variable {P : Program} {w : World} {H H' : Hp} {h h' : Heap} {a C dx : Addr} {fs fs' : List (Str × V)}
theorem ins_get (hok : HOk P w H h) (e : H a = some (.ins C dx fs)) : ∃ mA, ObjM h a dx C mA ∧ (∀ f, RelO (fs.lookup f) (mA f)) ∧ PySem.Within mA (fs.map (·.1)) ∧ fs.length ≤ 1000 ∧ H dx = some (.own a) := by
  obtain ⟨d, z, ne, ob, mA, n, r, q⟩ := (show ObjOk P w H h a (.ins C dx fs) from hok a _ e)
  exact ⟨mA, ⟨ob, n, ne⟩, r, q, z, d⟩
end
structure Cls (K : PySem.W.Frag) (C : Addr) : Prop where
  pg : PySem.W.plainGet K C Str.empty = true
  hd : PySem.W.hasDictIn K C = true
  po : PySem.W.plainOver K C = true
  sa : PySem.W.findIn K (.ref C) "__setattr__" = some (some (.builtin "object.__setattr__"))
theorem Cls.get {K : PySem.W.Frag} {C : Addr} (c : Cls K C) (f : Str) : PySem.W.plainGet K C f = true := c.pg
def NoAttr (K : PySem.W.Frag) (C : Addr) (f : Str) : Prop := PySem.W.findIn K (.ref C) f = some none
theorem NoAttr.taker {K : PySem.W.Frag} {C : Addr} {f : Str} (n : NoAttr K C f) : PySem.W.takerIn K C f = some none := by
  unfold PySem.W.takerIn
  rw [show PySem.W.findIn K (.ref C) f = some none from n]
  rfl
structure Con (K : PySem.W.Frag) (C : Addr) (f : Str) (v : V) (u : Value) : Prop where
  at_ : PySem.W.findIn K (.ref C) f = some (some u)
  rel : RelV v u
  get : PySem.W.specialIn K u "__get__" = some none
  cp : PySem.W.copiedNames.contains f = false
structure Meth (K : PySem.W.Frag) (C : Addr) (m : Str) (f : Addr) : Prop where
  at_ : PySem.W.findIn K (.ref C) m = some (some (.ref f))
  fn : PySem.W.isFn K (.ref f) = true
  kp : PySem.W.keepIn K (.ref f) = true
section
variable {X : Cx} {pins : List (Addr × Obj)} {σ : St} {H : Hp} {s : Shared} {a C dx : Addr} {fs : List (Str × V)} {f : Str} {v : V} {A : Around} {E : Value → Shared → Prop}
theorem getattr_ok {b : Bool} {Q : Value → Shared → Prop} (I : Inv X pins σ H s) (e : H a = some (.ins C dx fs)) (c : Cls X.K C) (n : NoAttr X.K C f) (l : fs.lookup f = some v)
    (h : ∀ u s', Inv X pins σ H s' → RelV v u → Q u s') : wpAny (model X.prog X.w) A (getAttr (.ref a) f b) Q E s := by
  obtain ⟨mA, O, r, _, _, _⟩ := ins_get I.hok e
  obtain ⟨u, hu, ru⟩ := RelO.some_of (v := v) (o := mA f) (by rw [← l]; exact r f)
  exact get_map I.kIn O (c.get f) c.hd n hu (handed_of ru) (h u _ (I.tok _) ru)
theorem getcon_ok {b : Bool} {u : Value} {Q : Value → Shared → Prop} (I : Inv X pins σ H s) (e : H a = some (.ins C dx fs)) (c : Cls X.K C) (k : Con X.K C f v u) (l : fs.lookup f = none)
    (h : ∀ s', Inv X pins σ H s' → Q u s') : wpAny (model X.prog X.w) A (getAttr (.ref a) f b) Q E s := by
  obtain ⟨mA, O, r, _, _, _⟩ := ins_get I.hok e
  have hn : mA f = none := RelO.none_of (by rw [← l]; exact r f)
  exact get_const I.kIn O (c.get f) c.hd k.at_ k.get k.cp hn (handed_of k.rel) (h _ (I.tok _))
theorem getmeth_ok {m : Str} {g : Addr} {pl : Sem Bool} {Q : Value × List Value → Shared → Prop} (I : Inv X pins σ H s) (e : H a = some (.ins C dx fs)) (c : Cls X.K C) (k : Meth X.K C m g) (l : fs.lookup m = none)
    (h : Q (.ref g, [.ref a]) s) : wpAny (model X.prog X.w) A (getMethod (.ref a) m pl) Q E s := by
  obtain ⟨mA, O, r, _, _, _⟩ := ins_get I.hok e
  have hn : mA m = none := RelO.none_of (by rw [← l]; exact r m)
  exact get_meth I.kIn O (c.get m) k.at_ k.fn hn h
theorem setattr_ok {y : V} {u : Value} {Q : Unit → Shared → Prop} (I : Inv X pins σ H s) (e : H a = some (.ins C dx fs)) (c : Cls X.K C) (n : NoAttr X.K C f) (hl : fs.length < 1000) (ry : RelV y u)
    (h : ∀ s', Inv X pins σ (upd H a (.ins C dx (putF f y fs))) s' → Q () s') : wpAny (model X.prog X.w) A (setAttr (.ref a) f u) Q E s := by
  obtain ⟨mA, O, r, wi, _, ho⟩ := ins_get I.hok e
  have hz : (fs.map (·.1)).length ≤ sizeLine := by rw [List.length_map, sizeLine_eq]; omega
  refine set_map I.kIn O c.sa c.po n.taker c.hd wi hz fun h' O' sb => h _ ?_
  have hd : ∃ o, h'.get? dx = some o := let ⟨o, _, _, e', _⟩ := O'.ns; ⟨o, e'⟩
  refine I.write (x := a) (e := dx) (by rw [e]; exact True.intro) (.inr ho) (fun b q hb z => (sb.2 b hb).trans z) hd ?_
  refine ⟨by rw [upd_ne O.ne]; exact ho, ?_, O.ne, O'.obj, _, O'.ns, fun g => ?_, fun g hg => ?_⟩
  · have := length_putF f y fs; omega
  · show RelO ((putF f y fs).lookup g) (if g = f then some u else mA g)
    rw [lookup_putF]
    by_cases q : g = f
    · rw [if_pos q, if_pos q]; exact ry
    · rw [if_neg q, if_neg q]; exact r g
  · by_cases q : g = f
    · rw [q]; exact (keys_putF f y fs).1
    · refine (keys_putF f y fs).2 g (wi g fun z => hg ?_)
      show (if g = f then some u else mA g) = none
      rw [if_neg q]; exact z
theorem Inv.made (I : Inv X pins σ H s) : Inv X pins σ (upd (upd H s.heap.objs.size (.own (s.heap.objs.size + 1))) (s.heap.objs.size + 1) (.ins C s.heap.objs.size []))
    { s with heap := (s.heap.push PySem.W.emptyDict).push (PySem.W.instObj C s.heap.objs.size) } := by
  have e1 : (s.heap.push PySem.W.emptyDict).get? s.heap.objs.size = some PySem.W.emptyDict := Heap.get?_push_size s.heap rfl
  have e2 : ((s.heap.push PySem.W.emptyDict).push (PySem.W.instObj C s.heap.objs.size)).get? (s.heap.objs.size + 1) = some (PySem.W.instObj C s.heap.objs.size) := by
    have := Heap.get?_push_size (s.heap.push PySem.W.emptyDict) (o := PySem.W.instObj C s.heap.objs.size) rfl
    rwa [Heap.size_push] at this
  have e3 : (s.heap.push PySem.W.emptyDict).Ns s.heap.objs.size (fun _ => none) := ⟨PySem.W.emptyDict, #[], _, e1, rfl, (fun e he => absurd he (by simp)), fun _ => rfl⟩
  have I1 := I.laid (a := s.heap.objs.size) (o := .own (s.heap.objs.size + 1)) (h' := s.heap.push PySem.W.emptyDict) (t' := s.toks) (fun b u q => Heap.get?_push_of_some _ q) (Nat.le_refl _) ⟨_, e1⟩
  refine I1.laid (a := s.heap.objs.size + 1) (o := .ins C s.heap.objs.size []) (t' := s.toks) (fun b u q => Heap.get?_push_of_some _ q) (Nat.le_of_eq (Heap.size_push _ _)) ?_
  have ne : s.heap.objs.size ≠ s.heap.objs.size + 1 := Nat.ne_of_lt (Nat.lt_succ_self _)
  refine ⟨by rw [upd_ne ne, upd_same], Nat.zero_le _, ne, e2, fun _ => none, (Heap.Ns1.of_empty e3).at fun o q => Heap.get?_push_of_some _ q, fun _ => True.intro, fun y hy => absurd rfl hy⟩
theorem attr_of {prog : Program} {w : World} {env : Env} {e : Expr} {f : Str} {pos : Pos} {s : Shared} {Q : Value → Shared → Prop} (hb : attributeBase e f env (eval e env) = eval e env)
    (h : wpAny (model prog w) A (eval e env) (fun o s₁ => wpAny (model prog w) A (getAttr o f true) Q E s₁) E s) : wpAny (model prog w) A (eval (.Attribute e f pos) env) Q E s :=
  Attribute_any_ h (by rw [arm_eval_Attribute, hb])
end
def tFld (K : PySem.W.Frag) (ta : TE) (f : Str) : TE := fun σ H Q => ta σ H fun x H1 => ∃ a C dx fs v, x = .ref a ∧ H1 a = some (.ins C dx fs) ∧ Cls K C ∧ NoAttr K C f ∧ fs.lookup f = some v ∧ Q v H1
def tCon (K : PySem.W.Frag) (ta : TE) (f : Str) : TE := fun σ H Q => ta σ H fun x H1 => ∃ a C dx fs v u, x = .ref a ∧ H1 a = some (.ins C dx fs) ∧ Cls K C ∧ Con K C f v u ∧ fs.lookup f = none ∧ Q v H1
def sFld (K : PySem.W.Frag) (ta tv : TE) (f : Str) : TS := fun D σ H => tv σ H fun y H1 => ta σ H1 fun x H2 => ∃ a C dx fs, x = .ref a ∧ H2 a = some (.ins C dx fs) ∧ Cls K C ∧ NoAttr K C f ∧ fs.length < 1000 ∧
  D.nx σ (upd H2 a (.ins C dx (putF f y fs)))
def InOp (X : Cx) (op : Operator) (rd : V → V → Hp → VK → Prop) : Prop :=
  ∀ (pins : List (Addr × Obj)) (s : Shared) (σ : St) (H : Hp) (x y : V) (u v : Value) (Q : VK), Inv X pins σ H s → RelV x u → RelV y v → rd x y H Q → wpAny (model X.prog X.w) X.A (inplaceOp op u v) (EP X pins σ Q) X.xe s
def sFldAug (K : PySem.W.Frag) (ta tv : TE) (rd : V → V → Hp → VK → Prop) (f : Str) : TS := fun D σ H => ta σ H fun x H1 => ∃ a C dx fs v, x = .ref a ∧ H1 a = some (.ins C dx fs) ∧ Cls K C ∧ NoAttr K C f ∧ fs.lookup f = some v ∧
  tv σ H1 fun y H2 => rd v y H2 fun z H3 => ∃ dx' fs', H3 a = some (.ins C dx' fs') ∧ fs'.length < 1000 ∧ D.nx σ (upd H3 a (.ins C dx' (putF f z fs')))
section
variable {X : Cx} {o e value : Expr} {f : Str} {pos pos' tpos : Pos} {ta tv : TE}
theorem pe_fld (he : PE X e ta) (hb : attributeBase e f X.env (eval e X.env) = eval e X.env) : PE X (.Attribute e f pos) (tFld X.K ta f) := by
  intro pins s σ H Q I h
  refine attr_of hb (thn (he pins s σ H _ I h) fun u s1 ⟨x, H1, I1, rx, a, C, dx, fs, v, ex, ea, c, n, l, q⟩ => ?_)
  subst ex
  obtain rfl : u = Value.ref a := rx
  exact getattr_ok I1 ea c n l fun u' s2 I2 ru => ⟨v, H1, I2, ru, q⟩
theorem pe_con (he : PE X e ta) (hb : attributeBase e f X.env (eval e X.env) = eval e X.env) : PE X (.Attribute e f pos) (tCon X.K ta f) := by
  intro pins s σ H Q I h
  refine attr_of hb (thn (he pins s σ H _ I h) fun u s1 ⟨x, H1, I1, rx, a, C, dx, fs, v, u0, ex, ea, c, k, l, q⟩ => ?_)
  subst ex
  obtain rfl : u = Value.ref a := rx
  exact getcon_ok I1 ea c k l fun s2 I2 => ⟨v, H1, I2, k.rel, q⟩
theorem ps_fld (ha : PE X o ta) (hv : PE X value tv) (hs : swapsWith value (some (.Attribute o f pos')) pos.line X.env = pure false) : PS X (.Assign [.Attribute o f pos'] value pos) (sFld X.K ta tv f) := by
  intro pins s σ H D I h
  refine plainObj_wpAny_Assign_Attribute (thn (hv pins s σ H _ I h) fun u s1 ⟨y, H1, I1, ry, q⟩ => thn (ha pins s1 σ H1 _ I1 q) fun ov s2 ⟨x, H2, I2, rx, a, C, dx, fs, ex, ea, c, n, l, q2⟩ => ?_) hs
  subst ex
  obtain rfl : ov = Value.ref a := rx
  exact setattr_ok I2 ea c n l ry fun s3 I3 => ⟨σ, _, I3, q2⟩
theorem ps_fldaug {op : Operator} {rd : V → V → Hp → VK → Prop} (ha : PE X o ta) (hv : PE X value tv) (hop : InOp X op rd) : PS X (.AugAssign (.Attribute o f tpos) op value pos) (sFldAug X.K ta tv rd f) := by
  intro pins s σ H D I h
  refine wpAny_AugAssign_AttributeAny (thn (ha pins s σ H _ I h) fun ov s1 ⟨x, H1, I1, rx, a, C, dx, fs, v, ex, ea, c, n, l, q⟩ => ?_)
  subst ex
  obtain rfl : ov = Value.ref a := rx
  refine getattr_ok I1 ea c n l fun u s2 I2 ru => thn (hv pins s2 σ H1 _ I2 q) fun w3 s3 ⟨y, H2, I3, ry, q3⟩ => thn (hop pins s3 σ H2 v y u w3 _ I3 ru ry q3) fun w4 s4 ⟨z, H3, I4, rz, dx', fs', ea', l', q4⟩ => ?_
  exact setattr_ok I4 ea' c n l' rz fun s5 I5 => ⟨σ, _, I5, q4⟩
def rAdd : V → V → Hp → VK → Prop := fun x y H Q => ∃ i j, x = .int i ∧ y = .int j ∧ Q (.int (i + j)) H
def rSub : V → V → Hp → VK → Prop := fun x y H Q => ∃ i j, x = .int i ∧ y = .int j ∧ Q (.int (i - j)) H
theorem in_add : InOp X .Add rAdd := by
  rintro pins s σ H x y u v Q I rx ry ⟨i, j, rfl, rfl, q⟩
  obtain ⟨t, rfl⟩ := (show ∃ t, u = Value.int i t from rx)
  obtain ⟨t', rfl⟩ := (show ∃ t', v = Value.int j t' from ry)
  exact PyProof.Rows.iadd_int ⟨.int (i + j), H, I.tok _, ⟨_, rfl⟩, q⟩
theorem in_sub : InOp X .Sub rSub := by
  rintro pins s σ H x y u v Q I rx ry ⟨i, j, rfl, rfl, q⟩
  obtain ⟨t, rfl⟩ := (show ∃ t, u = Value.int i t from rx)
  obtain ⟨t', rfl⟩ := (show ∃ t', v = Value.int j t' from ry)
  exact PyProof.Rows.isub_int ⟨.int (i - j), H, I.tok _, ⟨_, rfl⟩, q⟩
theorem methcall_of {pl : Sem Bool} {m : Str} {apos : Pos} {args : List Expr} {pins : List (Addr × Obj)} {s : Shared} {σ : St} {H : Hp} {Q : Value → Shared → Prop} {te : TE} (he : PE X e te) (I : Inv X pins σ H s)
    (h : te σ H fun x H1 => ∃ a C dx fs g, x = .ref a ∧ H1 a = some (.ins C dx fs) ∧ Cls X.K C ∧ Meth X.K C m g ∧ fs.lookup m = none ∧
      ∀ s1, Inv X pins σ H1 s1 → wpAny (model X.prog X.w) X.A (callWith pos (.ref g) [.ref a] (backTo pos (starEach args X.env)) (backToKw pos (keywordEach [] X.env))) Q X.xe s1)
    (ht : eval (.Call (.Attribute e m apos) args [] pos) X.env = (do
      let ov ← eval e X.env
      standAt apos.atName
      let (f, first) ← holding [ov] (getMethod ov m pl)
      callWith pos f first (backTo pos (starEach args X.env)) (backToKw pos (keywordEach [] X.env)))) :
    wpAny (model X.prog X.w) X.A (eval (.Call (.Attribute e m apos) args [] pos) X.env) Q X.xe s := by
  refine PySem.W.methodCall_KW (pl := pl) (thn (he pins s σ H _ I h) fun u s1 ⟨x, H1, I1, rx, a, C, dx, fs, g, ex, ea, c, k, l, q⟩ => ?_) ht
  subst ex
  obtain rfl : u = Value.ref a := rx
  exact getmeth_ok I1 ea c k l (q s1 I1)
end
section
variable {X : Cx} {pins : List (Addr × Obj)} {σ : St} {H : Hp} {s : Shared} {A : Around} {E : Value → Shared → Prop} {Q : Value → Shared → Prop} {c : Value} {b : Bool}
inductive TyOf (K : PySem.W.Frag) (H : Hp) : V → Value → Prop where
  | non : TyOf K H .non (.type "NoneType")
  | bl (x : Bool) : TyOf K H (.bl x) (.type "bool")
  | int (i : Int) : TyOf K H (.int i) (.type "int")
  | str (x : Str) : TyOf K H (.str x) (.type "str")
  | flt (x : UInt64) : TyOf K H (.flt x) (.type "float")
  | lst {a : Addr} {xs : List V} (e : H a = some (.lst xs)) : TyOf K H (.ref a) (.type "list")
  | frz {a : Addr} {o : Obj} {xs : List V} (e : H a = some (.frz o (.lst xs))) : TyOf K H (.ref a) (.type "list")
  | tup {a : Addr} {xs : List V} (e : H a = some (.tup xs)) : TyOf K H (.ref a) (.type "tuple")
  | dK {a : Addr} {kvs : List (Key × V)} (e : H a = some (.dK kvs)) : TyOf K H (.ref a) (.type "dict")
  | dT {a : Addr} {kvs : List (List Key × V)} (e : H a = some (.dT kvs)) : TyOf K H (.ref a) (.type "dict")
  | ins {a C dx : Addr} {fs : List (Str × V)} (e : H a = some (.ins C dx fs)) (cl : Cls K C) (ha : PySem.W.findIn K (.ref C) "__class__" = some (some (.builtin "object.__class__")))
      (hn : PySem.W.specialIn K (.builtin "object.__class__") "__get__" = some (some (.builtin "getset_descriptor.__get__"))) (htk : PySem.W.takesIn K (.builtin "object.__class__") = some true)
      (hm : PySem.W.mroIn K C (.type "object") = some true) : TyOf K H (.ref a) (.ref C)
theorem isinst_ok {x : V} {u t : Value} (I : Inv X pins σ H s) (rx : RelV x u) (ty : TyOf X.K H x t) (e : PySem.W.kitOne X.K t c = some b) (h : ∀ tk, Q (.bool b) { s with toks := tk }) :
    wpAny (model X.prog X.w) A (call (.builtin "isinstance") [u, c]) Q E s := by
  cases ty with
  | non => cases (show u = Value.none from rx); exact PySem.W.kia_one PySem.W.kitx_none I.kIn True.intro e (fun z => nomatch z) h
  | bl y => cases (show u = Value.bool y from rx); exact PySem.W.kia_one PySem.W.kitx_bool I.kIn True.intro e (fun z => nomatch z) h
  | int i => obtain ⟨t, q⟩ := (show ∃ t, u = Value.int i t from rx); cases q; exact PySem.W.kia_one PySem.W.kitx_int I.kIn True.intro e (fun z => nomatch z) h
  | str y => obtain ⟨t, q⟩ := (show ∃ t, u = Value.str y t from rx); cases q; exact PySem.W.kia_one PySem.W.kitx_str I.kIn True.intro e (fun z => nomatch z) h
  | flt y => obtain ⟨t, q⟩ := (show ∃ t, u = Value.float y t from rx); cases q; exact PySem.W.kia_one PySem.W.kitx_float I.kIn True.intro e (fun z => nomatch z) h
  | @lst a xs ea =>
    cases (show u = Value.ref a from rx)
    obtain ⟨_, _, n, _, h1⟩ := (show ObjOk X.prog X.w H s.heap a (.lst xs) from I.hok a _ ea)
    exact PySem.W.kia_one PySem.W.kitx_list I.kIn ⟨_, h1, rfl⟩ e (fun z => nomatch z) h
  | @frz a ob xs ea =>
    cases (show u = Value.ref a from rx)
    obtain ⟨_, _, _, n, _, h1⟩ := (show ObjOk X.prog X.w H s.heap a (.frz ob (.lst xs)) from I.hok a _ ea)
    exact PySem.W.kia_one PySem.W.kitx_list I.kIn ⟨_, h1, rfl⟩ e (fun z => nomatch z) h
  | @tup a xs ea =>
    cases (show u = Value.ref a from rx)
    obtain ⟨_, _, _, p⟩ := (show ObjOk X.prog X.w H s.heap a (.tup xs) from I.hok a _ ea)
    obtain ⟨o, h1, h2, _⟩ := p
    exact PySem.W.kia_one PySem.W.kitx_tuple I.kIn ⟨o, h1, h2⟩ e (fun z => nomatch z) h
  | @dK a kvs ea =>
    cases (show u = Value.ref a from rx)
    obtain ⟨_, _, vs, _, p⟩ := (show ObjOk X.prog X.w H s.heap a (.dK kvs) from I.hok a _ ea)
    obtain ⟨o, es, ep, h1, h2, _⟩ := p
    exact PySem.W.kia_one PySem.W.kitx_dict I.kIn ⟨o, h1, h2.1⟩ e (fun z => nomatch z) h
  | @dT a kvs ea =>
    cases (show u = Value.ref a from rx)
    obtain ⟨_, _, xs, _, o, es, ep, h1, h2, _⟩ := (show ObjOk X.prog X.w H s.heap a (.dT kvs) from I.hok a _ ea)
    exact PySem.W.kia_one PySem.W.kitx_dict I.kIn ⟨o, h1, h2.1⟩ e (fun z => nomatch z) h
  | @ins a C dx fs ea cl ha hn htk hm =>
    cases (show u = Value.ref a from rx)
    obtain ⟨mA, O, _⟩ := ins_get I.hok ea
    obtain ⟨od, J, _⟩ := O.look
    exact PySem.W.kia_one (PySem.W.kitx_own (cl.get _) cl.hd ha hn htk hm) I.kIn J e (fun z => nomatch z) h
end
end L2
namespace L2
open PySem PySem.Spec PyProof.Rows
structure Room (k : Nat) (A : Around) : Prop where
  hd : A.handled = none
  dp : A.depth + 3 * k + 5 < recursionLimit
  un : A.units + 16 * k + 200 < cLine
  gd : A.guards = some []
theorem Room.mono {j k : Nat} {A : Around} (r : Room k A) (h : j ≤ k) : Room j A := ⟨r.hd, by have := r.dp; omega, by have := r.un; omega, r.gd⟩
theorem Room.deeper {k : Nat} {A : Around} (r : Room (k + 1) A) (env : Env) : Room k (A.deeper env) :=
  ⟨r.hd, by have := r.dp; show A.depth + 1 + 3 * k + 5 < _; omega, by have := r.un; show A.units + 3 + 16 * k + 200 < _; omega, r.gd⟩
theorem Room.in1 {k : Nat} {A : Around} (r : Room (k + 1) A) : Room k A.in1 :=
  ⟨r.hd, by have := r.dp; show A.depth + 3 * k + 5 < _; omega, by have := r.un; show A.units + 1 + 16 * k + 200 < _; omega, r.gd⟩
theorem make_depth {A : Around} {C : Addr} {us : List Value} {kw : List (Str × Value)} : (A.under (.builtin "type.__call__" ⟨.ref C :: us, kw⟩)).depth = A.depth + 1 := by
  first | rfl | simp [Around.under, Code.weight, Code.isCreation, Code.isGuard, Code.isCaller, Code.frames, Code.isFrame, guardIds]
theorem make_units {A : Around} {C : Addr} {us : List Value} {kw : List (Str × Value)} : (A.under (.builtin "type.__call__" ⟨.ref C :: us, kw⟩)).units = A.units + 1 := by
  first | rfl | simp [Around.under, Code.cUnits, Code.frames, Code.isFrame]
theorem Room.make {k : Nat} {A : Around} (r : Room (k + 1) A) (C : Addr) (us : List Value) (kw : List (Str × Value)) : Room k (A.under (.builtin "type.__call__" ⟨.ref C :: us, kw⟩)) :=
  ⟨r.hd, by have := r.dp; rw [make_depth]; omega, by have := r.un; rw [make_units]; omega, by first | exact r.gd | (show (A.under _).guards = some []; rw [← r.gd]; rfl) | simp [Around.under, Code.guards, Code.isGuard, guardIds, r.gd]⟩
theorem Room.depth {k : Nat} {A : Around} (r : Room k A) : A.depth < recursionLimit := by have := r.dp; omega
theorem Room.units {k : Nat} {A : Around} (r : Room k A) : A.units + 64 < cLine := by have := r.un; omega
theorem Room.units0 {k : Nat} {A : Around} (r : Room k A) : A.units < cLine := by have := r.un; omega
def tNil : TA := fun _ H Q => Q [] H
def tCons (ta : TE) (tr : TA) : TA := fun σ H Q => ta σ H fun x H1 => tr σ H1 fun xs H2 => Q (x :: xs) H2
section
variable {X : Cx} {e : Expr} {es : List Expr} {te : TE} {t : TA} {pos : Pos}
theorem pa_nil : PA X [] tNil := fun _ _ _ _ H Q I h => Calls.spliced_nil ⟨[], H, I, .nil, h⟩
theorem pa_cons (ha : PE X e te) (hr : PA X es t) (hs : starEach (e :: es) X.env = (false, eval e X.env) :: starEach es X.env := by rfl) : PA X (e :: es) (tCons te t) := by
  intro pos pins s σ H Q I h
  rw [hs]
  show wpAny _ _ (spliced ((false, eval e X.env) :: backTo pos (starEach es X.env))) _ _ s
  refine Calls.spliced_cons (thn (ha pins s σ H _ I h) fun u s1 ⟨x, H1, I1, r1, q1⟩ => ?_)
  exact thn (hr pos pins s1 σ H1 _ I1 q1) fun us s2 ⟨xs, H2, I2, r2, q2⟩ => ⟨x :: xs, H2, I2, .cons r1 r2, q2⟩
def tTup (t : TA) : TE := fun σ H Q => t σ H fun xs H1 => xs.length ≤ sizeLine ∧ ∀ p, H1 p = none → Q (.ref p) (upd H1 p (.tup xs))
def tLst (t : TA) : TE := fun σ H Q => t σ H fun xs H1 => xs.length ≤ sizeLine ∧ ∀ p, H1 p = none → Q (.ref p) (upd H1 p (.lst xs))
theorem pe_tup {x1} (h : PA X es t) : PE X (.Tuple es x1 pos) (tTup t) := by
  intro pins s σ H Q I hq
  refine wpAny_Tuple_spliced (thn (h pos pins s σ H _ I hq) fun us s1 ⟨xs, H1, I1, r, z, q⟩ => ⟨by rw [← r.length]; exact z, ?_⟩)
  have hf : H1 s1.heap.objs.size = none := I1.hok.fresh (Nat.le_refl _)
  refine ⟨.ref s1.heap.objs.size, upd H1 s1.heap.objs.size (.tup xs), I1.laid (t' := s1.toks) (fun b u e => Heap.get?_push_of_some _ e) (Nat.le_refl _) ?_, rfl, q _ hf⟩
  exact ⟨z, us, r, ⟨_, Heap.get?_push_size _ rfl, rfl, _, rfl⟩⟩
theorem pe_lst (h : PA X es t) : PE X (.List es pos) (tLst t) := by
  intro pins s σ H Q I hq
  refine wpAny_List_spliced (thn (h pos pins s σ H _ I hq) fun us s1 ⟨xs, H1, I1, r, z, q⟩ => ⟨by rw [← r.length]; exact z, ?_⟩)
  have hf : H1 s1.heap.objs.size = none := I1.hok.fresh (Nat.le_refl _)
  refine ⟨.ref s1.heap.objs.size, upd H1 s1.heap.objs.size (.lst xs), I1.laid (t' := s1.toks) (fun b u e => Heap.get?_push_of_some _ e) (Nat.le_refl _) ?_, rfl, q _ hf⟩
  exact ⟨z, us, 0, r, Heap.get?_push_size _ rfl⟩
end
abbrev Sp := List V → Hp → VK → XK → Prop
abbrev CXT := List Env → Hp → Shared → XK → Value → Shared → Prop
structure Env0 (P : Program) (w : World) (K : PySem.W.Frag) (mg : Str → Option Value) (base : Heap) (A : Around) (outer : List Env) (s : Shared) (H : Hp) : Prop where
  frames : A.frames = some outer
  mod : Mod K mg base
  bs : ∀ b o, base.get? b = some o → s.heap.get? b = some o ∧ H b = none
  bsz : base.objs.size ≤ s.heap.objs.size
  funs : s.heap.FunFrames base outer
  frf : ∀ b ∈ frs outer, H b = none
  hok : HOk P w H s.heap
  bare : AllBare s.gens
def CE (outer : List Env) (P : Program) (w : World) (H : Hp) (s : Shared) (Q : VK) (u : Value) (s' : Shared) : Prop :=
  ∃ v H', s'.os = s.os ∧ AllBare s'.gens ∧ Un (frs outer) [] H H' s.heap s'.heap ∧ HOk P w H' s'.heap ∧ RelV v u ∧ Q v H'
def CR (CX : CXT) (outer : List Env) (P : Program) (w : World) (H : Hp) (s : Shared) (Q : VK) (E : XK) (r : Result) (s' : Shared) : Prop :=
  match r with
  | .ok (.ret u) => CE outer P w H s Q u s'
  | .ok _ => False
  | .error e => CX outer H s E e s'
structure FnOk (P : Program) (w : World) (K : PySem.W.Frag) (mg : Str → Option Value) (base : Heap) (CX : CXT) (k : Nat) (f : Addr) (fd : FuncData) (ps : List Str) (sp : Sp) : Prop where
  len : ∀ vs H Q E, sp vs H Q E → vs.length = ps.length
  run : ∀ (A : Around) (outer : List Env) (s : Shared) (H : Hp) (args : Args) (us : List Value) (vs : List V) (Q : VK) (E : XK), Room k A → Env0 P w K mg base A outer s H → BindsTo s fd args (ps.zip us) → Vals vs us → sp vs H Q E →
    codeAny (model P w) A (.call (.ref f) args) (CR CX outer P w H s Q E) s
theorem FnOk.mono {P : Program} {w : World} {K : PySem.W.Frag} {mg : Str → Option Value} {base : Heap} {CX : CXT} {j k : Nat} {f : Addr} {fd : FuncData} {ps : List Str} {sp : Sp} (F : FnOk P w K mg base CX j f fd ps sp) (h : j ≤ k) :
    FnOk P w K mg base CX k f fd ps sp := ⟨F.len, fun A outer s H args us vs Q E hr => F.run A outer s H args us vs Q E (hr.mono h)⟩
theorem FnOk.imp {P : Program} {w : World} {K : PySem.W.Frag} {mg : Str → Option Value} {base : Heap} {CX : CXT} {k : Nat} {f : Addr} {fd : FuncData} {ps : List Str} {sp sp' : Sp} (F : FnOk P w K mg base CX k f fd ps sp)
    (h : ∀ vs H Q E, sp' vs H Q E → sp vs H Q E) : FnOk P w K mg base CX k f fd ps sp' :=
  ⟨fun vs H Q E q => F.len vs H Q E (h _ _ _ _ q), fun A outer s H args us vs Q E hr he hb hv hs => F.run A outer s H args us vs Q E hr he hb hv (h _ _ _ _ hs)⟩
theorem Env0.make {P : Program} {w : World} {K : PySem.W.Frag} {mg : Str → Option Value} {base : Heap} {A : Around} {outer : List Env} {s : Shared} {H : Hp} (e : Env0 P w K mg base A outer s H) (C : Addr) (us : List Value) (kw : List (Str × Value)) :
    Env0 P w K mg base (A.under (.builtin "type.__call__" ⟨.ref C :: us, kw⟩)) outer s H := ⟨by first | exact e.frames | (simpa [Around.under, Code.envs, Code.isFrame, pushEnvs] using e.frames), e.mod, e.bs, e.bsz, e.funs, e.frf, e.hok, e.bare⟩
theorem Env0.in1 {P : Program} {w : World} {K : PySem.W.Frag} {mg : Str → Option Value} {base : Heap} {A : Around} {outer : List Env} {s : Shared} {H : Hp} (e : Env0 P w K mg base A outer s H) :
    Env0 P w K mg base A.in1 outer s H := ⟨e.frames, e.mod, e.bs, e.bsz, e.funs, e.frf, e.hok, e.bare⟩
section
variable {X : Cx} {pins : List (Addr × Obj)} {σ : St} {H : Hp} {s s' : Shared}
theorem Inv.env0 (I : Inv X pins σ H s) : Env0 X.prog X.w X.K X.mg X.base X.A X.stack s H :=
  ⟨I.ok.frames, I.ok.mod, I.bs, Nat.le_trans I.ok.bsz I.sz, I.stack, I.stkFree, I.hok, I.bare⟩
theorem Inv.after {Q : VK} {u : Value} (I : Inv X pins σ H s) (h : CE X.stack X.prog X.w H s Q u s') : EP X pins σ Q u s' := by
  obtain ⟨v, H', os, bare, un, hok, r, q⟩ := h
  obtain ⟨hh, g, d, t, os'⟩ := s'
  obtain rfl : os' = s.os := os
  exact ⟨v, H', I.call (h' := hh) (g' := g) (d' := d) (t' := t) (ch := []) un hok bare (fun b z => absurd z (by simp)), r, q⟩
end
def tCall (sp : Sp) (dvs : List V) (E : XK) (t : TA) : TE := fun σ H Q => t σ H fun vs H1 => sp (vs ++ dvs) H1 Q E
def tMeth (C : Addr) (m : Str) (sp : Sp) (dvs : List V) (E : XK) (ta : TE) (t : TA) : TE := fun σ H Q => ta σ H fun x H1 => ∃ a dx fs, x = .ref a ∧ H1 a = some (.ins C dx fs) ∧ fs.lookup m = none ∧
  t σ H1 fun vs H2 => sp (x :: (vs ++ dvs)) H2 Q E
def tMake (C : Addr) (sp : Sp) (dvs : List V) (E : XK) (t : TA) : TE := fun σ H Q => t σ H fun vs H1 => ∀ x dx, H1 x = none → H1 dx = none → dx ≠ x →
  sp (.ref x :: (vs ++ dvs)) (upd (upd H1 dx (.own x)) x (.ins C dx [])) (fun v H2 => v = .non ∧ Q (.ref x) H2) E
def Binds (K : PySem.W.Frag) (fd : FuncData) (ps : List Str) (ds : List Value) : Prop :=
  ∀ (s : Shared) (us : List Value), K.In s.heap → (us ++ ds).length = ps.length → BindsTo s fd ⟨us, []⟩ (ps.zip (us ++ ds))
theorem Binds.all {K : PySem.W.Frag} {fd : FuncData} {ps : List Str} (h : ∀ us : List Value, us.length = ps.length → bindArgs fd ⟨us, []⟩ = pure (ps.zip us)) : Binds K fd ps [] := fun s us _ hl => by
  rw [List.append_nil] at hl ⊢
  exact .of_eq (h us hl)
def Passes (CX : CXT) (X : Cx) (E : XK) : Prop := ∀ (pins : List (Addr × Obj)) (σ : St) (H : Hp) (s : Shared) (e : Value) (s' : Shared), Inv X pins σ H s → CX X.stack H s E e s' → X.xe e s'
section
variable {X : Cx} {CX : CXT} {k : Nat} {f C : Addr} {fd : FuncData} {ps : List Str} {sp : Sp} {dvs : List V} {ds : List Value} {E : XK} {x m : Str} {p pos apos : Pos} {e o : Expr} {es : List Expr} {ta : TE} {t : TA}
theorem run_fn {pins : List (Addr × Obj)} {σ : St} {H : Hp} {s : Shared} {Q : VK} {us : List Value} {vs : List V} (F : FnOk X.prog X.w X.K X.mg X.base CX k f fd ps sp) (hr : Room k X.A) (hb : Binds X.K fd ps ds) (hd : Vals dvs ds) (hx : Passes CX X E)
    (I : Inv X pins σ H s) (r : Vals vs us) (h : sp (vs ++ dvs) H Q E) : wpAny (model X.prog X.w) X.A (call (.ref f) us) (EP X pins σ Q) X.xe s := by
  have r2 : Vals (vs ++ dvs) (us ++ ds) := r.append hd
  have hl : (us ++ ds).length = ps.length := by rw [← r2.length]; exact F.len _ _ _ _ h
  refine wpAny_call (codeAny_mono (F.run X.A X.stack s H ⟨us, []⟩ (us ++ ds) (vs ++ dvs) Q E hr I.env0 (hb s us I.kIn hl) r2 h) fun r s' hq => ?_)
  cases r with
  | error e => exact hx pins σ H s e s' I hq
  | ok fl =>
    cases fl with
    | ret u => exact I.after hq
    | next => exact False.elim hq
    | brk => exact False.elim hq
    | cont => exact False.elim hq
theorem pe_call (F : FnOk X.prog X.w X.K X.mg X.base CX k f fd ps sp) (hr : Room k X.A) (hg : Gl X x) (hm : X.mg x = some (.ref f)) (hk : PySem.W.keepIn X.K (.ref f) = true) (hb : Binds X.K fd ps ds) (hd : Vals dvs ds) (hx : Passes CX X E)
    (ha : PA X (e :: es) t) (hdb : (x == ("__debug__" : Str)) = false := by decide) (he : starEach (e :: es) X.env = (false, eval e X.env) :: starEach es X.env := by rfl) (hpl : (backTo pos (starEach es X.env)).any (·.1) = false := by rfl) :
    PE X (.Call (.Name x p) (e :: es) [] pos) (tCall sp dvs E t) := by
  intro pins s σ H Q I h
  refine wpAny_Call_Name_kw (ld_glob I hg hm ?_ hdb)
  refine PySem.W.callWith_K (h₀ := X.base) I.ok.mod.kin hk (thn (ha pos pins s σ H _ I h) fun us s1 ⟨vs, H1, I1, r, q⟩ => ⟨I1.kIn, ?_⟩) he hpl
  exact run_fn F hr hb hd hx I1 r q
theorem pe_call0 (F : FnOk X.prog X.w X.K X.mg X.base CX k f fd ps sp) (hr : Room k X.A) (hg : Gl X x) (hm : X.mg x = some (.ref f)) (hk : PySem.W.keepIn X.K (.ref f) = true) (hb : Binds X.K fd ps ds) (hd : Vals dvs ds) (hx : Passes CX X E)
    (hdb : (x == ("__debug__" : Str)) = false := by decide) : PE X (.Call (.Name x p) [] [] pos) (tCall sp dvs E tNil) := by
  intro pins s σ H Q I h
  refine wpAny_Call_Name_kw (ld_glob I hg hm ?_ hdb)
  exact PySem.W.callWith_K0 I.kIn hk (run_fn (us := []) F hr hb hd hx I .nil h)
theorem pe_meth {pl : Sem Bool} (he : PE X o ta) (c : Cls X.K C) (hm : Meth X.K C m f) (F : FnOk X.prog X.w X.K X.mg X.base CX k f fd ps sp) (hr : Room k X.A) (hb : Binds X.K fd ps ds) (hd : Vals dvs ds) (hx : Passes CX X E) (ha : PA X (e :: es) t)
    (hst : starEach (e :: es) X.env = (false, eval e X.env) :: starEach es X.env := by rfl) (hpl : (backTo pos (starEach es X.env)).any (·.1) = false := by rfl)
    (ht : eval (.Call (.Attribute o m apos) (e :: es) [] pos) X.env = (do
      let ov ← eval o X.env
      standAt apos.atName
      let (f, first) ← holding [ov] (getMethod ov m pl)
      callWith pos f first (backTo pos (starEach (e :: es) X.env)) (backToKw pos (keywordEach [] X.env))) := by rfl) :
    PE X (.Call (.Attribute o m apos) (e :: es) [] pos) (tMeth C m sp dvs E ta t) := by
  intro pins s σ H Q I h
  refine PySem.W.methodCall_KW (pl := pl) (thn (he pins s σ H _ I h) fun u s1 ⟨x, H1, I1, rx, a, dx, fs, ex, ea, l, q⟩ => ?_) ht
  subst ex
  obtain rfl : u = Value.ref a := rx
  refine getmeth_ok I1 ea c hm l ?_
  refine PySem.W.callWith_K (first := [.ref a]) (h₀ := X.base) I.ok.mod.kin hm.kp (thn (ha pos pins s1 σ H1 _ I1 q) fun us s2 ⟨vs, H2, I2, r, q2⟩ => ⟨I2.kIn, ?_⟩) hst hpl
  exact run_fn (us := .ref a :: us) (vs := .ref a :: vs) F hr hb hd hx I2 (.cons rfl r) q2
theorem pe_meth0 {pl : Sem Bool} (he : PE X o ta) (c : Cls X.K C) (hm : Meth X.K C m f) (F : FnOk X.prog X.w X.K X.mg X.base CX k f fd ps sp) (hr : Room k X.A) (hb : Binds X.K fd ps ds) (hd : Vals dvs ds) (hx : Passes CX X E)
    (ht : eval (.Call (.Attribute o m apos) [] [] pos) X.env = (do
      let ov ← eval o X.env
      standAt apos.atName
      let (f, first) ← holding [ov] (getMethod ov m pl)
      callWith pos f first (backTo pos (starEach [] X.env)) (backToKw pos (keywordEach [] X.env))) := by rfl) :
    PE X (.Call (.Attribute o m apos) [] [] pos) (tMeth C m sp dvs E ta tNil) := by
  intro pins s σ H Q I h
  refine PySem.W.methodCall_KW (pl := pl) (thn (he pins s σ H _ I h) fun u s1 ⟨x, H1, I1, rx, a, dx, fs, ex, ea, l, q⟩ => ?_) ht
  subst ex
  obtain rfl : u = Value.ref a := rx
  refine getmeth_ok I1 ea c hm l ?_
  exact PySem.W.callWith_K0 (first := [.ref a]) I1.kIn hm.kp (run_fn (us := [.ref a]) (vs := [.ref a]) F hr hb hd hx I1 (.cons rfl .nil) q)
structure Mk (K : PySem.W.Frag) (C f : Addr) : Prop where
  makes : PySem.W.makesIn K C = true
  init : PySem.W.findIn K (.ref C) "__init__" = some (some (.ref f))
  fn : PySem.W.isFn K (.ref f) = true
  kp : PySem.W.keepIn K (.ref C) = true
theorem run_make {pins : List (Addr × Obj)} {σ : St} {H : Hp} {s : Shared} {Q : VK} {us : List Value} {vs : List V} (M : Mk X.K C f) (F : FnOk X.prog X.w X.K X.mg X.base CX k f fd ps sp) (hr : Room (k + 1) X.A) (hb : Binds X.K fd ps ds) (hd : Vals dvs ds)
    (hx : Passes CX X E) (I : Inv X pins σ H s) (r : Vals vs us)
    (h : ∀ x dx, H x = none → H dx = none → dx ≠ x → sp (.ref x :: (vs ++ dvs)) (upd (upd H dx (.own x)) x (.ins C dx [])) (fun v H2 => v = .non ∧ Q (.ref x) H2) E) :
    wpAny (model X.prog X.w) X.A (call (.ref C) us) (EP X pins σ Q) X.xe s := by
  have hq := h (s.heap.objs.size + 1) s.heap.objs.size (I.hok.fresh (Nat.le_succ _)) (I.hok.fresh (Nat.le_refl _)) (Nat.ne_of_lt (Nat.lt_succ_self _))
  have I2 := Inv.made (C := C) I
  have r2 : Vals (V.ref (s.heap.objs.size + 1) :: (vs ++ dvs)) (Value.ref (s.heap.objs.size + 1) :: (us ++ ds)) := .cons rfl (r.append hd)
  have hl : (Value.ref (s.heap.objs.size + 1) :: us ++ ds).length = ps.length := by
    have e := r2.length
    rw [F.len _ _ _ _ hq] at e
    exact e.symm
  refine wpAny_call (make_map (f := f) I.kIn M.makes M.init (beq_iff_eq.mp M.fn) (codeAny_mono (F.run _ X.stack _ _ ⟨Value.ref (s.heap.objs.size + 1) :: us, []⟩ (Value.ref (s.heap.objs.size + 1) :: (us ++ ds)) _ _ E (hr.make C us [])
    (I2.env0.make C us []) (hb _ (Value.ref (s.heap.objs.size + 1) :: us) I2.kIn hl) r2 hq) fun r s' hq' => ?_))
  cases r with
  | error e => exact hx pins σ _ _ e s' I2 hq'
  | ok fl =>
    cases fl with
    | ret u =>
      obtain ⟨v, H', I3, rv, ev, q3⟩ := I2.after hq'
      subst ev
      exact ⟨rv, ⟨V.ref (s.heap.objs.size + 1), H', I3, rfl, q3⟩⟩
    | next => exact False.elim hq'
    | brk => exact False.elim hq'
    | cont => exact False.elim hq'
theorem pe_make (M : Mk X.K C f) (F : FnOk X.prog X.w X.K X.mg X.base CX k f fd ps sp) (hr : Room (k + 1) X.A) (hg : Gl X x) (hm : X.mg x = some (.ref C)) (hb : Binds X.K fd ps ds) (hd : Vals dvs ds) (hx : Passes CX X E)
    (ha : PA X (e :: es) t) (hdb : (x == ("__debug__" : Str)) = false := by decide) (he : starEach (e :: es) X.env = (false, eval e X.env) :: starEach es X.env := by rfl) (hpl : (backTo pos (starEach es X.env)).any (·.1) = false := by rfl) :
    PE X (.Call (.Name x p) (e :: es) [] pos) (tMake C sp dvs E t) := by
  intro pins s σ H Q I h
  refine wpAny_Call_Name_kw (ld_glob I hg hm ?_ hdb)
  refine PySem.W.callWith_K (h₀ := X.base) I.ok.mod.kin M.kp (thn (ha pos pins s σ H _ I h) fun us s1 ⟨vs, H1, I1, r, q⟩ => ⟨I1.kIn, ?_⟩) he hpl
  exact run_make M F hr hb hd hx I1 r q
theorem pe_make0 (M : Mk X.K C f) (F : FnOk X.prog X.w X.K X.mg X.base CX k f fd ps sp) (hr : Room (k + 1) X.A) (hg : Gl X x) (hm : X.mg x = some (.ref C)) (hb : Binds X.K fd ps ds) (hd : Vals dvs ds) (hx : Passes CX X E)
    (hdb : (x == ("__debug__" : Str)) = false := by decide) : PE X (.Call (.Name x p) [] [] pos) (tMake C sp dvs E tNil) := by
  intro pins s σ H Q I h
  refine wpAny_Call_Name_kw (ld_glob I hg hm ?_ hdb)
  exact PySem.W.callWith_K0 I.kIn M.kp (run_make (us := []) M F hr hb hd hx I .nil h)
end
def PK (X : Cx) (kws : List Keyword) (t : TA) : Prop :=
  ∀ (pos : Pos) (pins : List (Addr × Obj)) (s : Shared) (σ : St) (H : Hp) (Q : List V → Hp → Prop), Inv X pins σ H s → t σ H Q → wpAny (model X.prog X.w) X.A (evalAll ((backToKw pos (keywordEach kws X.env)).map (·.2))) (AP X pins σ Q) X.xe s
section
variable {X : Cx} {CX : CXT} {k : Nat} {f C : Addr} {fd : FuncData} {ps ks : List Str} {sp : Sp} {E : XK} {x m : Str} {p pos apos kpos : Pos} {e o : Expr} {es : List Expr} {kws : List Keyword} {te ta : TE} {t tk : TA} {nm : Option Str}
theorem pk_nil : PK X [] tNil := fun _ _ _ _ H Q I h => wpAny_evalAll_nil ⟨[], H, I, .nil, h⟩
theorem pk_cons (ha : PE X e te) (hr : PK X kws t) : PK X (⟨nm, e, kpos⟩ :: kws) (tCons te t) := by
  intro pos pins s σ H Q I h
  show wpAny _ _ (evalAll ((do let v ← eval e X.env; standAt pos; pure v) :: (backToKw pos (keywordEach kws X.env)).map (·.2))) _ _ s
  refine wpAny_evalAll_cons (wpAny_bind (thn (ha pins s σ H _ I h) fun u s1 ⟨x, H1, I1, r1, q1⟩ => wpAny_bind (wpAny_standAt (wpAny_pure ?_))))
  exact thn (hr pos pins s1 σ H1 _ I1 q1) fun us s2 ⟨xs, H2, I2, r2, q2⟩ => ⟨x :: xs, H2, I2, .cons r1 r2, q2⟩
structure KBinds (K : PySem.W.Frag) (fd : FuncData) (ps ks : List Str) (g : List Value → List Value → List Value) (gV : List V → List V → List V) : Prop where
  to : ∀ (s : Shared) (us ws : List Value), K.In s.heap → (g us ws).length = ps.length → BindsTo s fd ⟨us, ks.zip ws⟩ (ps.zip (g us ws))
  rel : ∀ {vs : List V} {us : List Value} {zs : List V} {ws : List Value}, Vals vs us → Vals zs ws → Vals (gV vs zs) (g us ws)
def tCallK (sp : Sp) (gV : List V → List V → List V) (E : XK) (t tk : TA) : TE := fun σ H Q => t σ H fun vs H1 => tk σ H1 fun zs H2 => sp (gV vs zs) H2 Q E
variable {g : List Value → List Value → List Value} {gV : List V → List V → List V}
theorem run_fnk {pins : List (Addr × Obj)} {σ : St} {H : Hp} {s : Shared} {Q : VK} {us ws : List Value} {vs zs : List V} (F : FnOk X.prog X.w X.K X.mg X.base CX k f fd ps sp) (hr : Room k X.A) (hb : KBinds X.K fd ps ks g gV) (hx : Passes CX X E)
    (I : Inv X pins σ H s) (r : Vals vs us) (rz : Vals zs ws) (h : sp (gV vs zs) H Q E) : wpAny (model X.prog X.w) X.A (call (.ref f) us (ks.zip ws)) (EP X pins σ Q) X.xe s := by
  have r2 := hb.rel r rz
  have hl : (g us ws).length = ps.length := by rw [← r2.length]; exact F.len _ _ _ _ h
  refine wpAny_call (codeAny_mono (F.run X.A X.stack s H ⟨us, ks.zip ws⟩ (g us ws) (gV vs zs) Q E hr I.env0 (hb.to s us ws I.kIn hl) r2 h) fun r s' hq => ?_)
  cases r with
  | error e => exact hx pins σ H s e s' I hq
  | ok fl =>
    cases fl with
    | ret u => exact I.after hq
    | next => exact False.elim hq
    | brk => exact False.elim hq
    | cont => exact False.elim hq
theorem pe_callK (F : FnOk X.prog X.w X.K X.mg X.base CX k f fd ps sp) (hr : Room k X.A) (hg : Gl X x) (hm : X.mg x = some (.ref f)) (hk : PySem.W.keepIn X.K (.ref f) = true) (hb : KBinds X.K fd ps ks g gV) (hx : Passes CX X E)
    (ha : PA X (e :: es) t) (hkw : PK X kws tk) (hall : (backToKw pos (keywordEach kws X.env)).all (·.1.isSome) = true := by rfl) (hks : (backToKw pos (keywordEach kws X.env)).filterMap (·.1) = ks := by rfl)
    (hdb : (x == ("__debug__" : Str)) = false := by decide) (he : starEach (e :: es) X.env = (false, eval e X.env) :: starEach es X.env := by rfl)
    (hpl : ((backTo pos (starEach (e :: es) X.env)).any (·.1) || (backToKw pos (keywordEach kws X.env)).any (·.1.isNone)) = false := by rfl) :
    PE X (.Call (.Name x p) (e :: es) kws pos) (tCallK sp gV E t tk) := by
  intro pins s σ H Q I h
  refine wpAny_Call_Name_kw (ld_glob I hg hm ?_ hdb)
  refine PySem.W.callWith_KW (h₀ := X.base) I.ok.mod.kin hk hall (thn (ha pos pins s σ H _ I h) fun us s1 ⟨vs, H1, I1, r, q⟩ => ?_) hpl he
  refine thn (hkw pos pins s1 σ H1 _ I1 q) fun ws s2 ⟨zs, H2, I2, rz, q2⟩ => ⟨I2.kIn, ?_⟩
  rw [hks]
  exact run_fnk F hr hb hx I2 r rz q2
end
structure FnScope (N P : List Str) (sc : Scope) : Prop where
  kind : sc.kind = .function
  co : sc.isCoroutine = false
  gen : sc.isGenerator = false
  nd : N.Nodup
  pre : N.take P.length = P
  par : ∀ x ∈ P, sc.names.lookup x = some .local ∨ sc.names.lookup x = some .cell
  nofree : ∀ y ∈ sc.names, y.2 ≠ .free
theorem bindL_out {kindOf : Str → Option NameKind} {x : Str} : ∀ {binds : List (Str × Value)} {m : Str → Option Value}, (∀ v, (x, v) ∉ binds) → bindL kindOf binds m x = m x
  | [], _, _ => rfl
  | (n, v) :: r, m, h => by
    unfold bindL
    rw [bindL_out fun w hw => h w (List.mem_cons_of_mem _ hw)]
    split
    · have : x ≠ n := by rintro rfl; exact h v List.mem_cons_self
      simp [this]
    · rfl
theorem bindC_out {kindOf : Str → Option NameKind} {x : Str} : ∀ {binds : List (Str × Value)} {m : Str → Option Value}, (∀ v, (x, v) ∉ binds) → bindC kindOf binds m x = m x
  | [], _, _ => rfl
  | (n, v) :: r, m, h => by
    unfold bindC
    rw [bindC_out fun w hw => h w (List.mem_cons_of_mem _ hw)]
    split
    · rfl
    · have : x ≠ n := by rintro rfl; exact h v List.mem_cons_self
      simp [this]
theorem bindL_get {kindOf : Str → Option NameKind} {x : Str} {v : Value} : ∀ {P : List Str} {vs : List Value} {i : Nat} {m : Str → Option Value}, P.Nodup → P[i]? = some x → vs[i]? = some v → kindOf x = some .local →
    bindL kindOf (P.zip vs) m x = some v
  | [], _, _, _, _, h, _, _ => by simp at h
  | _ :: _, [], _, _, _, _, h, _ => by simp at h
  | p :: P, w :: vs, 0, m, nd, h1, h2, hk => by
    simp at h1 h2; subst h1; subst h2
    show bindL kindOf ((p, w) :: P.zip vs) m p = _
    unfold bindL
    rw [bindL_out fun v hv => (List.nodup_cons.mp nd).1 (List.of_mem_zip hv).1, if_pos hk]
    simp
  | p :: P, w :: vs, i + 1, m, nd, h1, h2, hk => by
    show bindL kindOf ((p, w) :: P.zip vs) m x = _
    unfold bindL
    exact bindL_get (i := i) (List.nodup_cons.mp nd).2 (by simpa using h1) (by simpa using h2) hk
theorem bindC_get {kindOf : Str → Option NameKind} {x : Str} {v : Value} : ∀ {P : List Str} {vs : List Value} {i : Nat} {m : Str → Option Value}, P.Nodup → P[i]? = some x → vs[i]? = some v → kindOf x ≠ some .local →
    bindC kindOf (P.zip vs) m x = some v
  | [], _, _, _, _, h, _, _ => by simp at h
  | _ :: _, [], _, _, _, _, h, _ => by simp at h
  | p :: P, w :: vs, 0, m, nd, h1, h2, hk => by
    simp at h1 h2; subst h1; subst h2
    show bindC kindOf ((p, w) :: P.zip vs) m p = _
    unfold bindC
    rw [bindC_out fun v hv => (List.nodup_cons.mp nd).1 (List.of_mem_zip hv).1, if_neg hk]
    simp
  | p :: P, w :: vs, i + 1, m, nd, h1, h2, hk => by
    show bindC kindOf ((p, w) :: P.zip vs) m x = _
    unfold bindC
    exact bindC_get (i := i) (List.nodup_cons.mp nd).2 (by simpa using h1) (by simpa using h2) hk
def start (N : List Str) (vs : List V) : St := vs.map some ++ List.replicate (N.length - vs.length) none
def cxOf (CX : CXT) (P : Program) (w : World) (K : PySem.W.Frag) (mg : Str → Option Value) (base : Heap) (N : List Str) (qual : Str) (scope : Scope) (f : Addr) (cd : Value) (A : Around) (outer : List Env) (s : Shared) (H : Hp) (E : XK) : Cx where
  prog := P
  w := w
  K := K
  mg := mg
  base := base
  A := A.deeper (envOfC qual scope s.heap.objs.size f cd)
  N := N
  s₀ := s
  H₀ := H
  env := envOfC qual scope s.heap.objs.size f cd
  outer := outer
  stack := envOfC qual scope s.heap.objs.size f cd :: outer
  ex := []
  calm := true
  fn := fun _ => true
  pn := []
  xe := fun e s' => wpAny (model P w) (A.deeper (envOfC qual scope s.heap.objs.size f cd)) (leaving (envOfC qual scope s.heap.objs.size f cd) e) (fun _ s'' => CX outer H s E e s'') (fun e' s'' => CX outer H s E e' s'') s'
theorem cell_has {sc : Scope} {n : Nat} {x : Str} (h : sc.names.lookup x = some .cell) : ∃ c, (cellsFrom n sc.names []).lookup x = some c := by
  have q := PySem.W.cellsFrom_some sc.names n [] (.inl h)
  exact Option.isSome_iff_exists.mp q
theorem inv_start {CX : CXT} {P : Program} {w : World} {K : PySem.W.Frag} {mg : Str → Option Value} {base : Heap} {N ps : List Str} {qual : Str} {scope : Scope} {f : Addr} {cd : Value} {A : Around} {outer : List Env} {s s1 : Shared} {H : Hp} {E : XK} {us : List Value} {vs : List V}
    (S : FnScope N ps scope) (hd : A.handled = none) (e0 : Env0 P w K mg base A outer s H) (hl : vs.length = ps.length) (r : Vals vs us)
    (x : InCallC s s.heap.objs.size (bindL (envOfC qual scope s.heap.objs.size f cd).kindOf (ps.zip us) fun _ => none) (cellsFrom (s.heap.objs.size + 1) scope.names []) (bindC (envOfC qual scope s.heap.objs.size f cd).kindOf (ps.zip us) fun _ => none) s1) :
    Inv (cxOf CX P w K mg base N qual scope f cd A outer s H E) [] (start N vs) H s1 := by
  have hpl : ps.length ≤ N.length := by have := congrArg List.length S.pre; rw [List.length_take] at this; omega
  obtain ⟨h1, tk, rfl, hk⟩ := x.done
  have noA : ∀ b : Addr, b ∉ (cxOf CX P w K mg base N qual scope f cd A outer s H E).ex := fun b z => absurd (show b ∈ ([] : List Addr) from z) (by simp)
  refine ⟨⟨e0.mod, S.kind, rfl, rfl, Nat.le_refl _, fun y z c h1 h2 => ?_, fun y hy => ?_, fun y c _ h => ?_, fun _ => hd, Around.frames_deeper e0.frames, .inr ⟨rfl, rfl⟩, fun b z => absurd z (noA b), e0.bs, e0.bsz, fun b _ _ => noA b, fun b z => absurd z (noA b), e0.funs, e0.frf⟩,
    rfl, e0.bare, Un.kept hk, ⟨_, x.toInCall.ns, fun i y v h1 h2 h3 => ?_⟩, fun y c h => ⟨_, x.cell y c h⟩, e0.hok.fresh (Nat.le_refl _), fun y c h => ?_, fun p hp => absurd (show p ∈ ([] : List (Addr × Obj)) from hp) (by simp), e0.hok.kept hk, ?_⟩
  · exact name_of_addr x.apart (PySem.mem_of_lookup h1) (PySem.mem_of_lookup h2)
  · have hy : scope.names.lookup y = some .cell ∨ scope.names.lookup y = some .free := hy
    rcases hy with hy | hy
    · exact cell_has hy
    · exact absurd rfl (S.nofree _ (PySem.mem_of_lookup hy))
  · exact Nat.le_of_lt (x.above y c (PySem.mem_of_lookup h))
  · have hi : i < vs.length := by
      unfold start at h2
      by_cases hi : i < vs.length
      · exact hi
      · rw [List.getElem?_append_right (by simpa using hi)] at h2
        rw [List.getElem?_replicate] at h2
        split at h2 <;> cases h2
    have ha : vs[i]? = some v := by
      unfold start at h2
      rw [List.getElem?_append_left (by simpa using hi), List.getElem?_map] at h2
      cases e : vs[i]? with
      | none => rw [e] at h2; cases h2
      | some a => rw [e] at h2; cases h2; rfl
    obtain ⟨u, hu, rv⟩ := r.get ha
    have hp : ps[i]? = some y := by
      rw [← S.pre, List.getElem?_take_of_lt (by omega)]; exact h1
    have ndP : ps.Nodup := by rw [← S.pre]; exact S.nd.sublist (List.take_sublist _ _)
    refine ⟨u, rv, ?_⟩
    rcases S.par y (List.mem_of_getElem? hp) with k | k
    · exact .inl ⟨k, bindL_get ndP hp hu k⟩
    · obtain ⟨c, e⟩ := cell_has (n := s.heap.objs.size + 1) k
      refine .inr ⟨.inl k, c, e, ?_⟩
      have q := x.cell y c e
      rw [bindC_get ndP hp hu (by show scope.names.lookup y ≠ _; rw [k]; decide)] at q
      exact q
  · exact e0.hok.fresh (Nat.le_of_lt (x.above y c (PySem.mem_of_lookup h)))
  · unfold start
    show _ = N.length
    rw [List.length_append, List.length_map, List.length_replicate]
    omega
theorem fn_of {CX : CXT} {P : Program} {w : World} {K : PySem.W.Frag} {mg : Str → Option Value} {base : Heap} {k : Nat} {f : Addr} {name qual : Str} {params : Arguments} {body : List Stmt} {scope : Scope} {dV kV doc pm cdv ct oc : Value} {an od : Option Addr}
    {osl : Array (Option Value)} {N ps : List Str} {sp : Sp} (lk : K.lookup f = some ⟨oc, od, .func (PySem.W.fnOf name qual params body scope dV kV doc pm an cdv ct), osl⟩) (hcd : PySem.W.codeIn K cdv qual = true) (S : FnScope N ps scope)
    (len : ∀ vs H Q E, sp vs H Q E → vs.length = ps.length)
    (hbody : ∀ (A : Around) (outer : List Env) (s : Shared) (H : Hp) (vs : List V) (Q : VK) (E : XK), Room k (A.deeper (envOfC qual scope s.heap.objs.size f cdv)) → sp vs H Q E →
      ∃ t, PSs (cxOf CX P w K mg base N qual scope f cdv A outer s H E) body t ∧ t { nx := fun _ H' => Q .non H', rt := Q } (start N vs) H) :
    FnOk P w K mg base CX (k + 1) f (PySem.W.fnOf name qual params body scope dV kV doc pm an cdv ct) ps sp := by
  refine ⟨len, fun A outer s H args us vs Q E hr e0 hb r hsp => ?_⟩
  have hl := len _ _ _ _ hsp
  have KX : K.In s.heap := e0.mod.kin.keeps fun b o e => (e0.bs b o e).1
  have lim : s.heap.NoLimit := e0.mod.nolimit.keeps fun b o e => (e0.bs b o e).1
  have hkind : ∀ y ∈ ps.zip us, scope.names.lookup y.1 = some .local ∨ (scope.names.lookup y.1 = some .cell ∧ ((cellsFrom (s.heap.objs.size + 1) scope.names []).lookup y.1).isSome = true) := fun ⟨n, v⟩ hy => by
    rcases S.par n (List.of_mem_zip hy).1 with q | q
    · exact .inl q
    · exact .inr ⟨q, PySem.W.cellsFrom_some _ _ _ (.inl q)⟩
  refine codeAny_call_function hr.depth (KX _ _ lk) rfl S.co S.gen rfl (PySem.W.codeRec_of KX hcd) (hb _ _ _ _ ?_)
  refine wpAny_newFunctionEnv_cells S.kind hkind fun env he s1 x => ?_
  subst he
  refine ⟨lim.keeps x.toInCall.keep, codeAny_func ?_⟩
  obtain ⟨t, ht, hq⟩ := hbody A outer s H vs Q E (hr.deeper _) hsp
  have I : Inv (cxOf CX P w K mg base N qual scope f cdv A outer s H E) [] (start N vs) H s1 := inv_start S hr.hd e0 hl r x
  refine wpAny_mono (ht [] s1 (start N vs) H _ I hq) (fun fl s' hs => ?_) fun e s' hs => hs
  have fin : ∀ {σ' : St} {H' : Hp} {v : V} {u : Value}, Inv (cxOf CX P w K mg base N qual scope f cdv A outer s H E) [] σ' H' s' → RelV v u → Q v H' → CE outer P w H s Q u s' :=
    fun {σ' H' v u} J rv q => ⟨v, H', J.os, J.bare, J.base, J.hok, rv, q⟩
  cases fl with
  | ret u =>
    obtain ⟨v, σ', H', J, rv, q⟩ := hs
    exact fin J rv q
  | next =>
    obtain ⟨σ', H', J, q⟩ := hs
    exact fin (v := V.non) (u := Value.none) J rfl q
  | brk =>
    obtain ⟨_, _, _, q⟩ := hs
    exact False.elim q
  | cont =>
    obtain ⟨_, _, _, q⟩ := hs
    exact False.elim q
end L2
namespace L2
open PySem PySem.Spec PyProof.Rows
section
variable {X : Cx} {x : Str} {p pos : Pos} {e : Expr} {es : List Expr} {t : TA} {id T : String} {r : List V → Hp → VK → Prop}
def tCB (r : List V → Hp → VK → Prop) (t : TA) : TE := fun σ H Q => t σ H fun vs H1 => r vs H1 Q
theorem pe_callB (hc : CallR X (.builtin id) r) (hg : Gl X x) (hm : X.mg x = none) (hv : bootBuiltins x = some (.builtin id)) (ha : PA X (e :: es) t) (hn : x ≠ "__name__" := by decide) (hdb : (x == ("__debug__" : Str)) = false := by decide)
    (he : starEach (e :: es) X.env = (false, eval e X.env) :: starEach es X.env := by rfl) (hpl : (backTo pos (starEach es X.env)).any (·.1) = false := by rfl) : PE X (.Call (.Name x p) (e :: es) [] pos) (tCB r t) := by
  intro pins s σ H Q I h
  refine wpAny_Call_Name_kw (ld_blt I hg hm hv ?_ hn hdb)
  exact PyProof.Rows.callWith_builtin1 (thn (ha pos pins s σ H _ I h) fun us s1 ⟨vs, H1, I1, r1, q1⟩ => hc pins s1 σ H1 vs us Q I1 r1 q1) he hpl
theorem pe_callTy (hc : CallR X (.type T) r) (hg : Gl X x) (hm : X.mg x = none) (hv : bootBuiltins x = some (.type T)) (ha : PA X (e :: es) t) (hn : x ≠ "__name__" := by decide) (hdb : (x == ("__debug__" : Str)) = false := by decide)
    (he : starEach (e :: es) X.env = (false, eval e X.env) :: starEach es X.env := by rfl) (hpl : (backTo pos (starEach es X.env)).any (·.1) = false := by rfl) : PE X (.Call (.Name x p) (e :: es) [] pos) (tCB r t) := by
  intro pins s σ H Q I h
  refine wpAny_Call_Name_kw (ld_blt I hg hm hv ?_ hn hdb)
  exact PyProof.Rows.callWith_type1 (thn (ha pos pins s σ H _ I h) fun us s1 ⟨vs, H1, I1, r1, q1⟩ => hc pins s1 σ H1 vs us Q I1 r1 q1) he hpl
theorem pe_callTy0 (hc : CallR X (.type T) r) (hg : Gl X x) (hm : X.mg x = none) (hv : bootBuiltins x = some (.type T)) (hn : x ≠ "__name__" := by decide) (hdb : (x == ("__debug__" : Str)) = false := by decide) :
    PE X (.Call (.Name x p) [] [] pos) (tCB r tNil) := by
  intro pins s σ H Q I h
  refine wpAny_Call_Name_kw (ld_blt I hg hm hv ?_ hn hdb)
  exact PyProof.Rows.callWith_type0 (hc pins s σ H [] [] Q I .nil h)
end
end L2
namespace HT
open PySem PyProof.Rows
def lexLt : List Int → List Int → Bool
  | [], [] => false
  | [], _ :: _ => true
  | _ :: _, [] => false
  | x :: xs, y :: ys => if x = y then lexLt xs ys else decide (x < y)
theorem lexLt_cons (x y : Int) (xs ys : List Int) : lexLt (x :: xs) (y :: ys) = if x = y then lexLt xs ys else decide (x < y) := rfl
theorem lexLt_nil_nil : lexLt [] [] = false := rfl
theorem lexLt_nil_cons (y : Int) (ys : List Int) : lexLt [] (y :: ys) = true := rfl
theorem lexLt_cons_nil (x : Int) (xs : List Int) : lexLt (x :: xs) [] = false := rfl
theorem eqAt_int (A : Around) (s : Shared) (a : Int) (t : Tok) (c : Int) (u : Tok) : ∃ e, SeqAt.EqAt A s (.int a t) (.int c u) e ∧ (e = true ↔ a = c) :=
  ⟨(a == c), SeqAt.EqAt.int_int a t c u, by simp⟩
theorem rcLt_int (A : Around) (s : Shared) (a : Int) (t : Tok) (c : Int) (u : Tok) (prog : Program) (w : World) (E : Value → Shared → Prop) (Q : Value → Shared → Prop) (h : Q (.bool (decide (a < c))) s) :
    wpAny (model prog w) A (richCompare .Lt (.int a t) (.int c u)) Q E s :=
  (PyProof.Rows.lt_int h : wpAny (model prog w) A (compareOp .Lt (.int a t) (.int c u)) Q E s)
section
open PySem.SeqAt
open PySem.AutoSeq1 (wpAny_loadPart')
open PySem.MeetsSeq PySem.MeetsSeq2 PySem.MeetsSeq3
theorem tuple_lt_ints (l b : Addr) (items items2 : Array Value) (n n2 : Nat) (dd dd2 : Option Addr) (sl sl2 : Array (Option Value)) (ns ms : List Int) (hi : IntsAre items.toList ns) (hj : IntsAre items2.toList ms) :
    Meets (Builtin.«tuple.__lt__» ⟨[.ref l, .ref b], []⟩)
      (fun _ R s => s.heap.get? l = some { cls := .type "tuple", dict := dd, data := .seq items n, slots := sl } ∧ s.heap.get? b = some { cls := .type "tuple", dict := dd2, data := .seq items2 n2, slots := sl2 } ∧
        R (.ok (.ret (.bool (lexLt ns ms)))) s) :=
  .of_wp fun prog w A R s h => by
    obtain ⟨hp, g, d, tk, os⟩ := s; obtain ⟨hl, hb, h⟩ := h
    have f2 := AutoSeq1.sub_tuple_tuple
    have z1 : items.size = ns.length := by rw [← hi.length]; simp
    have z2 : items2.size = ms.length := by rw [← hj.length]; simp
    wp_walk using wpAny_loadPart' hl, wpAny_loadPart' hb, wpAny_forIn_list _ (fun rest b s' => b.1 = none ∧ s' = ⟨hp, g, d, tk, os⟩ ∧ ∃ (vs ws : List Value) (ns' ms' : List Int), rest = vs.zip ws ∧
      IntsAre vs ns' ∧ IntsAre ws ms' ∧ ns'.length + items2.size = ms'.length + items.size ∧ R (.ok (.ret (.bool (lexLt ns' ms')))) ⟨hp, g, d, tk, os⟩) _
    case turn =>
      rintro ⟨y, x⟩ rest b s' ⟨hb', rfl, vs, ws, ns', ms', hz, hvi, hwi, hlen, hR⟩
      cases hvi with
      | nil => rw [List.zip_nil_left] at hz; cases hz
      | cons a t hvi' =>
        cases hwi with
        | nil => rw [List.zip_nil_right] at hz; cases hz
        | cons c u hwi' =>
          rw [List.zip_cons_cons] at hz
          injection hz with hyx hrest
          injection hyx with hy hx
          subst hy hx
          rw [lexLt_cons] at hR
          simp only [List.length_cons] at hlen
          obtain ⟨e, he, hiff⟩ := eqAt_int A.in1 ⟨hp, g, d, tk, os⟩ a t c u
          refine wpAny_bind (he prog w _ _ ?_)
          cases e with
          | true =>
            rw [if_pos (hiff.mp rfl)] at hR
            wp_walk
            exact ⟨rfl, rfl, _, _, _, _, hrest, hvi', hwi', by omega, hR⟩
          | false =>
            rw [if_neg (fun q => absurd (hiff.mpr q) Bool.false_ne_true)] at hR
            have hri := rcLt_int A.in1 ⟨hp, g, d, tk, os⟩ a t c u prog w
            wp_walk using hri
            exact ⟨_, rfl, by simpa using hR⟩
    case fin =>
      rintro ⟨b1, b2⟩ s' ⟨hb', rfl, vs, ws, ns', ms', hz, hvi, hwi, hlen, hR⟩
      simp only at hb'
      subst hb'
      have hv : lexLt ns' ms' = decide (items.size < items2.size) := by
        cases hvi with
        | nil =>
          cases hwi with
          | nil =>
            simp only [List.length_nil] at hlen
            rw [lexLt_nil_nil]
            exact (decide_eq_false (by omega)).symm
          | cons c u hw =>
            simp only [List.length_nil, List.length_cons] at hlen
            rw [lexLt_nil_cons]
            exact (decide_eq_true (by omega)).symm
        | cons a t hv =>
          cases hwi with
          | nil =>
            simp only [List.length_nil, List.length_cons] at hlen
            rw [lexLt_cons_nil]
            exact (decide_eq_false (by omega)).symm
          | cons c u hw =>
            rw [List.zip_cons_cons] at hz
            cases hz
      rw [hv] at hR
      wp_walk
      exact ⟨_, rfl, by simpa [Builtin.Tuple.tupleCompareSizes] using hR⟩
    case h =>
      exact ⟨rfl, rfl, items.toList, items2.toList, ns, ms, rfl, hi, hj, by omega, h⟩
end
section
variable {prog : Program} {w : World} {A : Around} {E : Value → Shared → Prop} {s : Shared}
theorem lt_tupInts {l b : Addr} {items items2 : Array Value} {ns ms : List Int} {Q : Value → Shared → Prop} (hl : IsTup s.heap l items) (hb : IsTup s.heap b items2) (hi : IntsAre items.toList ns) (hj : IntsAre items2.toList ms)
    (hu : A.units < cLine) (h : Q (.bool (lexLt ns ms)) s) : wpAny (model prog w) A (compareOp .Lt (.ref l) (.ref b)) Q E s := by
  obtain ⟨⟨cls, dd, data, sl⟩, ho, hc, n, hd⟩ := id hl
  obtain ⟨⟨cls2, dd2, data2, sl2⟩, ho2, hc2, n2, hd2⟩ := id hb
  simp only at hc hd hc2 hd2
  subst hc hd hc2 hd2
  exact richCompare_meets_room (op := .Lt) ⟨_, ho, rfl⟩ ⟨_, ho2, rfl⟩ PySem.F.slot_tuple_lt PySem.F.entry_tuple_lt (PySem.F.args_tuple_lt_2 _ _) (tuple_lt_ints l b items items2 n n2 dd dd2 sl sl2 ns ms hi hj)
    ⟨ho, ho2, show Value.bool (lexLt ns ms) ≠ Value.notImplemented ∧ Q (.bool (lexLt ns ms)) s from ⟨(fun x => nomatch x), h⟩⟩ hu
theorem cat_tup {t b : Addr} {vs ws : List Value} {Q : Value → Shared → Prop} (ht : IsTup s.heap t vs.toArray) (hb : IsTup s.heap b ws.toArray) (hv : vs ≠ [])
    (h1 : ws = [] → Q (.ref t) s) (h2 : ws ≠ [] → Q (.ref s.heap.objs.size) { s with heap := s.heap.push { cls := .type "tuple", data := .seq (vs ++ ws).toArray } })
    (hsz : vs.length + ws.length ≤ sizeLine) : wpAny (model prog w) A (binaryOp .Add (.ref t) (.ref b)) Q E s := by
  obtain ⟨⟨cls, dd, data, sl⟩, ho, hc, n, hd⟩ := id ht
  obtain ⟨⟨cls2, dd2, data2, sl2⟩, ho2, hc2, n2, hd2⟩ := id hb
  simp only at hc hd hc2 hd2
  subst hc hd hc2 hd2
  have e : vs.toArray ++ ws.toArray = (vs ++ ws).toArray := by simp
  by_cases hw : ws = []
  · exact concat_meets ⟨_, ho, rfl⟩ ⟨_, ho2, rfl⟩ noFill_tuple_add seq_tuple_add PySem.F.slot_tuple_add PySem.F.entry_tuple_add (PySem.F.args_tuple_add_2 _ _)
      (tuple_addW1 t b vs.toArray ws.toArray n n2 dd dd2 sl sl2 (by simpa using hv) (by simp [hw])) ⟨ho, ho2, h1 hw⟩
  · refine concat_meets ⟨_, ho, rfl⟩ ⟨_, ho2, rfl⟩ noFill_tuple_add seq_tuple_add PySem.F.slot_tuple_add PySem.F.entry_tuple_add (PySem.F.args_tuple_add_2 _ _)
      (tuple_addW2 t b vs.toArray ws.toArray n n2 dd dd2 sl sl2 (by simpa using hv) (by simpa using hw) (by rw [List.size_toArray, List.size_toArray]; exact hsz)) ⟨ho, ho2, ?_⟩
    rw [e]
    exact h2 hw
def sIx (n d : Nat) : Option Int → Nat
  | none => d
  | some v => if v < 0 then (v + (n : Int)).toNat else min v.toNat n
theorem sIx_none (n d : Nat) : sIx n d none = d := rfl
theorem sIx_nat (n d k : Nat) : sIx n d (some (k : Int)) = min k n := by
  show (if (k : Int) < 0 then ((k : Int) + (n : Int)).toNat else min (k : Int).toNat n) = min k n
  rw [if_neg (by omega), Int.toNat_natCast]
theorem sIx_le (n d : Nat) (hd : d ≤ n) (o : Option Int) : sIx n d o ≤ n := by
  cases o with
  | none => exact hd
  | some v =>
    show (if v < 0 then (v + (n : Int)).toNat else min v.toNat n) ≤ n
    by_cases hv : v < 0
    · rw [if_pos hv]; omega
    · rw [if_neg hv]; exact Nat.min_le_right _ _
theorem clip_eq (v : Int) (n d : Nat) : (if v < 0 then max (v + (n : Int)) 0 else min v (n : Int)) = ((sIx n d (some v) : Nat) : Int) := by
  show (if v < 0 then max (v + (n : Int)) 0 else min v (n : Int)) = (((if v < 0 then (v + (n : Int)).toNat else min v.toNat n) : Nat) : Int)
  by_cases hv : v < 0
  · simp only [if_pos hv]; omega
  · simp only [if_neg hv]; omega
theorem adjust_gen (lo hi : Option Int) (n : Nat) : Builtin.Slice.sliceAdjust lo hi 1 (n : Int) = (((sIx n 0 lo : Nat) : Int), ((sIx n n hi : Nat) : Int)) := by
  have h1 : ¬ ((1 : Int) < 0) := by omega
  unfold Builtin.Slice.sliceAdjust
  simp only [h1, if_false]
  refine Prod.ext ?_ ?_
  · cases lo with
    | none => rfl
    | some v => exact clip_eq v n 0
  · cases hi with
    | none => rfl
    | some v => exact clip_eq v n n
theorem places_gen (i j : Nat) : Builtin.Slice.slicePlaces (i : Int) (j : Int) 1 = j - i := by
  unfold Builtin.Slice.slicePlaces
  have h1 : (1 : Int) > 0 := by omega
  simp only [h1, if_true, Int.ediv_one]
  split <;> omega
theorem slicePart_ {v : Value} {o : Option Int} {Q : Option Int → Shared → Prop} (p : IsPart v o) (h : Q o s) : wpAny (model prog w) A (Builtin.Slice.slicePartIndex v) Q E s := by
  cases p with
  | none => exact slicePart_none h
  | int i t => exact slicePart_int h
theorem sliceApplied_gen {sl : Addr} {vl vu : Value} {lo hi : Option Int} {n : Nat} {Q : Int × Int × Nat → Shared → Prop} (hs : s.heap.IsSliceOf sl vl vu .none) (pl : IsPart vl lo) (pu : IsPart vu hi)
    (h : Q (((sIx n 0 lo : Nat) : Int), 1, sIx n n hi - sIx n 0 lo) s) : wpAny (model prog w) A (Builtin.Slice.sliceApplied (.ref sl) (pure (n : Int))) Q E s := by
  obtain ⟨os, hos, hcs, hds⟩ := id hs
  unfold Builtin.Slice.sliceApplied Builtin.Slice.sliceFields
  refine wpAny_bind (wpAny_bind (wpAny_field hos hds (x := vl) rfl (wpAny_bind (wpAny_field hos hds (x := vu) rfl (wpAny_bind (wpAny_field hos hds (x := .none) rfl (wpAny_pure ?_)))))))
  refine wpAny_bind (slicePart_none ?_)
  show wpAny _ _ (if ((1 : Int) == 0) = true then _ else _) _ _ s
  rw [if_neg (by decide)]
  refine wpAny_bind (slicePart_ pl (wpAny_bind (slicePart_ pu (wpAny_bind (wpAny_pure ?_)))))
  show wpAny _ _ (match Builtin.Slice.sliceAdjust lo hi 1 (n : Int) with | (lo, hi) => pure (lo, (1 : Int), Builtin.Slice.slicePlaces lo hi 1)) _ _ s
  rw [adjust_gen lo hi n]
  show wpAny _ _ (pure (((sIx n 0 lo : Nat) : Int), (1 : Int), Builtin.Slice.slicePlaces ((sIx n 0 lo : Nat) : Int) ((sIx n n hi : Nat) : Int) 1)) _ _ s
  rw [places_gen]
  exact wpAny_pure h
theorem pick_gen (xs : Array Value) (i k : Nat) : ((List.range k).filterMap fun (m : Nat) => xs[((i : Int) + (m : Int) * 1).toNat]?).toArray = ((xs.toList.drop i).take k).toArray := by
  have e : (fun (m : Nat) => xs[((i : Int) + (m : Int) * 1).toNat]?) = fun m => xs[i + m]? := by
    funext m
    have : ((i : Int) + (m : Int) * 1).toNat = i + m := by omega
    rw [this]
  rw [e]
  have := pick_run xs i k
  rw [List.filterMap_map] at this
  have e2 : ((fun x => xs[x]?) ∘ fun x => i + x) = fun m => xs[i + m]? := rfl
  rw [e2] at this
  rw [this]
theorem getItem_tuple_cut {t sl : Addr} {items : Array Value} {vl vu : Value} {lo hi : Option Int} {Q : Value → Shared → Prop} (ht : IsTup s.heap t items) (hs : s.heap.IsSliceOf sl vl vu .none) (pl : IsPart vl lo) (pu : IsPart vu hi)
    (hw : ¬ (sIx items.size 0 lo = 0 ∧ sIx items.size items.size hi = items.size))
    (h : Q (.ref s.heap.objs.size) { s with heap := s.heap.push { cls := .type "tuple", data := .seq ((items.toList.drop (sIx items.size 0 lo)).take (sIx items.size items.size hi - sIx items.size 0 lo)).toArray } })
    (hsz : items.size ≤ sizeLine) : wpAny (model prog w) A (getItem (.ref t) (.ref sl)) Q E s := by
  have htake : sizeOk (.seq ((items.toList.drop (sIx items.size 0 lo)).take (sIx items.size items.size hi - sIx items.size 0 lo)).toArray) := by
    show ((items.toList.drop (sIx items.size 0 lo)).take (sIx items.size items.size hi - sIx items.size 0 lo)).toArray.size ≤ sizeLine
    rw [List.size_toArray, List.length_take, List.length_drop, Array.length_toList]
    omega
  have hj : sIx items.size items.size hi ≤ items.size := sIx_le _ _ (Nat.le_refl _) hi
  obtain ⟨os, hos, hcs, hds⟩ := id hs
  have hTs : s.TypeIs (.ref sl) "slice" := ⟨os, hos, hcs⟩
  unfold getItem
  try with_reducible refine wpAny_holding ?_
  first | refine wpAny_bind (wpAny_pure ?_) | skip
  refine wpAny_bind (wpAny_sequenceKey ht.typeIs (by decide) ?_)
  refine wpAny_bind (wpAny_callSpecial?_slot (name := Str.ofString "__getitem__") ht.typeIs PyProof.Rows.slot_tuple_getitem
    (wpAny_call_entry PyProof.Rows.slot_tuple_getitem ht.typeIs entry_tuple_getitem ?_ (args_tuple_getitem _ _)))
  show wpAny _ _ (Builtin.Tuple.tupleItemsOf (.ref t) >>= _) _ _ s
  refine wpAny_bind (tupleItemsOf_ ht ?_)
  refine wpAny_bind (wpAny_typeOf hTs ?_)
  rw [if_pos (by decide)]
  refine wpAny_bind (sliceApplied_gen hs pl pu ?_)
  have hno : ¬ ((((sIx items.size 0 lo : Nat) : Int) == 0 && (1 : Int) == 1 && (sIx items.size items.size hi - sIx items.size 0 lo) == items.size) = true) := by
    intro q
    rw [Bool.and_eq_true, Bool.and_eq_true] at q
    have q1 : ((sIx items.size 0 lo : Nat) : Int) = 0 := eq_of_beq q.1.1
    have q2 : sIx items.size items.size hi - sIx items.size 0 lo = items.size := eq_of_beq q.2
    exact hw ⟨by omega, by omega⟩
  show wpAny _ _ (if (((sIx items.size 0 lo : Nat) : Int) == 0 && (1 : Int) == 1 && (sIx items.size items.size hi - sIx items.size 0 lo) == items.size) = true then _ else _) _ _ s
  rw [if_neg hno, pick_gen]
  first
    | exact wpAny_bind (m := Builtin.Tuple.tupleExact _) (wpAny_newObj_type (wpAny_pure ⟨_, rfl, wpAny_pure h⟩) htake)
    | exact wpAny_bind (m := Builtin.Tuple.tupleExact _) (wpAny_newObj_type (wpAny_bind (wpAny_pure (wpAny_pure ⟨_, rfl, wpAny_pure h⟩))) htake)
    | exact wpAny_bind (wpAny_bind (m := Builtin.Tuple.tupleExact _) (wpAny_newObj_type (wpAny_pure (wpAny_pure ⟨_, rfl, wpAny_pure h⟩)) htake))
    | exact wpAny_bind (wpAny_bind (m := Builtin.Tuple.tupleExact _) (wpAny_newObj_type (wpAny_pure ⟨_, rfl, wpAny_pure h⟩) htake))
end
end HT
namespace L2
open PySem PySem.Spec PyProof.Rows
abbrev TO := St → Hp → (Option Int → Hp → Prop) → Prop
def PO (X : Cx) (e : Option Expr) (t : TO) : Prop :=
  ∀ (pins : List (Addr × Obj)) (s : Shared) (σ : St) (H : Hp) (Q : Option Int → Hp → Prop), Inv X pins σ H s → t σ H Q →
    wpAny (model X.prog X.w) X.A (evalPart e X.env) (fun u s' => ∃ o H', Inv X pins σ H' s' ∧ IsPart u o ∧ Q o H') X.xe s
def tNoPart : TO := fun _ H Q => Q none H
def tPart (t : TE) : TO := fun σ H Q => t σ H fun x H1 => ∃ i, x = .int i ∧ Q (some i) H1
theorem intsAre_of {ns : List Int} : ∀ {us : List Value}, Vals (ns.map V.int) us → IntsAre us ns := by
  induction ns with
  | nil => intro us r; rw [List.map_nil] at r; cases r; exact .nil
  | cons n ns ih =>
    intro us r
    rw [List.map_cons] at r
    cases r with
    | cons r1 r2 =>
      obtain ⟨t, e⟩ := r1
      subst e
      exact .cons n t (ih r2)
section
variable {X : Cx} {e : Expr} {te : TE} {lo hi : Option Expr} {tl th : TO} {pos p2 : Pos}
theorem po_none : PO X none tNoPart := by
  intro pins s σ H Q I h
  rw [evalPart_none]
  exact wpAny_pure ⟨none, H, I, .none, h⟩
theorem po_some (h : PE X e te) : PO X (some e) (tPart te) := by
  intro pins s σ H Q I hw
  rw [evalPart_some]
  refine thn (h pins s σ H _ I hw) fun u s1 ⟨x, H1, I1, r1, q1⟩ => ?_
  obtain ⟨i, rfl, q⟩ := q1
  obtain ⟨t, rfl⟩ := r1
  exact ⟨some i, H1, I1, .int i t, q⟩
def SlR (X : Cx) (r : V → Option Int → Option Int → Hp → VK → Prop) : Prop :=
  ∀ (pins : List (Addr × Obj)) (s : Shared) (σ : St) (H : Hp) (x : V) (v vl vu : Value) (lo hi : Option Int) (sl : Addr) (Q : VK), Inv X pins σ H s → RelV x v → s.heap.IsSliceOf sl vl vu .none → IsPart vl lo → IsPart vu hi → r x lo hi H Q →
    ∃ T id, typeLookup (.type T) "__getitem__" = pure (some (.builtin id)) ∧ s.TypeIs v T ∧ wpAny (model X.prog X.w) X.A (getItem v (.ref sl)) (EP X pins σ Q) X.xe s
theorem SlR.or {r r' : V → Option Int → Option Int → Hp → VK → Prop} (h : SlR X r) (h' : SlR X r') : SlR X (fun x lo hi H Q => r x lo hi H Q ∨ r' x lo hi H Q) := by
  intro pins s σ H x v vl vu lo hi sl Q I rx hs pl pu q
  rcases q with q | q
  · exact h pins s σ H x v vl vu lo hi sl Q I rx hs pl pu q
  · exact h' pins s σ H x v vl vu lo hi sl Q I rx hs pl pu q
def tSl (r : V → Option Int → Option Int → Hp → VK → Prop) (te : TE) (tl th : TO) : TE := fun σ H Q => te σ H fun x H1 => tl σ H1 fun l H2 => th σ H2 fun u H3 => r x l u H3 Q
theorem pe_slice {r : V → Option Int → Option Int → Hp → VK → Prop} (hr : SlR X r) (he : PE X e te) (hl : PO X lo tl) (hu : PO X hi th) : PE X (.Subscript e (.Slice lo hi none p2) pos) (tSl r te tl th) := by
  intro pins s σ H Q I h
  refine Subscript_ (thn (he pins s σ H _ I h) fun v s1 ⟨x, H1, I1, r1, q1⟩ => ?_)
  refine wpAny_Slice (thn (hl pins s1 σ H1 _ I1 q1) fun vl s2 ⟨l, H2, I2, pl, q2⟩ => thn (hu pins s2 σ H2 _ I2 q2) fun vu s3 ⟨u, H3, I3, pu, q3⟩ => ?_)
  rw [evalPart_none]
  refine wpAny_pure ?_
  have I4 : Inv X pins σ H3 { s3 with heap := s3.heap.push { cls := .type "slice", data := .fields #[vl, vu, .none] } } := I3.kept (t' := s3.toks) fun b ob q => Heap.get?_push_of_some _ q
  obtain ⟨T, id, hT, ht, hg⟩ := hr pins { s3 with heap := s3.heap.push { cls := .type "slice", data := .fields #[vl, vu, .none] } } σ H3 x v vl vu l u s3.heap.objs.size Q I4 r1 (Heap.IsSliceOf.new ..) pl pu q3
  show wpAny (model X.prog X.w) X.A (subscriptTail e (.Slice lo hi none p2) v (.ref s3.heap.objs.size)) (EP X pins σ Q) X.xe { s3 with heap := s3.heap.push { cls := .type "slice", data := .fields #[vl, vu, .none] } }
  exact tail_any (ops := [.ref s3.heap.objs.size, v]) ht hT hg (by with_unfolding_all rfl)
def cutV (xs : List V) (lo hi : Option Int) : List V := (xs.drop (HT.sIx xs.length 0 lo)).take (HT.sIx xs.length xs.length hi - HT.sIx xs.length 0 lo)
theorem cutV_length (xs : List V) (lo hi : Option Int) : (cutV xs lo hi).length ≤ xs.length := by
  unfold cutV
  rw [List.length_take, List.length_drop]
  omega
def rSlT (K : PySem.W.Frag) : V → Option Int → Option Int → Hp → VK → Prop := fun x lo hi H Q => ∃ a xs, x = .ref a ∧ SqT K H a xs ∧
  ¬ (HT.sIx xs.length 0 lo = 0 ∧ HT.sIx xs.length xs.length hi = xs.length) ∧ ∀ p, H p = none → Q (.ref p) (upd H p (.tup (cutV xs lo hi)))
theorem sl_tup : SlR X (rSlT X.K) := by
  intro pins s σ H x v vl vu lo hi sl Q I rx hs pl pu h
  obtain ⟨a, xs, rfl, hx, hw, q⟩ := h
  cases rx
  obtain ⟨its, r, ht, hz⟩ := I.tuple hx
  have hlen : its.toArray.size = xs.length := by rw [List.size_toArray]; exact r.length.symm
  refine ⟨"tuple", _, PyProof.Rows.slot_tuple_getitem.lookup, ht.typeIs, ?_⟩
  refine HT.getItem_tuple_cut ht hs pl pu (by rw [hlen]; exact hw) ?_ (by rw [hlen]; exact hz)
  rw [hlen]
  refine ⟨.ref s.heap.objs.size, _, I.laid (t' := s.toks) (o := .tup (cutV xs lo hi)) (fun b ob q => Heap.get?_push_of_some _ q) (Nat.le_refl _) ?_, rfl, q _ (I.hok.fresh (Nat.le_refl _))⟩
  exact ⟨Nat.le_trans (cutV_length xs lo hi) hz, _, (r.drop (HT.sIx xs.length 0 lo)).take (HT.sIx xs.length xs.length hi - HT.sIx xs.length 0 lo), IsTup.new _ _⟩
def rLtT (K : PySem.W.Frag) : R2 := fun x y H Q => ∃ a b ns ms, x = .ref a ∧ y = .ref b ∧ SqT K H a (ns.map V.int) ∧ SqT K H b (ms.map V.int) ∧ Q (.bl (HT.lexLt ns ms)) H
theorem op_ltT (hu : X.A.units < cLine) : OpR X (compareOp .Lt) (rLtT X.K) := by
  intro pins s σ H x y v u Q I rx ry h
  obtain ⟨a, b, ns, ms, rfl, rfl, ha, hb, q⟩ := h
  cases rx
  cases ry
  obtain ⟨its, r1, p1, _⟩ := I.tuple ha
  obtain ⟨its2, r2, p2, _⟩ := I.tuple hb
  have i1 : IntsAre its.toArray.toList ns := intsAre_of r1
  have i2 : IntsAre its2.toArray.toList ms := intsAre_of r2
  exact HT.lt_tupInts p1 p2 i1 i2 hu ⟨.bl (HT.lexLt ns ms), H, I, rfl, q⟩
def rCatT (K : PySem.W.Frag) : R2 := fun x y H Q => ∃ a b xs ys, x = .ref a ∧ y = .ref b ∧ SqT K H a xs ∧ SqT K H b ys ∧ xs ≠ [] ∧ xs.length + ys.length ≤ sizeLine ∧
  (ys = [] → Q (.ref a) H) ∧ (ys ≠ [] → ∀ p, H p = none → Q (.ref p) (upd H p (.tup (xs ++ ys))))
theorem Vals.nil_iff {xs : List V} {us : List Value} (r : Vals xs us) : us = [] ↔ xs = [] := by
  cases r with
  | nil => simp
  | cons _ _ => simp
theorem op_catT : OpR X (binaryOp .Add) (rCatT X.K) := by
  intro pins s σ H x y v u Q I rx ry h
  obtain ⟨a, b, xs, ys, rfl, rfl, ha, hb, hx, hz, q1, q2⟩ := h
  cases rx
  cases ry
  obtain ⟨its, r1, p1, _⟩ := I.tuple ha
  obtain ⟨its2, r2, p2, _⟩ := I.tuple hb
  refine HT.cat_tup p1 p2 (fun z => hx (r1.nil_iff.mp z)) (fun z => ⟨.ref a, H, I, rfl, q1 (r2.nil_iff.mp z)⟩) (fun z => ?_) (by rw [← r1.length, ← r2.length]; exact hz)
  refine ⟨.ref s.heap.objs.size, _, I.laid (t' := s.toks) (o := .tup (xs ++ ys)) (fun b ob q => Heap.get?_push_of_some _ q) (Nat.le_refl _) ?_, rfl, q2 (fun w => z (r2.nil_iff.mpr w)) _ (I.hok.fresh (Nat.le_refl _))⟩
  exact ⟨by rw [List.length_append]; exact hz, _, r1.append r2, IsTup.new _ _⟩
theorem call_tupleT : CallR X (.type "tuple") (fun xs H Q => ∃ a ys, xs = [.ref a] ∧ SqT X.K H a ys ∧ Q (.ref a) H) := by
  intro pins s σ H xs us Q I r h
  obtain ⟨a, ys, rfl, ha, q⟩ := h
  obtain ⟨u, rfl, ru⟩ := vals1 r
  cases ru
  obtain ⟨its, _, p1, _⟩ := I.tuple ha
  exact call_tuple_same (items := its.toArray) p1 ⟨.ref a, H, I, rfl, q⟩
end
end L2
namespace L2
open PySem PySem.Spec PyProof.Rows
def ixN (n : Nat) (i : Int) : Option Nat := if 0 ≤ i then (if i < n then some i.toNat else none) else if -(n : Int) ≤ i then some (i + n).toNat else none
def atI {α : Type} (xs : List α) (i : Int) : Option α := (ixN xs.length i).bind fun j => xs[j]?
theorem ixN_seq {n : Nat} {i : Int} {j : Nat} (h : ixN n i = some j) : seqIndex? i n = some j ∧ j < n ∧ -(n : Int) ≤ i ∧ i < n := by
  unfold ixN at h
  by_cases h0 : 0 ≤ i
  · rw [if_pos h0] at h
    by_cases h1 : i < n
    · rw [if_pos h1] at h
      have e : i.toNat = j := Option.some.inj h
      exact ⟨by rw [seqIndex_of h0 h1, e], by omega, by omega, h1⟩
    · rw [if_neg h1] at h; cases h
  · rw [if_neg h0] at h
    by_cases h1 : -(n : Int) ≤ i
    · rw [if_pos h1] at h
      have e : (i + n).toNat = j := Option.some.inj h
      exact ⟨by rw [seqIndex_neg (by omega) h1, e], by omega, h1, by omega⟩
    · rw [if_neg h1] at h; cases h
theorem atI_get {α : Type} {xs : List α} {i : Int} {v : α} (h : atI xs i = some v) : ∃ j, seqIndex? i xs.length = some j ∧ xs[j]? = some v ∧ j < xs.length ∧ -(xs.length : Int) ≤ i ∧ i < xs.length := by
  unfold atI at h
  cases e : ixN xs.length i with
  | none => rw [e] at h; cases h
  | some j =>
    rw [e] at h
    obtain ⟨h1, h2, h3, h4⟩ := ixN_seq e
    exact ⟨j, h1, h, h2, h3, h4⟩
theorem atI_nat {α : Type} {xs : List α} {j : Nat} {v : α} (h : xs[j]? = some v) : atI xs (j : Int) = some v := by
  have hj : j < xs.length := (List.getElem?_eq_some_iff.mp h).1
  have e : ixN xs.length (j : Int) = some j := by
    unfold ixN
    rw [if_pos (by omega), if_pos (by omega)]; simp
  unfold atI; rw [e]; exact h
theorem atI_last {α : Type} (xs : List α) (v : α) : atI (xs ++ [v]) (-1) = some v := by
  have hl : (xs ++ [v]).length = xs.length + 1 := by simp
  have e : ixN (xs ++ [v]).length (-1) = some xs.length := by
    unfold ixN
    rw [hl, if_neg (by decide), if_pos (by omega)]
    congr 1
    omega
  unfold atI
  rw [e]
  show (xs ++ [v])[xs.length]? = some v
  simp
def PlainIx (b : Expr) : Prop := ∀ o i, subscripted b false o i = operate [o, i] (getItem o i)
def IxR (X : Cx) (r : R2) : Prop :=
  ∀ (value slice : Expr) (pins : List (Addr × Obj)) (s : Shared) (σ : St) (H : Hp) (x y : V) (v u : Value) (Q : VK), Inv X pins σ H s → RelV x v → RelV y u → r x y H Q →
    subscripted slice false v u = operate [v, u] (getItem v u) → wpAny (model X.prog X.w) X.A (subscriptTail value slice v u) (EP X pins σ Q) X.xe s
def MtR (X : Cx) (id : String) (r : V → List V → Hp → VK → Prop) : Prop :=
  ∀ (pins : List (Addr × Obj)) (s : Shared) (σ : St) (H : Hp) (x : V) (xs : List V) (v : Value) (us : List Value) (Q : VK), Inv X pins σ H s → RelV x v → Vals xs us → r x xs H Q →
    wpAny (model X.prog X.w) X.A (call (.builtin id) (v :: us)) (EP X pins σ Q) X.xe s
section
variable {X : Cx} {a b : Expr} {ta tb : TE} {pos : Pos}
theorem IxR.or {r r' : R2} (h : IxR X r) (h' : IxR X r') : IxR X (fun x y H Q => r x y H Q ∨ r' x y H Q) := by
  intro value slice pins s σ H x y v u Q I rx ry q hs
  rcases q with q | q
  · exact h value slice pins s σ H x y v u Q I rx ry q hs
  · exact h' value slice pins s σ H x y v u Q I rx ry q hs
theorem MtR.or {id : String} {r r' : V → List V → Hp → VK → Prop} (h : MtR X id r) (h' : MtR X id r') : MtR X id (fun x xs H Q => r x xs H Q ∨ r' x xs H Q) := by
  intro pins s σ H x xs v us Q I rx rs q
  rcases q with q | q
  · exact h pins s σ H x xs v us Q I rx rs q
  · exact h' pins s σ H x xs v us Q I rx rs q
theorem pe_ix {r : R2} (hr : IxR X r) (ha : PE X a ta) (hb : PE X b tb) (hs : PlainIx b) : PE X (.Subscript a b pos) (tOp r ta tb) := by
  intro pins s σ H Q I h
  exact Subscript_ (binT ha hb I h fun v u s2 x y H2 I2 rx ry q => hr a b pins s2 σ H2 x y v u Q I2 rx ry q (hs _ _))
def rIxL (K : PySem.W.Frag) : R2 := fun x y H Q => ∃ p xs i v, x = .ref p ∧ y = .int i ∧ SqL K H p xs ∧ atI xs i = some v ∧ Q v H
def rIxT (K : PySem.W.Frag) : R2 := fun x y H Q => ∃ p xs i v, x = .ref p ∧ y = .int i ∧ SqT K H p xs ∧ atI xs i = some v ∧ Q v H
def rIxS : R2 := fun x y H Q => ∃ z i c, x = .str z ∧ y = .int i ∧ z.length ≤ sizeLine ∧ atI z.cps.toList i = some c ∧ Q (.str ⟨#[c]⟩) H
theorem ix_list : IxR X (rIxL X.K) := by
  intro value slice pins s σ H x y v u Q I rx ry h hs
  obtain ⟨p, xs, i, z, rfl, rfl, hq, he, q⟩ := h
  cases rx
  obtain ⟨t, rfl⟩ := ry
  obtain ⟨its, r, pl, hz⟩ := I.list hq
  obtain ⟨j, h1, h2, h3, h4, h5⟩ := atI_get he
  obtain ⟨w, ew, rw'⟩ := r.get h2
  have hl := r.length
  have hn := line63
  have fin : EP X pins σ Q w s := ⟨z, H, I, rw', q⟩
  by_cases h0 : 0 ≤ i
  · have hj : i.toNat = j := by
      rw [seqIndex_of h0 h5] at h1
      exact Option.some.inj h1
    exact item_listR pl.isList h0 (by omega) (by rw [hj]; simpa using ew) fin hs
  · have hj : (i + (its.toArray.size : Int)).toNat = j := by
      rw [seqIndex_neg (by omega) h4] at h1
      rw [List.size_toArray, ← hl]
      exact Option.some.inj h1
    exact subscriptTail_builtinR (x := w) pl.isList.typeIs slot_list_getitem.lookup
      (wpAny_getItem_list_neg (Q := fun r s' => r = w ∧ EP X pins σ Q r s') pl.isList (by omega) (by rw [List.size_toArray] <;> omega) (by omega) (by rw [hj]; simpa using ew) ⟨rfl, fin⟩) hs
theorem ix_tup : IxR X (rIxT X.K) := by
  intro value slice pins s σ H x y v u Q I rx ry h hs
  obtain ⟨p, xs, i, z, rfl, rfl, hq, he, q⟩ := h
  cases rx
  obtain ⟨t, rfl⟩ := ry
  obtain ⟨its, r, pl, hz⟩ := I.tuple hq
  obtain ⟨j, h1, h2, h3, h4, h5⟩ := atI_get he
  obtain ⟨w, ew, rw'⟩ := r.get h2
  have hl := r.length
  have hn := line63
  have fin : EP X pins σ Q w s := ⟨z, H, I, rw', q⟩
  exact subscriptTail_builtinR (x := w) pl.typeIs slot_tuple_getitem.lookup
    (getItem_tuple (j := j) (Q := fun r s' => r = w ∧ EP X pins σ Q r s') pl (by omega) (by omega) (by rw [List.size_toArray, ← hl]; exact h1) (by simpa using ew) ⟨rfl, fin⟩) hs
theorem ix_str : IxR X rIxS := by
  intro value slice pins s σ H x y v u Q I rx ry h hs
  obtain ⟨z, i, c, rfl, rfl, hz, he, q⟩ := h
  obtain ⟨t, rfl⟩ := rx
  obtain ⟨t', rfl⟩ := ry
  obtain ⟨j, h1, h2, h3, h4, h5⟩ := atI_get he
  have hl : z.cps.toList.length = z.length := by simp [Str.length]
  rw [hl] at h1 h4 h5
  have hn := line63
  exact tail_any (typeIs_str s z t) slot_str_getitem.lookup (getItem_str (c := c) (by
    have e1 : decide (i < -(2 ^ 63 : Int)) = false := decide_eq_false (by omega)
    have e2 : decide (i ≥ 2 ^ 63) = false := decide_eq_false (by omega)
    rw [e1, e2, Bool.or_false]) (by rw [h1]; simpa using h2) ⟨.str ⟨#[c]⟩, H, I.tok _, ⟨_, rfl⟩, q⟩) hs
def rIx (K : PySem.W.Frag) : R2 := fun x y H Q => rIxL K x y H Q ∨ rIxT K x y H Q ∨ rIxS x y H Q
theorem ix_seq : IxR X (rIx X.K) := ix_list.or (ix_tup.or ix_str)
theorem mapSeq_set (its : List Value) (n j : Nat) (u : Value) : Obj.mapSeq (·.setIfInBounds j u) { cls := .type "list", data := .seq its.toArray n } = { cls := .type "list", data := .seq (its.set j u).toArray n } := by
  simp [Obj.mapSeq]
theorem Inv.lst {pins : List (Addr × Obj)} {σ : St} {H : Hp} {s : Shared} {p : Addr} {xs : List V} (I : Inv X pins σ H s) (h : H p = some (.lst xs)) :
    ∃ (its : List Value) (n : Nat), Vals xs its ∧ s.heap.get? p = some { cls := .type "list", data := .seq its.toArray n } ∧ xs.length ≤ sizeLine := by
  obtain ⟨z, its, n, r, e⟩ := I.hok p _ h
  exact ⟨its, n, r, e, z⟩
theorem Inv.lstUpd {pins : List (Addr × Obj)} {σ : St} {H : Hp} {s : Shared} {p : Addr} {xs ys : List V} {its its' : List Value} {n n' : Nat} {f : Obj → Obj} (I : Inv X pins σ H s) (h : H p = some (.lst xs))
    (ho : s.heap.get? p = some { cls := .type "list", data := .seq its.toArray n }) (hf : f { cls := .type "list", data := .seq its.toArray n } = { cls := .type "list", data := .seq its'.toArray n' }) (r : Vals ys its') (hz : ys.length ≤ sizeLine) (t : Nat) :
    Inv X pins σ (upd H p (.lst ys)) { s with heap := s.heap.update p f, toks := t } := by
  have e : (s.heap.update p f).get? p = some { cls := .type "list", data := .seq its'.toArray n' } := by
    rw [Heap.get?_update_self f ho (by rw [hf] <;> rfl), hf]
  refine I.write (x := p) (e := p) (by rw [h]; trivial) (.inl rfl) (fun b u hb q => (Heap.get?_update_other _ _ (Ne.symm hb)).trans q) ⟨_, e⟩ ?_
  exact ⟨hz, its', n', r, e⟩
def rSetL : V → V → V → Hp → (Hp → Prop) → Prop := fun o i v H Q => ∃ p xs k j, o = .ref p ∧ i = .int k ∧ H p = some (.lst xs) ∧ ixN xs.length k = some j ∧ Q (upd H p (.lst (xs.set j v)))
theorem set_list : PSet X rSetL := by
  intro pins s σ H o i v ov iv u Q I ro ri rv h
  obtain ⟨p, xs, k, j, rfl, rfl, hp, hj, q⟩ := h
  cases ro
  obtain ⟨t, rfl⟩ := ri
  obtain ⟨its, n, r, ho, hz⟩ := I.lst hp
  obtain ⟨h1, h2, h3, h4⟩ := ixN_seq hj
  have hl := r.length
  have hn := line63
  have I' : Inv X pins σ (upd H p (.lst (xs.set j v))) { s with heap := s.heap.update p (Obj.mapSeq (·.setIfInBounds j u)) } :=
    I.lstUpd hp ho (mapSeq_set its n j u) (r.set rv j) (by rw [List.length_set]; exact hz) s.toks
  by_cases h0 : 0 ≤ k
  · have hk : k.toNat = j := by
      rw [seqIndex_of h0 h4] at h1
      exact Option.some.inj h1
    exact PySem.W.ki_setAt ho h0 (by omega) (by rw [List.size_toArray, ← hl]; exact h4) (by rw [hk]; exact ⟨_, I', q⟩)
  · have hk : (k + (its.toArray.size : Int)).toNat = j := by
      rw [seqIndex_neg (by omega) h3] at h1
      rw [List.size_toArray, ← hl]
      exact Option.some.inj h1
    exact PySem.W.ki_setBack ho (by omega) (by rw [List.size_toArray, ← hl]; exact h3) (by omega) (by rw [hk]; exact ⟨_, I', q⟩)
theorem slice_bounds (lo hi : Option Int) (n : Nat) : (sliceBounds lo hi none n).1 = ((HT.sIx n 0 lo : Nat) : Int) ∧ (sliceBounds lo hi none n).2.1 = ((HT.sIx n n hi : Nat) : Int) ∧ (sliceBounds lo hi none n).2.2 = 1 := by
  refine ⟨?_, ?_, rfl⟩
  · cases lo with
    | none => simp [sliceBounds, HT.sIx]
    | some i =>
      simp only [sliceBounds, HT.sIx, Option.getD_none, show (1 : Int) > 0 by decide, if_true]
      by_cases h : i < 0
      · simp only [h, if_true] <;> omega
      · simp only [h, if_false] <;> omega
  · cases hi with
    | none => simp [sliceBounds, HT.sIx]
    | some i =>
      simp only [sliceBounds, HT.sIx, Option.getD_none, show (1 : Int) > 0 by decide, if_true]
      by_cases h : i < 0
      · simp only [h, if_true] <;> omega
      · simp only [h, if_false] <;> omega
theorem slicePick_cut (its : List Value) (lo hi : Option Int) : slicePick its.toArray lo hi none = ((its.drop (HT.sIx its.length 0 lo)).take (HT.sIx its.length its.length hi - HT.sIx its.length 0 lo)).toArray := by
  obtain ⟨h1, h2, h3⟩ := slice_bounds lo hi its.toArray.size
  unfold slicePick
  rw [h1, h2, h3]
  simp only [sliceRange_one, pick_run, List.size_toArray] <;> rfl
def rSlL (K : PySem.W.Frag) : V → Option Int → Option Int → Hp → VK → Prop := fun x lo hi H Q => ∃ a xs, x = .ref a ∧ SqL K H a xs ∧ ∀ p, H p = none → Q (.ref p) (upd H p (.lst (cutV xs lo hi)))
theorem sl_list : SlR X (rSlL X.K) := by
  intro pins s σ H x v vl vu lo hi sl Q I rx hs pl pu h
  obtain ⟨a, xs, rfl, hx, q⟩ := h
  cases rx
  obtain ⟨its, r, ht, hz⟩ := I.list hx
  have hlen := r.length
  refine ⟨"list", _, slot_list_getitem.lookup, ht.isList.typeIs, ?_⟩
  refine wpAny_getItem_list_slice ht.isList hs pl pu .none (by simp) ?_ (by rw [List.size_toArray] <;> omega)
  rw [slicePick_cut, ← hlen]
  refine ⟨.ref s.heap.objs.size, _, I.laid (t' := s.toks) (o := .lst (cutV xs lo hi)) (fun b ob q => Heap.get?_push_of_some _ q) (Nat.le_refl _) ?_, rfl, q _ (I.hok.fresh (Nat.le_refl _))⟩
  exact ⟨Nat.le_trans (cutV_length xs lo hi) hz, _, 0, (r.drop (HT.sIx xs.length 0 lo)).take (HT.sIx xs.length xs.length hi - HT.sIx xs.length 0 lo), Heap.get?_push_size _ rfl⟩
def flatV : V → Bool
  | .non => true
  | .bl _ => true
  | .int _ => true
  | .str _ => true
  | _ => false
def eqV : V → V → Bool
  | .non, .non => true
  | .bl a, .bl b => a == b
  | .bl a, .int b => (if a then 1 else 0) == b
  | .int a, .bl b => a == (if b then 1 else 0)
  | .int a, .int b => a == b
  | .str a, .str b => a == b
  | _, _ => false
theorem eqAt_V {A : Around} {s : Shared} {y x : V} {u v : Value} (ry : RelV y u) (rx : RelV x v) (fy : flatV y = true) (fx : flatV x = true) : SeqAt.EqAt A s u v (eqV y x) := by
  cases y with
  | non =>
    cases ry
    cases x with
    | non => cases rx; exact SeqAt.EqAt.same _
    | bl b => cases rx; exact SeqAt.EqAt.none_bool b
    | int b => obtain ⟨t, rfl⟩ := rx; exact SeqAt.EqAt.none_int b t
    | str b => obtain ⟨t, rfl⟩ := rx; exact SeqAt.EqAt.none_str b t
    | _ => exact absurd (show false = true from fx) Bool.false_ne_true
  | bl a =>
    cases ry
    cases x with
    | non => cases rx; exact SeqAt.EqAt.bool_none a
    | bl b => cases rx; exact SeqAt.EqAt.bool_bool a b
    | int b => obtain ⟨t, rfl⟩ := rx; exact SeqAt.EqAt.bool_int a b t
    | str b => obtain ⟨t, rfl⟩ := rx; exact SeqAt.EqAt.bool_str a b t
    | _ => exact absurd (show false = true from fx) Bool.false_ne_true
  | int a =>
    obtain ⟨t', rfl⟩ := ry
    cases x with
    | non => cases rx; exact SeqAt.EqAt.int_none a t'
    | bl b => cases rx; exact SeqAt.EqAt.int_bool a t' b
    | int b => obtain ⟨t, rfl⟩ := rx; exact SeqAt.EqAt.int_int a t' b t
    | str b => obtain ⟨t, rfl⟩ := rx; exact SeqAt.EqAt.int_str a t' b t
    | _ => exact absurd (show false = true from fx) Bool.false_ne_true
  | str a =>
    obtain ⟨t', rfl⟩ := ry
    cases x with
    | non => cases rx; exact SeqAt.EqAt.str_none a t'
    | bl b => cases rx; exact SeqAt.EqAt.str_bool a t' b
    | int b => obtain ⟨t, rfl⟩ := rx; exact SeqAt.EqAt.str_int a t' b t
    | str b => obtain ⟨t, rfl⟩ := rx; exact SeqAt.EqAt.str_str a t' b t
    | _ => exact absurd (show false = true from fx) Bool.false_ne_true
  | _ => exact absurd (show false = true from fy) Bool.false_ne_true
def eqU (x : V) (u : Value) : Bool := match u with
  | .none => eqV .non x
  | .bool b => eqV (.bl b) x
  | .int i _ => eqV (.int i) x
  | .str z _ => eqV (.str z) x
  | _ => false
theorem eqU_of {x y : V} {u : Value} (r : RelV y u) (f : flatV y = true) : eqU x u = eqV y x := by
  cases y with
  | non => cases r; rfl
  | bl b => cases r; rfl
  | int i => obtain ⟨t, rfl⟩ := r; rfl
  | str z => obtain ⟨t, rfl⟩ := r; rfl
  | _ => exact absurd (show false = true from f) Bool.false_ne_true
theorem any_eqU {x : V} : ∀ {xs : List V} {us : List Value}, Vals xs us → xs.all flatV = true → us.any (eqU x) = xs.any fun y => eqV y x
  | _, _, .nil, _ => rfl
  | y :: xs, u :: us, .cons r t, f => by
    rw [List.all_cons, Bool.and_eq_true] at f
    rw [List.any_cons, List.any_cons, eqU_of r f.1, any_eqU t f.2]
theorem mem_eqAt {A : Around} {s : Shared} {x : V} {v : Value} (rx : RelV x v) (fx : flatV x = true) : ∀ {xs : List V} {us : List Value}, Vals xs us → xs.all flatV = true → ∀ u ∈ us, SeqAt.EqAt A s u v (eqU x u)
  | _, _, .nil, _ => fun u hu => by cases hu
  | y :: xs, u :: us, .cons r t, f => fun u' hu => by
    rw [List.all_cons, Bool.and_eq_true] at f
    rcases List.mem_cons.mp hu with rfl | hu
    · rw [eqU_of r f.1]; exact eqAt_V r rx f.1 fx
    · exact mem_eqAt rx fx t f.2 u' hu
def inV (x : V) (xs : List V) : Bool := xs.any fun y => eqV y x
def rIn (K : PySem.W.Frag) (neg : Bool) : R2 := fun x y H Q => ∃ p xs, y = .ref p ∧ (SqL K H p xs ∨ SqT K H p xs) ∧ flatV x = true ∧ xs.all flatV = true ∧ Q (.bl (if neg then !inV x xs else inV x xs)) H
theorem op_in_seq : OpR X (compareOp .In) (rIn X.K false) := by
  intro pins s σ H x y v u Q I rx ry h
  obtain ⟨p, xs, rfl, hq, fx, fs, q⟩ := h
  cases ry
  rcases hq with hq | hq
  · obtain ⟨its, r, pl, hz⟩ := I.list hq
    refine SeqAt.in_listAt (eqU x) pl.isList (fun w hw => mem_eqAt rx fx r fs w (by simpa using hw)) ⟨.bl _, H, I, rfl, ?_⟩
    rw [show its.toArray.any (eqU x) = its.any (eqU x) by simp, any_eqU r fs]
    exact q
  · obtain ⟨its, r, pl, hz⟩ := I.tuple hq
    refine SeqAt.in_tupleAt (eqU x) pl (fun w hw => mem_eqAt rx fx r fs w (by simpa using hw)) ⟨.bl _, H, I, rfl, ?_⟩
    rw [show its.toArray.any (eqU x) = its.any (eqU x) by simp, any_eqU r fs]
    exact q
theorem op_notIn_seq : OpR X (compareOp .NotIn) (rIn X.K true) := by
  intro pins s σ H x y v u Q I rx ry h
  obtain ⟨p, xs, rfl, hq, fx, fs, q⟩ := h
  cases ry
  rcases hq with hq | hq
  · obtain ⟨its, r, pl, hz⟩ := I.list hq
    refine SeqAt.notIn_listAt (eqU x) pl.isList (fun w hw => mem_eqAt rx fx r fs w (by simpa using hw)) ⟨.bl _, H, I, rfl, ?_⟩
    rw [show its.toArray.any (eqU x) = its.any (eqU x) by simp, any_eqU r fs]
    exact q
  · obtain ⟨its, r, pl, hz⟩ := I.tuple hq
    refine SeqAt.notIn_tupleAt (eqU x) pl (fun w hw => mem_eqAt rx fx r fs w (by simpa using hw)) ⟨.bl _, H, I, rfl, ?_⟩
    rw [show its.toArray.any (eqU x) = its.any (eqU x) by simp, any_eqU r fs]
    exact q
theorem op_notIn_str : OpR X (compareOp .NotIn) (fun x y H Q => ∃ i j, x = .str i ∧ y = .str j ∧ Q (.bl (!(!(Builtin.Str.occurrences j i 0 j.length 1).isEmpty))) H) := by
  intro pins s σ H x y v u Q I rx ry h
  obtain ⟨i, j, rfl, rfl, q⟩ := h
  obtain ⟨t, rfl⟩ := rx
  obtain ⟨t', rfl⟩ := ry
  exact notIn_str ⟨.bl _, H, I, rfl, q⟩
theorem call_len_seq : CallR X (.builtin "len") (fun xs H Q => ∃ p ys, xs = [.ref p] ∧ (SqL X.K H p ys ∨ SqT X.K H p ys) ∧ Q (.int ys.length) H) := by
  intro pins s σ H xs us Q I r h
  obtain ⟨p, ys, rfl, hq, q⟩ := h
  obtain ⟨u, rfl, rx⟩ := vals1 r
  cases rx
  have hn := line63
  rcases hq with hq | hq
  · obtain ⟨its, r', pl, hz⟩ := I.list hq
    have hlen := r'.length
    exact Calls.call_len_list pl.isList (by simp only [List.size_toArray] <;> omega) ⟨.int ys.length, H, I.tok _, ⟨s.toks + 1, by rw [List.size_toArray, hlen]⟩, q⟩
  · obtain ⟨its, r', pl, hz⟩ := I.tuple hq
    have hlen := r'.length
    exact len_tuple pl (by simp only [List.size_toArray] <;> omega) ⟨.int ys.length, H, I.tok _, ⟨s.toks + 1, by rw [List.size_toArray, hlen]⟩, q⟩
theorem call_len_str : CallR X (.builtin "len") (fun xs H Q => ∃ z, xs = [.str z] ∧ z.length ≤ sizeLine ∧ Q (.int z.length) H) := by
  intro pins s σ H xs us Q I r h
  obtain ⟨z, rfl, hz, q⟩ := h
  obtain ⟨u, rfl, t, rfl⟩ := vals1 r
  have hn := line63
  exact len_str (by omega) ⟨.int z.length, H, I.tok _, ⟨_, rfl⟩, q⟩
theorem CallR.or {f : Value} {r r' : List V → Hp → VK → Prop} (h : CallR X f r) (h' : CallR X f r') : CallR X f (fun xs H Q => r xs H Q ∨ r' xs H Q) := by
  intro pins s σ H xs us Q I rs q
  rcases q with q | q
  · exact h pins s σ H xs us Q I rs q
  · exact h' pins s σ H xs us Q I rs q
theorem call_list_of : CallR X (.type "list") (fun xs H Q => ∃ p ys, xs = [.ref p] ∧ (SqL X.K H p ys ∨ SqT X.K H p ys) ∧ ∀ l, H l = none → Q (.ref l) (upd H l (.lst ys))) := by
  intro pins s σ H xs us Q I r h
  obtain ⟨p, ys, rfl, hq, q⟩ := h
  obtain ⟨u, rfl, rx⟩ := vals1 r
  cases rx
  have fin : ∀ (its : List Value), Vals ys its → ys.length ≤ sizeLine → ∀ (h' : Heap) (c' : Nat), (∀ b o', s.heap.get? b = some o' → h'.get? b = some o') →
      h'.get? s.heap.objs.size = some { cls := .type "list", dict := none, data := .seq its.toArray c', slots := #[] } → EP X pins σ Q (.ref s.heap.objs.size) { s with heap := h' } := fun its r' hz h' c' kp e =>
    ⟨.ref s.heap.objs.size, _, I.laid (t' := s.toks) kp (Nat.le_refl _) (show ObjOk X.prog X.w _ h' _ (.lst ys) from ⟨hz, its, c', r', e⟩), rfl, q _ (I.hok.fresh (Nat.le_refl _))⟩
  rcases hq with hq | hq
  · obtain ⟨its, r', pl, hz⟩ := I.list hq
    have hlen := r'.length
    obtain ⟨o, ho, hc, n, hd⟩ := pl.isList
    exact call_list_seq p (.inl rfl) ho hc hd (fun h' c' kp e => fin its r' hz h' c' kp e) (by simp only [List.size_toArray] <;> omega)
  · obtain ⟨its, r', pl, hz⟩ := I.tuple hq
    have hlen := r'.length
    obtain ⟨o, ho, hc, n, hd⟩ := pl
    exact call_list_seq p (.inr rfl) ho hc hd (fun h' c' kp e => fin its r' hz h' c' kp e) (by simp only [List.size_toArray] <;> omega)
theorem call_tuple_of : CallR X (.type "tuple") (fun xs H Q => ∃ p ys, xs = [.ref p] ∧ ((SqL X.K H p ys ∧ ∀ l, H l = none → Q (.ref l) (upd H l (.tup ys))) ∨ (SqT X.K H p ys ∧ Q (.ref p) H))) := by
  intro pins s σ H xs us Q I r h
  obtain ⟨p, ys, rfl, h⟩ := h
  obtain ⟨u, rfl, rx⟩ := vals1 r
  cases rx
  rcases h with ⟨hq, q⟩ | ⟨hq, q⟩
  · obtain ⟨its, r', pl, hz⟩ := I.list hq
    have hlen := r'.length
    refine call_tuple_list pl.isList (fun h' kp => ?_) (by simp only [List.size_toArray] <;> omega)
    have I1 : Inv X pins σ H { s with heap := h' } := I.kept (t' := s.toks) kp
    have I2 : Inv X pins σ (upd H h'.objs.size (.tup ys)) { s with heap := h'.push { cls := .type "tuple", data := .seq its.toArray } } :=
      I1.laid (t' := s.toks) (fun b o e => Heap.get?_push_of_some _ e) (Nat.le_refl _) (show ObjOk X.prog X.w _ _ _ (.tup ys) from ⟨hz, its, r', IsTup.new _ _⟩)
    exact ⟨.ref h'.objs.size, _, I2, rfl, q _ (I1.hok.fresh (Nat.le_refl _))⟩
  · obtain ⟨its, r', pl, hz⟩ := I.tuple hq
    exact call_tuple_same pl ⟨.ref p, H, I, rfl, q⟩
def tyV (K : PySem.W.Frag) (T : String) (x : V) (H : Hp) : Prop := match x with
  | .str _ => T = "str"
  | .int _ => T = "int"
  | .ref p => (T = "list" ∧ ∃ xs, SqL K H p xs) ∨ (T = "tuple" ∧ ∃ o, K.lookup p = some o ∧ o.cls = .type "tuple" ∧ o.dict = none) ∨
      (T = "dict" ∧ ((∃ kvs, H p = some (.dK kvs)) ∨ ∃ kvs, H p = some (.dT kvs))) ∨ (T = "set" ∧ ∃ S n, H p = some (.set S n))
  | _ => False
theorem tyV_is {pins : List (Addr × Obj)} {σ : St} {H : Hp} {s : Shared} {T : String} {x : V} {v : Value} (I : Inv X pins σ H s) (r : RelV x v) (ty : tyV X.K T x H) :
    s.TypeIs v T ∧ ∀ a, v = .ref a → ∃ ob, s.heap.get? a = some ob ∧ ob.dict = none := by
  cases x with
  | str z =>
    obtain ⟨t, rfl⟩ := r
    cases (show T = "str" from ty)
    exact ⟨typeIs_str s z t, fun _ e => nomatch e⟩
  | int i =>
    obtain ⟨t, rfl⟩ := r
    cases (show T = "int" from ty)
    exact ⟨typeIs_int s i t, fun _ e => nomatch e⟩
  | ref p =>
    cases r
    rcases ty with ⟨rfl, xs, hq⟩ | ⟨rfl, o, hk, hc, hd⟩ | ⟨rfl, hk⟩ | ⟨rfl, S, n, hk⟩
    · obtain ⟨its, _, pl, _⟩ := I.list hq
      refine ⟨pl.isList.typeIs, fun a e => ?_⟩
      cases e
      obtain ⟨o, n, e, c, hd, _⟩ := pl
      exact ⟨o, e, hd⟩
    · refine ⟨⟨o, I.kIn p o hk, hc⟩, fun a e => ?_⟩
      cases e
      exact ⟨o, I.kIn _ o hk, hd⟩
    · have z : ∃ o, s.heap.get? p = some o ∧ o.ExactDict := by
        rcases hk with ⟨kvs, hk⟩ | ⟨kvs, hk⟩
        · obtain ⟨_, _, _, _, o, _, _, e, ex, _⟩ := I.hok p _ hk
          exact ⟨o, e, ex⟩
        · obtain ⟨_, _, _, _, o, _, _, e, ex, _⟩ := I.hok p _ hk
          exact ⟨o, e, ex⟩
      obtain ⟨o, e, ex⟩ := z
      refine ⟨⟨o, e, ex.1⟩, fun a e2 => ?_⟩
      cases e2
      exact ⟨o, e, ex.2.1⟩
    · obtain ⟨o, _, _, _, e, ex, _⟩ := I.hok p _ hk
      refine ⟨⟨o, e, ex.1⟩, fun a e2 => ?_⟩
      cases e2
      exact ⟨o, e, ex.2.1⟩
  | _ => exact False.elim ty
def tBM0 (K : PySem.W.Frag) (T : String) (r : V → List V → Hp → VK → Prop) (to : TE) : TE := fun σ H Q => to σ H fun x H1 => tyV K T x H1 ∧ r x [] H1 Q
def tBM (K : PySem.W.Frag) (T : String) (r : V → List V → Hp → VK → Prop) (to : TE) (t : TA) : TE := fun σ H Q => to σ H fun x H1 => tyV K T x H1 ∧ t σ H1 fun xs H2 => r x xs H2 Q
variable {o e : Expr} {es : List Expr} {to : TE} {t : TA} {name : Str} {apos cpos : Pos} {T id : String} {r : V → List V → Hp → VK → Prop}
theorem pe_bm0 (pa : PlainAttrs T) (slot : Slot T name id) (hty : typeOf (.builtin id) = pure (.type "method_descriptor")) (hm : MtR X id r) (ho : PE X o to)
    (hbase : attributeBase o name X.env (eval o X.env) = eval o X.env := by rfl) (hline : (apos.endLine == cpos.line) = true := by rfl) : PE X (.Call (.Attribute o name apos) [] [] cpos) (tBM0 X.K T r to) := by
  intro pins s σ H Q I h
  refine wpAny_Call_method0_late hbase hline (thn (ho pins s σ H _ I h) fun v s1 ⟨x, H1, I1, r1, ty, q1⟩ => ?_)
  obtain ⟨h1, h2⟩ := tyV_is I1 r1 ty
  exact ⟨T, id, pa, slot, hty, h1, h2, Calls.callWith_builtin rfl (PySem.evalArgs_none (hm pins s1 σ H1 x [] v [] Q I1 r1 .nil q1))⟩
theorem pe_bm (pa : PlainAttrs T) (slot : Slot T name id) (hty : typeOf (.builtin id) = pure (.type "method_descriptor")) (hm : MtR X id r) (ho : PE X o to) (ha : PA X (e :: es) t)
    (hbase : attributeBase o name X.env (eval o X.env) = eval o X.env := by rfl)
    (hfew : ((backTo cpos (starEach (e :: es) X.env)).all (fun x => !x.1) && (backToKw cpos (keywordEach [] X.env)).all (fun x => x.1.isSome)
      && decide ((e :: es).length + ([] : List Keyword).length + (if ([] : List Keyword).isEmpty then 0 else 1) < 30)) = true := by rfl)
    (hline : (apos.endLine == cpos.line) = true := by rfl) (hs : starEach (e :: es) X.env = (false, eval e X.env) :: starEach es X.env := by rfl) (hplain : (backTo cpos (starEach es X.env)).any (·.1) = false := by rfl) :
    PE X (.Call (.Attribute o name apos) (e :: es) [] cpos) (tBM X.K T r to t) := by
  intro pins s σ H Q I h
  refine wpAny_Call_method_late hbase hfew hline rfl (thn (ho pins s σ H _ I h) fun v s1 ⟨x, H1, I1, r1, ty, q1⟩ => ?_)
  obtain ⟨h1, h2⟩ := tyV_is I1 r1 ty
  refine ⟨T, id, pa, slot, hty, h1, h2, ?_⟩
  have hA := ha cpos pins s1 σ H1 _ I1 q1
  rw [hs] at hA ⊢
  refine Calls.callWith_builtin (by show (false || (backTo cpos (starEach es X.env)).any (·.1)) = false; rw [hplain] <;> rfl) (Calls.evalArgs_plain ?_)
  exact thn hA fun us s2 ⟨vs, H2, I2, r2, q2⟩ => hm pins s2 σ H2 x vs v us Q I2 r1 r2 q2
/- xs.append(e), list.index on a module's tuple .. are MtR facts of 06m -/
end
end L2
namespace L2
open PySem PySem.Spec PyProof.Rows
def MtM (X : Cx) (id : String) (r : V → List V → Hp → VK → Prop) : Prop :=
  ∀ (pins : List (Addr × Obj)) (s : Shared) (σ : St) (H : Hp) (x : V) (xs : List V) (v : Value) (us : List Value) (Q : VK), Inv X pins σ H s → RelV x v → Vals xs us → r x xs H Q →
    wpAny (model X.prog X.w) X.A (call (.builtin id) (v :: us)) (EP X pins σ Q) X.xe s
theorem Vals.one : ∀ {x : V} {us : List Value}, Vals [x] us → ∃ u, us = [u] ∧ RelV x u
  | _, _, .cons r .nil => ⟨_, rfl, r⟩
theorem Vals.two : ∀ {x y : V} {us : List Value}, Vals [x, y] us → ∃ u v, us = [u, v] ∧ RelV x u ∧ RelV y v
  | _, _, _, .cons r (.cons q .nil) => ⟨_, _, rfl, r, q⟩
theorem Vals.zero : ∀ {us : List Value}, Vals [] us → us = []
  | _, .nil => rfl
theorem Vals.dropLast {xs : List V} {us : List Value} (h : Vals xs us) : Vals xs.dropLast us.dropLast := by
  induction h with
  | nil => exact .nil
  | cons r t ih =>
    cases t with
    | nil => exact .nil
    | cons q t' => exact .cons r ih
theorem Vals.eraseIdx : ∀ {xs : List V} {us : List Value} (i : Nat), Vals xs us → Vals (xs.eraseIdx i) (us.eraseIdx i)
  | _, _, _, .nil => .nil
  | _, _, 0, .cons _ t => t
  | _, _, i + 1, .cons r t => .cons r (Vals.eraseIdx i t)
theorem Vals.reverse {xs : List V} {us : List Value} (h : Vals xs us) : Vals xs.reverse us.reverse := by
  induction h with
  | nil => exact .nil
  | cons r t ih => rw [List.reverse_cons, List.reverse_cons]; exact Vals.append ih (.cons r .nil)
theorem Vals.rep {xs : List V} {us : List Value} (h : Vals xs us) : ∀ k : Nat, Vals (List.replicate k xs).flatten (List.replicate k us).flatten
  | 0 => .nil
  | k + 1 => by
    rw [List.replicate_succ, List.replicate_succ, List.flatten_cons, List.flatten_cons]
    exact Vals.append h (Vals.rep h k)
theorem erase_last {α : Type} (l : List α) : l.eraseIdx (l.length - 1) = l.dropLast := by
  induction l with
  | nil => rfl
  | cons a r ih =>
    cases r with
    | nil => rfl
    | cons b r =>
      have e : (a :: b :: r).length - 1 = ((b :: r).length - 1) + 1 := by
        have h1 : (a :: b :: r).length = r.length + 2 := rfl
        have h2 : (b :: r).length = r.length + 1 := rfl
        omega
      rw [e, List.eraseIdx_cons_succ, ih]
      all_goals rfl
theorem len_erase {α : Type} : ∀ (l : List α) (i : Nat), (l.eraseIdx i).length ≤ l.length
  | [], _ => Nat.le_refl _
  | _ :: _, 0 => Nat.le_succ _
  | _ :: r, i + 1 => Nat.succ_le_succ (len_erase r i)
theorem foldl_rep (its : List Value) : ∀ (k : Nat) (acc : List Value),
    List.foldl (fun x1 x2 => x1 ++ x2) acc.toArray (List.replicate k its.toArray) = (acc ++ (List.replicate k its).flatten).toArray
  | 0, acc => by simp
  | k + 1, acc => by
    have e : acc.toArray ++ its.toArray = (acc ++ its).toArray := by simp
    have e2 : (acc ++ its) ++ (List.replicate k its).flatten = acc ++ (List.replicate (k + 1) its).flatten := by
      rw [List.replicate_succ, List.flatten_cons, List.append_assoc]
    rw [← e2, ← foldl_rep its k (acc ++ its), ← e, List.replicate_succ, List.foldl_cons]
section
variable {X : Cx} {pins : List (Addr × Obj)} {σ : St} {H : Hp} {s : Shared} {l b : Addr} {xs ys zs : List V}
theorem Inv.lset {its its' : List Value} {n : Nat} {f : Array Value → Array Value} {t' : Nat} (I : Inv X pins σ H s) (hH : H l = some (.lst xs))
    (e : s.heap.get? l = some { cls := .type "list", data := .seq its.toArray n }) (hf : f its.toArray = its'.toArray) (hv : Vals ys its') (hz : ys.length ≤ sizeLine) :
    Inv X pins σ (upd H l (.lst ys)) { s with heap := s.heap.update l (Obj.mapSeq f), toks := t' } := by
  have q := PySem.IsL.update e f
  rw [hf] at q
  refine I.write (x := l) (e := l) (by rw [hH]; exact trivial) (.inl rfl) (fun b' u hb hu => (Heap.get?_update_other s.heap (Obj.mapSeq f) (Ne.symm hb)).trans hu) ⟨_, q⟩ ?_
  exact ⟨hz, its', _, hv, q⟩
theorem Inv.lnew {its : List Value} {t' : Nat} (I : Inv X pins σ H s) (hv : Vals ys its) (hz : ys.length ≤ sizeLine) :
    Inv X pins σ (upd H s.heap.objs.size (.lst ys)) { s with heap := s.heap.push { cls := .type "list", data := .seq its.toArray }, toks := t' } :=
  I.laid (fun _ _ q => Heap.get?_push_of_some _ q) (Nat.le_refl _) ⟨hz, its, 0, hv, Heap.get?_push_size _ rfl⟩
theorem Inv.fresh (I : Inv X pins σ H s) : H s.heap.objs.size = none := I.hok.fresh (Nat.le_refl _)
theorem Inv.lstM (I : Inv X pins σ H s) (hH : H l = some (.lst xs)) : xs.length ≤ sizeLine ∧ ∃ (its : List Value) (n : Nat), Vals xs its ∧ xs.length = its.length ∧ s.heap.get? l = some { cls := .type "list", data := .seq its.toArray n } := by
  obtain ⟨z, its, n, r, e⟩ := I.hok l _ hH
  exact ⟨z, its, n, r, r.length, e⟩
theorem notLongL {n : Nat} (h : n ≤ sizeLine) : Builtin.List.listTooLong n = false := by
  unfold Builtin.List.listTooLong
  exact decide_eq_false (by omega)
end
section
variable {X : Cx}
def rAppend : V → List V → Hp → VK → Prop := fun x vs H Q => ∃ l xs y, x = .ref l ∧ vs = [y] ∧ H l = some (.lst xs) ∧ xs.length < sizeLine ∧ Q .non (upd H l (.lst (xs ++ [y])))
theorem mt_append : MtM X "list.append" rAppend := by
  intro pins s σ H x vs v us Q I rx rv h
  obtain ⟨l, xs, y, rfl, rfl, hH, hz, q⟩ := h
  cases rx
  obtain ⟨u, rfl, ru⟩ := rv.one
  obtain ⟨z, its, n, r, hl, e⟩ := I.lstM hH
  refine call_meets F.slot_list_append ⟨_, e, rfl⟩ F.entry_list_append (F.args_list_append_2 _ _) (PySem.list_append l its.toArray n u (by rw [List.size_toArray]; omega)) ⟨e, ?_⟩
  refine ⟨.non, _, I.lset (its' := its ++ [u]) hH e (by simp) (r.append (.cons ru .nil)) ?_, rfl, q⟩
  rw [List.length_append, List.length_singleton]
  omega
def rExtend : V → List V → Hp → VK → Prop := fun x vs H Q => ∃ l b xs zs, x = .ref l ∧ vs = [.ref b] ∧ H l = some (.lst xs) ∧ H b = some (.lst zs) ∧ xs.length + zs.length ≤ sizeLine ∧ Q .non (upd H l (.lst (xs ++ zs)))
theorem mt_extend : MtM X "list.extend" rExtend := by
  intro pins s σ H x vs v us Q I rx rv h
  obtain ⟨l, b, xs, zs, rfl, rfl, hH, hB, hz, q⟩ := h
  cases rx
  obtain ⟨u, rfl, ru⟩ := rv.one
  cases ru
  obtain ⟨z, its, n, r, hl, e⟩ := I.lstM hH
  obtain ⟨z2, its2, n2, r2, hl2, e2⟩ := I.lstM hB
  have hsz : its.toArray.size + its2.toArray.size ≤ sizeLine := by rw [List.size_toArray, List.size_toArray]; omega
  have hlong : ¬ (!its.toArray.isEmpty && Builtin.List.listTooLong (its.toArray.size + its2.toArray.size)) = true := by
    rw [notLongL hsz, Bool.and_false]
    exact Bool.false_ne_true
  refine call_meets F.slot_list_extend ⟨_, e, rfl⟩ F.entry_list_extend (F.args_list_extend_2 _ _)
    (AutoSeq1.list_extend_list_list_0 l its.toArray n b its2.toArray n2 hlong (by rw [List.size_toArray]; omega) (by omega)) ⟨e, e2, ?_⟩
  refine ⟨.non, _, I.lset (its' := its ++ its2) hH e (by simp) (r.append r2) ?_, rfl, q⟩
  rw [List.length_append]
  omega
def rPop : V → List V → Hp → VK → Prop := fun x vs H Q => ∃ l xs y, x = .ref l ∧ vs = [] ∧ H l = some (.lst xs) ∧ xs[xs.length - 1]? = some y ∧ Q y (upd H l (.lst xs.dropLast))
theorem mt_pop : MtM X "list.pop" rPop := by
  intro pins s σ H x vs v us Q I rx rv h
  obtain ⟨l, xs, y, rfl, rfl, hH, hy, q⟩ := h
  cases rx
  have hus := rv.zero
  subst hus
  obtain ⟨z, its, n, r, hl, e⟩ := I.lstM hH
  obtain ⟨u, hu, ru⟩ := r.get hy
  have hy' : its.toArray[its.toArray.size - 1]? = some u := by
    show its.toArray[its.length - 1]? = some u
    rw [← Array.getElem?_toList, ← hl]
    exact hu
  refine call_meets F.slot_list_pop ⟨_, e, rfl⟩ F.entry_list_pop (F.args_list_pop_1 _) (MeetsSeq.list_pop_last l its.toArray n u hy' (by rw [List.size_toArray]; omega)) ⟨e, ?_⟩
  refine ⟨y, _, I.lset (its' := its.dropLast) hH e ?_ r.dropLast ?_, ru, q⟩
  · show its.toArray.eraseIdxIfInBounds (its.toArray.size - 1) = its.dropLast.toArray
    rw [List.size_toArray, List.eraseIdxIfInBounds_toArray, erase_last]
  · rw [List.length_dropLast]
    omega
def rPopAt : V → List V → Hp → VK → Prop := fun x vs H Q => ∃ l xs i k y, x = .ref l ∧ vs = [.int i] ∧ H l = some (.lst xs) ∧ -(2 ^ 63) ≤ i ∧ i < 2 ^ 63 ∧ seqIndex? i xs.length = some k ∧ xs[k]? = some y ∧ Q y (upd H l (.lst (xs.eraseIdx k)))
theorem mt_popAt : MtM X "list.pop" rPopAt := by
  intro pins s σ H x vs v us Q I rx rv h
  obtain ⟨l, xs, i, k, y, rfl, rfl, hH, h1, h2, hk, hy, q⟩ := h
  cases rx
  obtain ⟨u, rfl, ru⟩ := rv.one
  obtain ⟨t, rfl⟩ := ru
  obtain ⟨z, its, n, r, hl, e⟩ := I.lstM hH
  obtain ⟨w, hw, rw'⟩ := r.get hy
  refine call_meets F.slot_list_pop ⟨_, e, rfl⟩ F.entry_list_pop (F.args_list_pop_2 _ _)
    (MeetsSeq.list_pop_at l its.toArray n i t k w (fitsIndex_both h1 h2) (by rw [List.size_toArray, ← hl]; exact hk) (by rw [← Array.getElem?_toList]; exact hw) (by rw [List.size_toArray]; omega)) ⟨e, ?_⟩
  refine ⟨y, _, I.lset (its' := its.eraseIdx k) hH e ?_ (r.eraseIdx k) ?_, rw', q⟩
  · show its.toArray.eraseIdxIfInBounds k = (its.eraseIdx k).toArray
    rw [List.eraseIdxIfInBounds_toArray]
  · have := len_erase xs k
    omega
def rReverse : V → List V → Hp → VK → Prop := fun x vs H Q => ∃ l xs, x = .ref l ∧ vs = [] ∧ H l = some (.lst xs) ∧ Q .non (upd H l (.lst xs.reverse))
theorem mt_reverse : MtM X "list.reverse" rReverse := by
  intro pins s σ H x vs v us Q I rx rv h
  obtain ⟨l, xs, rfl, rfl, hH, q⟩ := h
  cases rx
  have hus := rv.zero
  subst hus
  obtain ⟨z, its, n, r, hl, e⟩ := I.lstM hH
  refine call_meets F.slot_list_reverse ⟨_, e, rfl⟩ F.entry_list_reverse (F.args_list_reverse_1 _) (AutoSeq1.list_reverse_list_0 l its.toArray n (by rw [List.size_toArray]; omega)) ⟨e, ?_⟩
  refine ⟨.non, _, I.lset (its' := its.reverse) hH e (by simp) r.reverse ?_, rfl, q⟩
  rw [List.length_reverse]
  omega
def rClear : V → List V → Hp → VK → Prop := fun x vs H Q => ∃ l xs, x = .ref l ∧ vs = [] ∧ H l = some (.lst xs) ∧ Q .non (upd H l (.lst []))
theorem mt_clear : MtM X "list.clear" rClear := by
  intro pins s σ H x vs v us Q I rx rv h
  obtain ⟨l, xs, rfl, rfl, hH, q⟩ := h
  cases rx
  have hus := rv.zero
  subst hus
  obtain ⟨z, its, n, r, hl, e⟩ := I.lstM hH
  refine call_meets F.slot_list_clear ⟨_, e, rfl⟩ F.entry_list_clear (F.args_list_clear_1 _) (AutoSeq1.list_clear_list_0 l its.toArray n (by rw [List.size_toArray]; omega)) ⟨e, ?_⟩
  exact ⟨.non, _, I.lset (its' := []) (ys := []) hH e rfl .nil (Nat.zero_le _), rfl, q⟩
def rCat : R2 := fun x y H Q => ∃ l b xs zs, x = .ref l ∧ y = .ref b ∧ H l = some (.lst xs) ∧ H b = some (.lst zs) ∧ xs.length + zs.length ≤ sizeLine ∧ ∀ p, H p = none → Q (.ref p) (upd H p (.lst (xs ++ zs)))
theorem op_cat : OpR X (binaryOp .Add) rCat := by
  intro pins s σ H x y v u Q I rx ry h
  obtain ⟨l, b, xs, zs, rfl, rfl, hH, hB, hz, q⟩ := h
  cases rx
  cases ry
  obtain ⟨z, its, n, r, hl, e⟩ := I.lstM hH
  obtain ⟨z2, its2, n2, r2, hl2, e2⟩ := I.lstM hB
  refine PySem.P.add_list e e2 ?_ (by rw [List.size_toArray, List.size_toArray]; omega)
  have ea : its.toArray ++ its2.toArray = (its ++ its2).toArray := by simp
  rw [ea]
  exact ⟨.ref _, _, I.lnew (t' := s.toks) (r.append r2) (by rw [List.length_append]; omega), rfl, q _ I.fresh⟩
def rRep : R2 := fun x y H Q => ∃ l k xs, x = .ref l ∧ y = .int k ∧ H l = some (.lst xs) ∧ -(2 ^ 63) ≤ k ∧ k < 2 ^ 63 ∧ xs.length * k.toNat ≤ sizeLine ∧
  ∀ p, H p = none → Q (.ref p) (upd H p (.lst (List.replicate k.toNat xs).flatten))
theorem len_rep {α : Type} (xs : List α) (k : Nat) : (List.replicate k xs).flatten.length = k * xs.length := by
  induction k with
  | zero => simp
  | succ k ih => rw [List.replicate_succ, List.flatten_cons, List.length_append, ih, Nat.succ_mul, Nat.add_comm]
theorem op_rep : OpR X (binaryOp .Mult) rRep := by
  intro pins s σ H x y v u Q I rx ry h
  obtain ⟨l, k, xs, rfl, rfl, hH, h1, h2, hz, q⟩ := h
  cases rx
  obtain ⟨t, rfl⟩ := ry
  obtain ⟨z, its, n, r, hl, e⟩ := I.lstM hH
  have hlen : its.toArray.size * k.toNat ≤ sizeLine := by rw [List.size_toArray, ← hl]; exact hz
  have hcap : ¬ its.toArray.size * k.toNat > (2 ^ 63 - 1) / 8 := by
    have : (sizeLine : Nat) ≤ (2 ^ 63 - 1) / 8 := by decide
    omega
  have hfit : ¬ (!Builtin.List.listFitsIndex k) = true := by
    rw [fitsIndex_both h1 h2]
    exact Bool.false_ne_true
  have hlong : ¬ Builtin.List.listTooLong (its.toArray.size * k.toNat) = true := by
    rw [notLongL hlen]
    exact Bool.false_ne_true
  have hnew : List.foldl (fun x1 x2 => x1 ++ x2) #[] (List.replicate (if its.toArray.isEmpty = true then 0 else k.toNat) its.toArray) = (List.replicate k.toNat its).flatten.toArray := by
    have f0 : ∀ m : Nat, List.foldl (fun x1 x2 => x1 ++ x2) #[] (List.replicate m its.toArray) = (List.replicate m its).flatten.toArray := fun m => by
      have := foldl_rep its m []
      rw [List.nil_append] at this
      exact this
    rw [f0]
    cases its with
    | nil => simp
    | cons a r' => rw [if_neg (by simp)]
  refine wpAny_binaryOp_repeat_ref (T := "list") (U := "int") (by decide) ⟨_, e, rfl⟩ (fun s' => typeIs_int s' k t) noFill_list_mul F.fills_int_mul F.slot_int_rmul repeat_list F.slot_int_index.lookup
    (call_meets F.slot_int_rmul (typeIs_int s k t) F.entry_int_rmul (F.args_int_rmul_2 _ _) (int___rmul___int_list k t l its.toArray n)
      ⟨e, rfl, ⟨_, e, rfl⟩, call_meets F.slot_list_mul ⟨_, e, rfl⟩ F.entry_list_mul (F.args_list_mul_2 _ _) (AutoListH.list___mul___list_int_3 l its.toArray n k t hfit hcap hlong) ⟨e, ?_⟩⟩)
  rw [hnew]
  exact ⟨.ref _, _, I.lnew (t' := s.toks) (r.rep k.toNat) (by rw [len_rep, Nat.mul_comm]; exact hz), rfl, q _ I.fresh⟩
theorem del_list {pins : List (Addr × Obj)} {s : Shared} {σ : St} {H : Hp} {l : Addr} {xs : List V} {i : Int} {t : Tok} {k : Nat} {Q : Unit → Shared → Prop} (I : Inv X pins σ H s) (hH : H l = some (.lst xs))
    (h1 : -(2 ^ 63) ≤ i) (h2 : i < 2 ^ 63) (hk : seqIndex? i xs.length = some k) (h : ∀ s', Inv X pins σ (upd H l (.lst (xs.eraseIdx k))) s' → Q () s') :
    wpAny (model X.prog X.w) X.A (delItem (.ref l) (.int i t)) Q X.xe s := by
  obtain ⟨z, its, n, r, hl, e⟩ := I.lstM hH
  refine PySem.P.delItem_list (k := k) e (fitsIndex_both h1 h2) (by rw [List.size_toArray, ← hl]; exact hk) (h _ ?_) (by rw [List.size_toArray]; omega)
  refine I.lset (its' := its.eraseIdx k) (t' := s.toks) hH e ?_ (r.eraseIdx k) ?_
  · show its.toArray.eraseIdxIfInBounds k = (its.eraseIdx k).toArray
    rw [List.eraseIdxIfInBounds_toArray]
  · have := len_erase xs k
    omega
end
section
variable {prog : Program} {w : World} {A : Around} {E : Value → Shared → Prop} {s : Shared}
theorem splice_eq (its its2 : List Value) (a c : Nat) : its.toArray.extract 0 a ++ its2.toArray ++ its.toArray.extract c its.toArray.size = (its.take a ++ its2 ++ its.drop c).toArray := by
  apply Array.toList_inj.mp
  first
    | (simp
       exact List.take_of_length_le (by simp))
    | simp [List.take_of_length_le]
    | simp
theorem bounds_run {a c n : Nat} (hac : a ≤ c) (hc : c ≤ n) : sliceBounds (some (a : Int)) (some (c : Int)) none n = ((a : Int), (c : Int), 1) := by
  simp only [sliceBounds, Option.getD_none]
  have h1 : ¬ ((a : Int) < 0) := by omega
  have h2 : ¬ ((c : Int) < 0) := by omega
  simp only [h1, h2, if_false, show (1 : Int) > 0 by decide, if_true]
  congr 1
  · omega
  · congr 1; omega
set_option maxRecDepth 100000 in
theorem setItem_slice {l b sl : Addr} {items new : Array Value} {n n2 : Nat} {vl vu : Value} {a c : Nat} {Q : Unit → Shared → Prop}
    (e : s.heap.get? l = some { cls := .type "list", data := .seq items n }) (e2 : s.heap.get? b = some { cls := .type "list", data := .seq new n2 }) (hne : l ≠ b)
    (hs : s.heap.IsSliceOf sl vl vu .none) (pl : IsPart vl (some (a : Int))) (pu : IsPart vu (some (c : Int))) (hac : a ≤ c) (hc : c ≤ items.size)
    (hsz : items.size + new.size ≤ sizeLine) (h : Q () { s with heap := s.heap.update l (Obj.mapSeq fun xs => xs.extract 0 a ++ new ++ xs.extract c xs.size) }) :
    wpAny (model prog w) A (setItem (.ref l) (.ref sl) (.ref b)) Q E s := by
  have hl : s.heap.IsList l items := PySem.IsL.isList e
  have hb : s.heap.IsList b new := PySem.IsL.isList e2
  obtain ⟨os, hos, hcs, hds⟩ := id hs
  have hTs : s.TypeIs (.ref sl) "slice" := ⟨os, hos, hcs⟩
  have hstep : ¬ ((rawPart none == rawInt 0) = true) := Bool.false_ne_true
  have hsame : Builtin.List.listSameRef (.ref l) (.ref b) = false := by
    unfold Builtin.List.listSameRef
    exact beq_eq_false_iff_ne.mpr hne
  have hmax : (max (a : Int) (c : Int)).toNat = c := by omega
  have hz' : ((fun xs : Array Value => xs.extract 0 a ++ new ++ xs.extract c xs.size) items).size ≤ sizeLine + 1 := by
    simp only [Array.size_append, Array.size_extract]
    omega
  unfold setItem
  try with_reducible refine wpAny_holding ?_
  first | refine wpAny_bind (wpAny_pure ?_) | skip
  refine wpAny_bind (wpAny_sequenceKey hl.typeIs (by decide) ?_)
  refine wpAny_bind (wpAny_callSpecial?_slot (name := Str.ofString "__setitem__") hl.typeIs slot_list_setitem
    (wpAny_call_entry slot_list_setitem hl.typeIs entry_list_setitem ?_ (args_list_setitem _ _ _)))
  show wpAny _ _ (Builtin.List.listSubscript? (.ref sl) >>= _) _ _ s
  refine wpAny_bind ?_
  unfold Builtin.List.listSubscript?
  refine wpAny_bind (wpAny_specialOf hTs slice_no_index ?_)
  simp only [Option.isNone_none, if_true]
  refine wpAny_pure ?_
  show wpAny _ _ (typeOf (.ref sl) >>= _) _ _ s
  refine wpAny_bind (wpAny_typeOf hTs ?_)
  first
    | rw [if_neg (by decide)]
    | refine PySem.W.KFB.if_not (by decide) ?_
  rw [listSliceParts_eq]
  refine wpAny_bind (wpAny_bind (wpAny_field hos hds (x := .none) rfl (wpAny_bind (wpAny_listPart .none ?_))))
  rw [if_neg hstep]
  refine wpAny_bind (wpAny_field hos hds (x := vl) rfl (wpAny_bind (wpAny_listPart pl ?_)))
  refine wpAny_bind (wpAny_field hos hds (x := vu) rfl (wpAny_bind (wpAny_listPart pu (wpAny_pure ?_))))
  first
    | simp only [hsame, Bool.false_eq_true, if_false]
    | refine PySem.W.KFB.if_not hsame ?_
    | (dsimp only
       rw [if_neg (by rw [hsame]; exact Bool.false_ne_true)])
  refine wpAny_bind (m := Builtin.List.listAllItems (.ref b) "must assign iterable to extended slice") ?_
  unfold Builtin.List.listAllItems
  refine wpAny_bind (wpAny_typeOf hb.typeIs ?_)
  first
    | refine PySem.W.KFB.if_so (by decide) ?_
    | rw [if_pos (by decide)]
    | simp only [beq_self_eq_true, Bool.true_or, if_true]
  unfold Builtin.List.listItems
  refine wpAny_bind (wpAny_seqItems e2 rfl (wpAny_pure ?_))
  refine wpAny_bind (wpAny_bind (wpAny_seqItems e rfl (wpAny_pure ?_)))
  refine wpAny_bind (wpAny_of_eq ((sliceIndices_raw (some (a : Int)) (some (c : Int)) none items.size (by simp)).trans (congrArg (pure : Int × Int × Int → Sem (Int × Int × Int)) (bounds_run hac hc))) ?_)
  show wpAny _ _ (if ((1 : Int) == 1) = true then _ else _) _ _ s
  rw [if_pos (by decide)]
  refine wpAny_bind (wpAny_rule ?_)
  first
    | simp only [notLongL hsz, Bool.false_eq_true, if_false]
    | refine PySem.W.KFB.if_not (notLongL hsz) ?_
  first | refine wpAny_bind (wpAny_pure ?_) | skip
  show wpAny _ _ (updateSeq l (fun xs => xs.extract 0 ((a : Int)).toNat ++ new ++ xs.extract (max (a : Int) (c : Int)).toNat xs.size) >>= _) _ _ s
  rw [hmax, Int.toNat_natCast]
  refine wpAny_bind (wpAny_updateSeq (hz := Nat.le_trans (Nat.le_add_right _ _) hsz) (_hz' := hz') e rfl ?_)
  refine wpAny_bind (wpAny_letGo ?_)
  first
    | exact wpAny_bind (wpAny_pure (wpAny_pure ⟨.none, rfl, wpAny_pure h⟩))
    | exact wpAny_pure ⟨.none, rfl, wpAny_pure h⟩
end
section
variable {X : Cx}
theorem set_slice {pins : List (Addr × Obj)} {s : Shared} {σ : St} {H : Hp} {l b sl : Addr} {xs ys : List V} {a c : Int} {vl vu : Value} {Q : Unit → Shared → Prop} (I : Inv X pins σ H s)
    (hH : H l = some (.lst xs)) (hB : H b = some (.lst ys)) (hne : l ≠ b) (hs : s.heap.IsSliceOf sl vl vu .none) (ra : RelV (.int a) vl) (rc : RelV (.int c) vu) (h0 : 0 ≤ a) (hac : a ≤ c) (hc : c ≤ xs.length)
    (hz : xs.length + ys.length ≤ sizeLine) (h : ∀ s', Inv X pins σ (upd H l (.lst (xs.take a.toNat ++ ys ++ xs.drop c.toNat))) s' → Q () s') :
    wpAny (model X.prog X.w) X.A (setItem (.ref l) (.ref sl) (.ref b)) Q X.xe s := by
  obtain ⟨ta, rfl⟩ := ra
  obtain ⟨tc, rfl⟩ := rc
  obtain ⟨z, its, n, r, hl, e⟩ := I.lstM hH
  obtain ⟨z2, its2, n2, r2, hl2, e2⟩ := I.lstM hB
  obtain ⟨a', rfl⟩ := Int.eq_ofNat_of_zero_le h0
  obtain ⟨c', rfl⟩ := Int.eq_ofNat_of_zero_le (Int.le_trans h0 hac)
  simp only [Int.toNat_natCast] at h
  refine setItem_slice (a := a') (c := c') e e2 hne hs (.int _ _) (.int _ _) (by omega) (by rw [List.size_toArray]; omega) (by rw [List.size_toArray, List.size_toArray]; omega) (h _ ?_)
  refine I.lset (its' := its.take a' ++ its2 ++ its.drop c') (t' := s.toks) hH e ?_ (Vals.append (Vals.append (r.take _) r2) (r.drop _)) ?_
  · exact splice_eq its its2 a' c'
  · rw [List.length_append, List.length_append, List.length_take, List.length_drop]
    omega
end
end L2
namespace L2
open PySem PySem.Spec PyProof.Rows
section
variable {κ : Type} [DecidableEq κ]
def valV (kvs : List (κ × V)) (k : κ) : Option V := (kvs.find? fun kv => decide (kv.1 = k)).map (·.2)
def putK (kvs : List (κ × V)) (k : κ) (v : V) : List (κ × V) :=
  if (kvs.any fun kv => decide (kv.1 = k)) = true then kvs.map (fun kv => if kv.1 = k then (kv.1, v) else kv) else kvs ++ [(k, v)]
def dropK (kvs : List (κ × V)) (k : κ) : List (κ × V) := kvs.filter fun kv => decide (kv.1 ≠ k)
theorem valV_nil {k : κ} : valV ([] : List (κ × V)) k = none := rfl
theorem valV_pos {p : κ × V} {r : List (κ × V)} {k : κ} (e : p.1 = k) : valV (p :: r) k = some p.2 := by simp [valV, List.find?_cons, e]
theorem valV_neg {p : κ × V} {r : List (κ × V)} {k : κ} (e : ¬ p.1 = k) : valV (p :: r) k = valV r k := by simp [valV, List.find?_cons, e]
theorem valV_any (k : κ) : ∀ kvs : List (κ × V), (kvs.any fun kv => decide (kv.1 = k)) = (valV kvs k).isSome
  | [] => rfl
  | p :: r => by
    rw [List.any_cons]
    by_cases e : p.1 = k
    · simp only [valV_pos e, decide_eq_true e, Bool.true_or, Option.isSome_some]
    · rw [valV_neg e, decide_eq_false e, Bool.false_or]; exact valV_any k r
theorem valV_map (k j : κ) (y : V) : ∀ kvs : List (κ × V), valV (kvs.map fun kv => if kv.1 = k then (kv.1, y) else kv) j = (valV kvs j).map fun x => if j = k then y else x
  | [] => rfl
  | p :: r => by
    have ih := valV_map k j y r
    rw [List.map_cons]
    by_cases h : p.1 = k
    · rw [if_pos h]
      by_cases e : p.1 = j
      · rw [valV_pos (p := (p.1, y)) e, valV_pos e, Option.map_some, if_pos (e.symm.trans h)]
      · rw [valV_neg (p := (p.1, y)) e, valV_neg e, ih]
    · rw [if_neg h]
      by_cases e : p.1 = j
      · rw [valV_pos (p := p) e, valV_pos e, Option.map_some, if_neg (fun z => h (e.trans z))]
      · rw [valV_neg (p := p) e, valV_neg e, ih]
theorem valV_snoc (k j : κ) (y : V) : ∀ kvs : List (κ × V), valV kvs k = none → valV (kvs ++ [(k, y)]) j = if j = k then some y else valV kvs j
  | [], _ => by
    by_cases e : k = j
    · rw [if_pos e.symm]; exact valV_pos (p := (k, y)) e
    · rw [if_neg (fun z => e z.symm)]; exact valV_neg (p := (k, y)) e
  | p :: r, hn => by
    rw [List.cons_append]
    have hk : ¬ p.1 = k := fun z => by rw [valV_pos z] at hn; cases hn
    rw [valV_neg hk] at hn
    have ih := valV_snoc k j y r hn
    by_cases e : p.1 = j
    · rw [valV_pos e, valV_pos e, if_neg (fun z => hk (e.trans z))]
    · rw [valV_neg e, valV_neg e, ih]
theorem valV_put (kvs : List (κ × V)) (k j : κ) (y : V) : valV (putK kvs k y) j = if j = k then some y else valV kvs j := by
  unfold putK
  by_cases a : (kvs.any fun kv => decide (kv.1 = k)) = true
  · rw [if_pos a, valV_map]
    rw [valV_any] at a
    by_cases e : j = k
    · obtain ⟨x, hx⟩ := Option.isSome_iff_exists.mp a
      rw [if_pos e, e, hx, Option.map_some, if_pos rfl]
    · rw [if_neg e]
      cases valV kvs j with
      | none => rfl
      | some x => rw [Option.map_some, if_neg e]
  · rw [if_neg a]
    refine valV_snoc k j y kvs ?_
    rw [valV_any] at a
    cases q : valV kvs k with
    | none => rfl
    | some x => rw [q] at a; exact (a rfl).elim
theorem length_putK (kvs : List (κ × V)) (k : κ) (v : V) : (putK kvs k v).length ≤ kvs.length + 1 := by
  unfold putK
  split
  · rw [List.length_map]; omega
  · rw [List.length_append, List.length_cons, List.length_nil]; omega
theorem putK_new {kvs : List (κ × V)} {k : κ} (v : V) (h : valV kvs k = none) : putK kvs k v = kvs ++ [(k, v)] := by
  unfold putK
  rw [valV_any, h]
  exact if_neg (by decide)
theorem RelO.isSome_eq {o : Option V} {u : Option Value} (r : RelO o u) : o.isSome = u.isSome := by
  cases o with
  | none => cases u with
    | none => rfl
    | some _ => exact (show False from r).elim
  | some _ => cases u with
    | none => exact (show False from r).elim
    | some _ => rfl
theorem RelO.getD {o : Option V} {u : Option Value} {d : V} {d' : Value} (r : RelO o u) (rd : RelV d d') : RelV (o.getD d) (u.getD d') := by
  cases o with
  | none => cases u with
    | none => exact rd
    | some _ => exact (show False from r).elim
  | some _ => cases u with
    | none => exact (show False from r).elim
    | some _ => exact r
theorem KV.val {kvs : List (κ × V)} {vs : List (κ × Value)} (r : KV kvs vs) (k : κ) : RelO (valV kvs k) (valueAt vs k) := by
  unfold KV at r
  induction r with
  | nil => exact True.intro
  | @cons p q ps qs h t ih =>
    obtain ⟨h1, h2⟩ := h
    by_cases e : p.1 = k
    · have e' : q.1 = k := h1.symm.trans e
      have b : valueAt (q :: qs) k = some q.2 := by simp [valueAt, List.find?_cons, e']
      rw [valV_pos e, b]; exact h2
    · have e' : ¬ q.1 = k := fun z => e (h1.trans z)
      have b : valueAt (q :: qs) k = valueAt qs k := by simp [valueAt, List.find?_cons, e']
      rw [valV_neg e, b]; exact ih
theorem KV.any {kvs : List (κ × V)} {vs : List (κ × Value)} (r : KV kvs vs) (k : κ) : (kvs.any fun kv => decide (kv.1 = k)) = vs.any fun kv => decide (kv.1 = k) := by
  unfold KV at r
  induction r with
  | nil => rfl
  | cons h t ih => rw [List.any_cons, List.any_cons, ih, h.1]
theorem KV.repl {kvs : List (κ × V)} {vs : List (κ × Value)} (r : KV kvs vs) (k : κ) {y : V} {u : Value} (ry : RelV y u) :
    KV (kvs.map fun kv => if kv.1 = k then (kv.1, y) else kv) (vs.map fun kv => if kv.1 = k then (kv.1, u) else kv) := by
  unfold KV at r ⊢
  induction r with
  | nil => exact .nil
  | @cons p q ps qs h t ih =>
    rw [List.map_cons, List.map_cons]
    refine .cons ?_ ih
    obtain ⟨h1, h2⟩ := h
    by_cases e : p.1 = k
    · rw [if_pos e, if_pos (h1.symm.trans e)]; exact ⟨h1, ry⟩
    · rw [if_neg e, if_neg (fun z => e (h1.trans z))]; exact ⟨h1, h2⟩
theorem KV.put {kvs : List (κ × V)} {vs : List (κ × Value)} (r : KV kvs vs) (k : κ) {y : V} {u : Value} (ry : RelV y u) : KV (putK kvs k y) (stored vs k u) := by
  unfold putK stored
  rw [r.any k]
  by_cases e : (vs.any fun kv => decide (kv.1 = k)) = true
  · rw [if_pos e, if_pos e]; exact r.repl k ry
  · rw [if_neg e, if_neg e]; exact Paired.snoc r ⟨rfl, ry⟩
theorem KV.drop {kvs : List (κ × V)} {vs : List (κ × Value)} (r : KV kvs vs) (k : κ) : KV (dropK kvs k) (without vs k) := by
  unfold KV at r ⊢
  unfold dropK without
  induction r with
  | nil => exact .nil
  | @cons p q ps qs h t ih =>
    obtain ⟨h1, h2⟩ := h
    rw [List.filter_cons, List.filter_cons]
    by_cases e : p.1 = k
    · have a : ¬ decide (p.1 ≠ k) = true := by simp [e]
      have b : ¬ decide (q.1 ≠ k) = true := by simp [h1.symm.trans e]
      rw [if_neg a, if_neg b]; exact ih
    · have e' : ¬ q.1 = k := fun z => e (h1.trans z)
      have a : decide (p.1 ≠ k) = true := by simp [e]
      have b : decide (q.1 ≠ k) = true := by simp [e']
      rw [if_pos a, if_pos b]; exact .cons ⟨h1, h2⟩ ih
theorem KV.keys {kvs : List (κ × V)} {vs : List (κ × Value)} (r : KV kvs vs) : kvs.map (·.1) = vs.map (·.1) := by
  unfold KV at r
  induction r with
  | nil => rfl
  | cons h t ih => rw [List.map_cons, List.map_cons, ih, h.1]
theorem KV.length {kvs : List (κ × V)} {vs : List (κ × Value)} (r : KV kvs vs) : kvs.length = vs.length := Paired.length r
theorem dropK_le (kvs : List (κ × V)) (k : κ) : (dropK kvs k).length ≤ kvs.length := List.length_filter_le _ _
end
theorem kV_is {P : Program} {w : World} {k : Key} {u : Value} (r : RelV (kV k) u) : (mixKind P w).is k u = true := by
  cases k with
  | inl i => obtain ⟨t, e⟩ := (show ∃ t, u = Value.int i t from r); subst e; exact mixKind_int P w i t
  | inr x => obtain ⟨t, e⟩ := (show ∃ t, u = Value.str x t from r); subst e; exact mixKind_str P w x t
theorem kV_inj {a b : Key} (e : kV a = kV b) : a = b := by
  cases a with
  | inl i => cases b with
    | inl j => have e' : V.int i = V.int j := e; injection e' with e'; rw [e']
    | inr y => exact nomatch (show V.int i = V.str y from e)
  | inr x => cases b with
    | inl j => exact nomatch (show V.str x = V.int j from e)
    | inr y => have e' : V.str x = V.str y := e; injection e' with e'; rw [e']
theorem kVs_inj : ∀ {a b : List Key}, a.map kV = b.map kV → a = b
  | [], [], _ => rfl
  | [], _ :: _, e => by simp at e
  | _ :: _, [], e => by simp at e
  | x :: xs, y :: ys, e => by
    rw [List.map_cons, List.map_cons] at e
    injection e with e1 e2
    rw [kV_inj e1, kVs_inj e2]
theorem items_are {P : Program} {w : World} : ∀ {ks : List Key} {us : List Value}, Vals (ks.map kV) us → ItemsAre (mixKind P w) ks us
  | [], _, r => by rw [List.map_nil] at r; cases r; exact .nil
  | k :: ks, _, r => by
    rw [List.map_cons] at r
    cases r with
    | cons h t => exact .cons (kV_is h) (items_are t)
abbrev KT (H : Hp) : List (List Key × V) → List (List Key × Addr × Value) → Prop := Paired fun p q => p.1 = q.1 ∧ H q.2.1 = some (.tup (p.1.map kV)) ∧ RelV p.2 q.2.2
theorem KT.val {H : Hp} {kvs : List (List Key × V)} {xs : List (List Key × Addr × Value)} (r : KT H kvs xs) (k : List Key) : RelO (valV kvs k) ((atKey xs k).map (·.2)) := by
  induction r with
  | nil => exact True.intro
  | @cons p q ps qs h t ih =>
    obtain ⟨h1, _, h2⟩ := h
    by_cases e : p.1 = k
    · have e' : q.1 = k := h1.symm.trans e
      have b : atKey (q :: qs) k = some q.2 := by simp [atKey, List.find?_cons, e']
      rw [valV_pos e, b]; exact h2
    · have e' : ¬ q.1 = k := fun z => e (h1.trans z)
      have b : atKey (q :: qs) k = atKey qs k := by simp [atKey, List.find?_cons, e']
      rw [valV_neg e, b]; exact ih
theorem KT.repl {H : Hp} {kvs : List (List Key × V)} {xs : List (List Key × Addr × Value)} (r : KT H kvs xs) (k : List Key) {y : V} {u : Value} (ry : RelV y u) :
    KT H (kvs.map fun kv => if kv.1 = k then (kv.1, y) else kv) (xs.map (putAt k u)) := by
  induction r with
  | nil => exact .nil
  | @cons p q ps qs h t ih =>
    rw [List.map_cons, List.map_cons]
    refine .cons ?_ ih
    obtain ⟨h1, h2, h3⟩ := h
    unfold putAt
    by_cases e : p.1 = k
    · rw [if_pos e, if_pos (h1.symm.trans e)]; exact ⟨h1, h2, ry⟩
    · rw [if_neg e, if_neg (fun z => e (h1.trans z))]; exact ⟨h1, h2, h3⟩
theorem KT.put {H : Hp} {kvs : List (List Key × V)} {xs : List (List Key × Addr × Value)} (r : KT H kvs xs) (k : List Key) {b : Addr} {y : V} {u : Value} (hb : H b = some (.tup (k.map kV))) (ry : RelV y u) :
    KT H (putK kvs k y) (storedH xs k b u) := by
  have e : (kvs.any fun kv => decide (kv.1 = k)) = (atKey xs k).isSome := by
    rw [valV_any, (r.val k).isSome_eq, Option.isSome_map]
  unfold putK storedH
  rw [e]
  by_cases q : (atKey xs k).isSome = true
  · rw [if_pos q, if_pos q]; exact r.repl k ry
  · rw [if_neg q, if_neg q]; exact Paired.snoc r ⟨rfl, hb, ry⟩
theorem KT.keeps {H H' : Hp} {kvs : List (List Key × V)} {xs : List (List Key × Addr × Value)} (r : KT H kvs xs) (ht : ∀ b ys, H b = some (.tup ys) → H' b = some (.tup ys)) : KT H' kvs xs :=
  Paired.mapP r fun _ _ z => ⟨z.1, ht _ _ z.2.1, z.2.2⟩
section
variable {P : Program} {w : World} {H : Hp} {h : Heap} {a : Addr}
theorem rd_of {u : HO} (ok : HOk P w H h) (e : Rd H a u) : ObjOk P w H h a u := e.ok ok
theorem dk_rd {kvs : List (Key × V)} (ok : HOk P w H h) (e : Rd H a (.dK kvs)) : kvs.length ≤ sizeLine ∧ (a == sysModules) = false ∧ ∃ vs, KV kvs vs ∧ h.DictOf (mixKind P w) a vs :=
  show ObjOk P w H h a (.dK kvs) from rd_of ok e
theorem dk_of {kvs : List (Key × V)} (ok : HOk P w H h) (e : H a = some (.dK kvs)) : kvs.length ≤ sizeLine ∧ (a == sysModules) = false ∧ ∃ vs, KV kvs vs ∧ h.DictOf (mixKind P w) a vs := dk_rd ok (.inl e)
theorem key_of {ks : List Key} (ok : HOk P w H h) (e : H a = some (.tup (ks.map kV))) : (tupleKind (mixKind P w)).is h ks a := by
  obtain ⟨_, its, r, o, h1, h2, n, h3⟩ := (show ObjOk P w H h a (.tup (ks.map kV)) from ok a _ e)
  exact ⟨o, its.toArray, n, h1, h2, h3, by simpa using items_are r⟩
theorem dt_rd {kvs : List (List Key × V)} (ok : HOk P w H h) (e : Rd H a (.dT kvs)) : kvs.length ≤ sizeLine ∧ (a == sysModules) = false ∧
    ∃ xs, KT H kvs xs ∧ h.DictOfH (tupleKind (mixKind P w)) a xs := by
  obtain ⟨z, y, xs, r, o, es, ep, h1, h2, h3, h4, h5⟩ := (show ObjOk P w H h a (.dT kvs) from rd_of ok e)
  refine ⟨z, y, xs, r, o, es, ep, h1, h2, h3, h4, fun x hx => ?_, h5⟩
  have all : ∀ {l : List (List Key × V)} {m : List (List Key × Addr × Value)}, KT H l m → ∀ x ∈ m, (tupleKind (mixKind P w)).is h x.1 x.2.1 := by
    intro l m q
    induction q with
    | nil => intro x hx; exact nomatch hx
    | @cons p q ps qs hq t ih =>
      intro x hx
      rcases List.mem_cons.mp hx with e | hx
      · subst e
        exact key_of ok (by rw [← hq.1]; exact hq.2.1)
      · exact ih x hx
  exact all r x hx
theorem dt_of {kvs : List (List Key × V)} (ok : HOk P w H h) (e : H a = some (.dT kvs)) : kvs.length ≤ sizeLine ∧ (a == sysModules) = false ∧
    ∃ xs, KT H kvs xs ∧ h.DictOfH (tupleKind (mixKind P w)) a xs := dt_rd ok (.inl e)
end
def DGet (H : Hp) (a : Addr) (y : V) (r : Option V) : Prop :=
  (∃ kvs k, Rd H a (.dK kvs) ∧ y = kV k ∧ r = valV kvs k) ∨ ∃ kvs k b, Rd H a (.dT kvs) ∧ y = .ref b ∧ H b = some (.tup (k.map kV)) ∧ r = valV kvs k
def DPut (H : Hp) (a : Addr) (y v : V) (H' : Hp) : Prop :=
  (∃ kvs k, H a = some (.dK kvs) ∧ y = kV k ∧ kvs.length < sizeLine ∧ H' = upd H a (.dK (putK kvs k v))) ∨
  ∃ kvs k b, H a = some (.dT kvs) ∧ y = .ref b ∧ H b = some (.tup (k.map kV)) ∧ kvs.length < sizeLine ∧ H' = upd H a (.dT (putK kvs k v))
theorem DGet.k {H : Hp} {a : Addr} {kvs : List (Key × V)} {k : Key} (e : H a = some (.dK kvs)) : DGet H a (kV k) (valV kvs k) := .inl ⟨kvs, k, .inl e, rfl, rfl⟩
theorem DGet.t {H : Hp} {a b : Addr} {kvs : List (List Key × V)} {k : List Key} (e : H a = some (.dT kvs)) (eb : H b = some (.tup (k.map kV))) : DGet H a (.ref b) (valV kvs k) := .inr ⟨kvs, k, b, .inl e, rfl, eb, rfl⟩
theorem DPut.k {H : Hp} {a : Addr} {kvs : List (Key × V)} {k : Key} {v : V} (e : H a = some (.dK kvs)) (hl : kvs.length < sizeLine) : DPut H a (kV k) v (upd H a (.dK (putK kvs k v))) := .inl ⟨kvs, k, e, rfl, hl, rfl⟩
theorem DPut.t {H : Hp} {a b : Addr} {kvs : List (List Key × V)} {k : List Key} {v : V} (e : H a = some (.dT kvs)) (eb : H b = some (.tup (k.map kV))) (hl : kvs.length < sizeLine) :
    DPut H a (.ref b) v (upd H a (.dT (putK kvs k v))) := .inr ⟨kvs, k, b, e, rfl, eb, hl, rfl⟩
section
variable {X : Cx} {pins : List (Addr × Obj)} {σ : St} {H : Hp} {s : Shared} {a : Addr} {y v : V} {u r : Value} {o : Option V} {A : Around} {E : Value → Shared → Prop}
theorem Inv.big (I : Inv X pins σ H s) : sysModules < s.heap.objs.size := by
  have h : mainGlobals < s.heap.objs.size := (I.mod.glob.keeps I.bk).lt
  exact Nat.lt_trans (by decide) h
theorem d_getItem {Q : Value → Shared → Prop} (hu : A.units + 1 < cLine) (I : Inv X pins σ H s) (g : DGet H a y (some v)) (ry : RelV y u) (h : ∀ w' s', Inv X pins σ H s' → RelV v w' → Q w' s') :
    wpAny (model X.prog X.w) A (getItem (.ref a) u) Q E s := by
  rcases g with ⟨kvs, k, e, ey, l⟩ | ⟨kvs, k, b, e, ey, eb, l⟩
  · subst ey
    obtain ⟨z, hd, vs, rel, dd⟩ := dk_rd I.hok e
    obtain ⟨w', hw, rw'⟩ := RelO.some_of (v := v) (o := valueAt vs k) (by rw [l]; exact rel.val k)
    exact wpAny_getItem_of (kV_is ry) dd.mapOf hw (h w' _ (I.tok _) rw')
  · subst ey
    cases (show u = Value.ref b from ry)
    obtain ⟨z, hd, xs, rel, dd⟩ := dt_rd I.hok e
    obtain ⟨w', hw, rw'⟩ := RelO.some_of (v := v) (o := (atKey xs k).map (·.2)) (by rw [l]; exact rel.val k)
    obtain ⟨p, hp, hp2⟩ := Option.map_eq_some_iff.mp hw
    refine wpAny_getItem_heap (tupleKind_room_in1 hu) (key_of I.hok eb) dd hp ?_
    rw [hp2]
    exact h w' _ (I.tok _) rw'
theorem d_in {Q : Value → Shared → Prop} (hu : A.units + 1 < cLine) (I : Inv X pins σ H s) (g : DGet H a y o) (ry : RelV y u) (h : ∀ s', Inv X pins σ H s' → Q (.bool o.isSome) s') :
    wpAny (model X.prog X.w) A (compareOp .In u (.ref a)) Q E s := by
  rcases g with ⟨kvs, k, e, ey, l⟩ | ⟨kvs, k, b, e, ey, eb, l⟩
  · subst ey
    obtain ⟨z, hd, vs, rel, dd⟩ := dk_rd I.hok e
    refine wpAny_in_of (kV_is ry) hd dd.mapOf ?_
    rw [← (rel.val k).isSome_eq, ← l]
    exact h _ (I.tok _)
  · subst ey
    cases (show u = Value.ref b from ry)
    obtain ⟨z, hd, xs, rel, dd⟩ := dt_rd I.hok e
    refine wpAny_in_heap (tupleKind_room_in1 hu) (key_of I.hok eb) hd dd ?_
    have q := (rel.val k).isSome_eq
    rw [Option.isSome_map] at q
    rw [← q, ← l]
    exact h _ (I.tok _)
theorem d_notIn {Q : Value → Shared → Prop} (hu : A.units + 1 < cLine) (I : Inv X pins σ H s) (g : DGet H a y o) (ry : RelV y u) (h : ∀ s', Inv X pins σ H s' → Q (.bool (!o.isSome)) s') :
    wpAny (model X.prog X.w) A (compareOp .NotIn u (.ref a)) Q E s := by
  rcases g with ⟨kvs, k, e, ey, l⟩ | ⟨kvs, k, b, e, ey, eb, l⟩
  · subst ey
    obtain ⟨z, hd, vs, rel, dd⟩ := dk_rd I.hok e
    refine wpAny_notIn_of (kV_is ry) hd dd.mapOf ?_
    rw [← (rel.val k).isSome_eq, ← l]
    exact h _ (I.tok _)
  · subst ey
    cases (show u = Value.ref b from ry)
    obtain ⟨z, hd, xs, rel, dd⟩ := dt_rd I.hok e
    refine wpAny_notIn_heap (tupleKind_room_in1 hu) (key_of I.hok eb) hd dd ?_
    have q := (rel.val k).isSome_eq
    rw [Option.isSome_map] at q
    rw [← q, ← l]
    exact h _ (I.tok _)
theorem d_write {h' : Heap} {t' : Nat} {ob : HO} (I : Inv X pins σ H s) (mu : Mut (H a)) (hs : Heap.SameBut a s.heap h') (he : ∃ q, h'.get? a = some q) (new : ObjOk X.prog X.w (upd H a ob) h' a ob) :
    Inv X pins σ (upd H a ob) { s with heap := h', toks := t' } :=
  I.write (x := a) (e := a) mu (.inl rfl) (fun b q hb z => (hs.2 b hb).trans z) he new
theorem dk_new {P : Program} {w : World} {H' : Hp} {h' : Heap} {kvs : List (Key × V)} {vs : List (Key × Value)} (z : kvs.length ≤ sizeLine) (hd : (a == sysModules) = false) (rel : KV kvs vs) (dd : h'.DictOf (mixKind P w) a vs) :
    ObjOk P w H' h' a (.dK kvs) := ⟨z, hd, vs, rel, dd⟩
theorem d_setItem {H' : Hp} {Q : Unit → Shared → Prop} (hu : A.units + 1 < cLine) (I : Inv X pins σ H s) (g : DPut H a y v H') (ry : RelV y u) (rv : RelV v r) (h : ∀ s', Inv X pins σ H' s' → Q () s') :
    wpAny (model X.prog X.w) A (setItem (.ref a) u r) Q E s := by
  rcases g with ⟨kvs, k, e, ey, l, eH⟩ | ⟨kvs, k, b, e, ey, eb, l, eH⟩
  · subst ey eH
    obtain ⟨z, hd, vs, rel, dd⟩ := dk_of I.hok e
    have hz : vs.length ≤ sizeLine := by rw [← rel.length]; exact z
    have hl : (putK kvs k v).length ≤ sizeLine := by have := length_putK kvs k v; omega
    refine wpAny_setItem_pairs (hsz := hz) (kV_is ry) dd fun h' dd' hs => h _ ?_
    have he : ∃ q, h'.get? a = some q := let ⟨q, _, _, hq, _⟩ := dd'; ⟨q, hq⟩
    exact d_write I (by rw [e]; exact True.intro) hs he (dk_new hl hd (rel.put k rv) dd')
  · subst ey eH
    cases (show u = Value.ref b from ry)
    obtain ⟨z, hd, xs, rel, dd⟩ := dt_of I.hok e
    have hz : xs.length ≤ sizeLine := by rw [← Paired.length rel]; exact z
    have hl : (putK kvs k v).length ≤ sizeLine := by have := length_putK kvs k v; omega
    refine wpAny_setItem_heap (hsz := hz) (tupleKind_room_in1 hu) (key_of I.hok eb) dd fun h' dd' hs => h _ ?_
    obtain ⟨q, es, ep, hq, h2, h3, h4, _, h5⟩ := dd'
    refine d_write I (by rw [e]; exact True.intro) hs ⟨q, hq⟩ ⟨hl, hd, _, (rel.put k eb rv).keeps fun c ys ec => ?_, q, es, ep, hq, h2, h3, h4, h5⟩
    rw [upd_ne (ne_of ec e (fun z => nomatch z))]
    exact ec
end
section
variable {X : Cx} {pins : List (Addr × Obj)} {σ : St} {H : Hp} {s : Shared} {a : Addr} {kvs : List (Key × V)} {k : Key} {u : Value} {A : Around} {E : Value → Shared → Prop}
theorem d_delItem {Q : Unit → Shared → Prop} (I : Inv X pins σ H s) (e : H a = some (.dK kvs)) (ry : RelV (kV k) u) (l : (valV kvs k).isSome = true) (h : ∀ s', Inv X pins σ (upd H a (.dK (dropK kvs k))) s' → Q () s') :
    wpAny (model X.prog X.w) A (delItem (.ref a) u) Q E s := by
  obtain ⟨z, hd, vs, rel, dd⟩ := dk_of I.hok e
  refine wpAny_delItem_slot dd.typeIs (by decide) PySem.F.slot_dict_delitem
    (call_meetsIn PySem.F.slot_dict_delitem dd.typeIs PySem.F.entry_dict_delitem (PySem.F.args_dict_delitem_2 _ _) (meets_dict_delitem_pairs (mixKind X.prog X.w) a (kV_is ry)) ⟨vs, dd, by rw [← rel.length]; exact z, by rw [← (rel.val k).isSome_eq]; exact l, fun h' dd' hs => h _ ?_⟩)
  have he : ∃ q, h'.get? a = some q := let ⟨q, _, _, hq, _⟩ := dd'; ⟨q, hq⟩
  exact d_write I (by rw [e]; exact True.intro) hs he (dk_new (Nat.le_trans (dropK_le kvs k) z) hd (rel.drop k) dd')
theorem d_pop {v : V} {more : List Value} {Q : Value → Shared → Prop} (I : Inv X pins σ H s) (e : H a = some (.dK kvs)) (ry : RelV (kV k) u) (l : valV kvs k = some v) (hm : more = [] ∨ ∃ x, more = [x])
    (h : ∀ w' s', Inv X pins σ (upd H a (.dK (dropK kvs k))) s' → RelV v w' → Q w' s') : wpAny (model X.prog X.w) A (call (.builtin "dict.pop") (.ref a :: u :: more)) Q E s := by
  obtain ⟨z, hd, vs, rel, dd⟩ := dk_of I.hok e
  obtain ⟨w', hw, rw'⟩ := RelO.some_of (v := v) (o := valueAt vs k) (by rw [← l]; exact rel.val k)
  have hp : (keyPart u).isSome = true := by
    cases k with
    | inl i => obtain ⟨t, q⟩ := (show ∃ t, u = Value.int i t from ry); subst q; rfl
    | inr x => obtain ⟨t, q⟩ := (show ∃ t, u = Value.str x t from ry); subst q; rfl
  have ha : argsOk "dict.pop" ⟨.ref a :: u :: more, []⟩ := by
    rcases hm with q | ⟨x, q⟩
    · subst q; exact PySem.F.args_dict_pop_2 _ _
    · subst q; exact PySem.F.args_dict_pop_3 _ _ _
  refine call_meetsIn PySem.F.slot_dict_pop dd.typeIs PySem.F.entry_dict_pop ha (meets_dict_pop_there (mixKind X.prog X.w) a (kV_is ry) more hm hp)
    ⟨vs, w', dd, by rw [← rel.length]; exact z, hw, fun h' dd' hs => h w' _ ?_ rw'⟩
  have he : ∃ q, h'.get? a = some q := let ⟨q, _, _, hq, _⟩ := dd'; ⟨q, hq⟩
  exact d_write I (by rw [e]; exact True.intro) hs he (dk_new (Nat.le_trans (dropK_le kvs k) z) hd (rel.drop k) dd')
theorem d_popD {r : Value} {Q : Value → Shared → Prop} (I : Inv X pins σ H s) (e : H a = some (.dK kvs)) (ry : RelV (kV k) u) (l : valV kvs k = none) (h : ∀ s', Inv X pins σ H s' → Q r s') :
    wpAny (model X.prog X.w) A (call (.builtin "dict.pop") [.ref a, u, r]) Q E s := by
  obtain ⟨z, hd, vs, rel, dd⟩ := dk_of I.hok e
  have hn : valueAt vs k = none := RelO.none_of (by rw [← l]; exact rel.val k)
  have hp : (keyPart u).isSome = true := by
    cases k with
    | inl i => obtain ⟨t, q⟩ := (show ∃ t, u = Value.int i t from ry); subst q; rfl
    | inr x => obtain ⟨t, q⟩ := (show ∃ t, u = Value.str x t from ry); subst q; rfl
  exact call_meetsIn PySem.F.slot_dict_pop dd.typeIs PySem.F.entry_dict_pop (PySem.F.args_dict_pop_3 _ _ _) (meets_dict_pop_default (mixKind X.prog X.w) a (kV_is ry) hd hp r) ⟨vs, dd, hn, h _ (I.tok _)⟩
theorem d_clear {Q : Value → Shared → Prop} (I : Inv X pins σ H s) (e : H a = some (.dK kvs)) (h : ∀ s', Inv X pins σ (upd H a (.dK [])) s' → Q .none s') : wpAny (model X.prog X.w) A (call (.builtin "dict.clear") [.ref a]) Q E s := by
  obtain ⟨z, hd, vs, rel, dd⟩ := dk_of I.hok e
  refine call_meetsIn PySem.F.slot_dict_clear dd.typeIs PySem.F.entry_dict_clear (PySem.F.args_dict_clear_1 _) (meets_dict_clear (mixKind X.prog X.w) a) ⟨vs, dd, by rw [← rel.length]; exact z, fun h' dd' hs => h _ ?_⟩
  have he : ∃ q, h'.get? a = some q := let ⟨q, _, _, hq, _⟩ := dd'; ⟨q, hq⟩
  exact d_write (t' := s.toks) I (by rw [e]; exact True.intro) hs he (dk_new (Nat.zero_le _) hd .nil dd')
theorem d_len {Q : Value → Shared → Prop} (I : Inv X pins σ H s) (e : Rd H a (.dK kvs)) (h : ∀ t s', Inv X pins σ H s' → Q (.int kvs.length t) s') : wpAny (model X.prog X.w) A (call (.builtin "len") [.ref a]) Q E s := by
  obtain ⟨z, hd, vs, rel, dd⟩ := dk_rd I.hok e
  refine call_len_dict hd dd (by rw [← rel.length]; rw [sizeLine_eq] at z; omega) ?_
  rw [← rel.length]
  exact h _ _ (I.tok _)
theorem d_truth {Q : Bool → Shared → Prop} (I : Inv X pins σ H s) (e : Rd H a (.dK kvs)) (h : ∀ s', Inv X pins σ H s' → Q (!kvs.isEmpty) s') : wpAny (model X.prog X.w) A (truthy (.ref a)) Q E s := by
  obtain ⟨z, hd, vs, rel, dd⟩ := dk_rd I.hok e
  refine wpAny_truthy_dict hd dd (by rw [← rel.length]; rw [sizeLine_eq] at z; omega) ?_
  have q : kvs.isEmpty = vs.isEmpty := by cases rel <;> rfl
  rw [← q]
  exact h _ (I.tok _)
end
def NoSl (i : Expr) : Prop := ∀ ov iv, subscripted i false ov iv = operate [ov, iv] (getItem ov iv)
theorem subD_of {prog : Program} {w : World} {A : Around} {E : Value → Shared → Prop} {s : Shared} {env : Env} {value slice : Expr} {pos : Pos} {T id : String} {Q : Value → Shared → Prop}
    (hl : typeLookup (.type T) "__getitem__" = pure (some (.builtin id))) (hs : NoSl slice)
    (h : wpAny (model prog w) A (eval value env) (fun o s₁ => wpAny (model prog w) A (eval slice env) (fun i s₂ => s₂.TypeIs o T ∧ wpAny (model prog w) A (getItem o i) Q E s₂) E s₁) E s) :
    wpAny (model prog w) A (eval (.Subscript value slice pos) env) Q E s := by
  refine Subscript_ (wpAny_mono h (fun o s₁ h₁ => wpAny_mono h₁ (fun i s₂ h₂ => ?_) fun _ _ x => x) fun _ _ x => x)
  obtain ⟨hT, h₂⟩ := h₂
  unfold subscriptTail
  refine wpAny_bind ?_
  rw [getitemInPython_of_ne hT.not_modules]
  refine wpAny_bind (wpAny_specialOf hT hl ?_)
  have fin : wpAny (model prog w) A (subscripted slice false o i) (fun r s₃ => wpAny (model prog w) A (letTemporaryGo value o r >>= fun _ => pure r) Q E s₃) E s₂ := by
    rw [hs o i]
    exact wpAny_operating (wpAny_mono h₂ (fun r s₃ h₃ => wpAny_bind (wpAny_letTemporaryGo (wpAny_pure h₃))) fun _ _ x => x)
  first
    | exact wpAny_pure (wpAny_bind fin)
    | exact wpAny_bind (wpAny_pure (wpAny_bind fin))
    | exact wpAny_bind fin
theorem dict_typeIs {X : Cx} {pins : List (Addr × Obj)} {σ : St} {H : Hp} {s : Shared} {a : Addr} {y : V} {o : Option V} (I : Inv X pins σ H s) (g : DGet H a y o) : s.TypeIs (.ref a) "dict" := by
  rcases g with ⟨kvs, k, e, _, _⟩ | ⟨kvs, k, b, e, _, _, _⟩
  · obtain ⟨_, _, vs, _, dd⟩ := dk_rd I.hok e
    exact dd.typeIs
  · obtain ⟨_, _, xs, _, dd⟩ := dt_rd I.hok e
    exact dd.typeIs
theorem dict_noDict {X : Cx} {pins : List (Addr × Obj)} {σ : St} {H : Hp} {s : Shared} {a : Addr} {y : V} {o : Option V} (I : Inv X pins σ H s) (g : DGet H a y o) :
    ∀ b, Value.ref a = .ref b → ∃ ob, s.heap.get? b = some ob ∧ ob.dict = none := fun b q => by
  cases q
  rcases g with ⟨kvs, k, e, _, _⟩ | ⟨kvs, k, b, e, _, _, _⟩
  · obtain ⟨_, _, vs, _, ob, _, _, h1, h2, _⟩ := dk_rd I.hok e
    exact ⟨ob, h1, h2.2.1⟩
  · obtain ⟨_, _, xs, _, ob, _, _, h1, h2, _⟩ := dt_rd I.hok e
    exact ⟨ob, h1, h2.2.1⟩
def tDGet (td ty : TE) : TE := fun σ H Q => td σ H fun x H1 => ty σ H1 fun y H2 => ∃ a v, x = .ref a ∧ DGet H2 a y (some v) ∧ Q v H2
def tDIn (ty td : TE) : TE := fun σ H Q => ty σ H fun y H1 => td σ H1 fun x H2 => ∃ a o, x = .ref a ∧ DGet H2 a y o ∧ Q (.bl o.isSome) H2
def tDNotIn (ty td : TE) : TE := fun σ H Q => ty σ H fun y H1 => td σ H1 fun x H2 => ∃ a o, x = .ref a ∧ DGet H2 a y o ∧ Q (.bl (!o.isSome)) H2
def sDPut (td ty tv : TE) : TS := fun D σ H => tv σ H fun v H1 => td σ H1 fun x H2 => ty σ H2 fun y H3 => ∃ a H4, x = .ref a ∧ DPut H3 a y v H4 ∧ D.nx σ H4
def sDAug (td ty tv : TE) (rd : V → V → Hp → VK → Prop) : TS := fun D σ H => td σ H fun x H1 => ty σ H1 fun y H2 => ∃ a v, x = .ref a ∧ DGet H2 a y (some v) ∧
  tv σ H2 fun y2 H3 => rd v y2 H3 fun z H4 => ∃ H5, DPut H4 a y z H5 ∧ D.nx σ H5
def sDDel (td ty : TE) : TS := fun D σ H => td σ H fun x H1 => ty σ H1 fun y H2 => ∃ a kvs k, x = .ref a ∧ H2 a = some (.dK kvs) ∧ y = kV k ∧ (valV kvs k).isSome = true ∧ D.nx σ (upd H2 a (.dK (dropK kvs k)))
section
variable {X : Cx} {o i e value : Expr} {pos pos' tpos : Pos} {td ty tv : TE}
theorem pe_dget (hu : X.A.units + 1 < cLine) (ho : PE X o td) (hi : PE X i ty) (hs : NoSl i) : PE X (.Subscript o i pos) (tDGet td ty) := by
  intro pins s σ H Q I h
  refine subD_of PySem.F.slot_dict_getitem.lookup hs (thn (ho pins s σ H _ I h) fun u s1 ⟨x, H1, I1, rx, q1⟩ => thn (hi pins s1 σ H1 _ I1 q1) fun iv s2 ⟨y, H2, I2, ry, a, v, ex, g, q2⟩ => ?_)
  subst ex
  obtain rfl : u = Value.ref a := rx
  exact ⟨dict_typeIs I2 g, d_getItem hu I2 g ry fun w' s3 I3 rw' => ⟨v, H2, I3, rw', q2⟩⟩
theorem pc_din (hu : X.A.units + 1 < cLine) (hi : PE X i ty) (ho : PE X o td) : PC X .In i o (tDIn ty td) := by
  intro pins s σ H Q I h
  refine thn (hi pins s σ H _ I h) fun iv s1 ⟨y, H1, I1, ry, q1⟩ => thn (ho pins s1 σ H1 _ I1 q1) fun u s2 ⟨x, H2, I2, rx, a, ov, ex, g, q2⟩ => ?_
  subst ex
  obtain rfl : u = Value.ref a := rx
  exact d_in hu I2 g ry fun s3 I3 => ⟨.bl ov.isSome, H2, I3, rfl, q2⟩
theorem pc_dnotin (hu : X.A.units + 1 < cLine) (hi : PE X i ty) (ho : PE X o td) : PC X .NotIn i o (tDNotIn ty td) := by
  intro pins s σ H Q I h
  refine thn (hi pins s σ H _ I h) fun iv s1 ⟨y, H1, I1, ry, q1⟩ => thn (ho pins s1 σ H1 _ I1 q1) fun u s2 ⟨x, H2, I2, rx, a, ov, ex, g, q2⟩ => ?_
  subst ex
  obtain rfl : u = Value.ref a := rx
  exact d_notIn hu I2 g ry fun s3 I3 => ⟨.bl (!ov.isSome), H2, I3, rfl, q2⟩
theorem ps_dput (hu : X.A.units + 1 < cLine) (ho : PE X o td) (hi : PE X i ty) (hv : PE X value tv) (hs : swapsWith value (some (.Subscript o i pos')) pos.line X.env = pure false) :
    PS X (.Assign [.Subscript o i pos'] value pos) (sDPut td ty tv) := by
  intro pins s σ H D I h
  refine wpAny_Assign_Subscript (thn (hv pins s σ H _ I h) fun r s1 ⟨v, H1, I1, rv, q1⟩ => thn (ho pins s1 σ H1 _ I1 q1) fun u s2 ⟨x, H2, I2, rx, q2⟩ => thn (hi pins s2 σ H2 _ I2 q2) fun iv s3 ⟨y, H3, I3, ry, a, H4, ex, g, q3⟩ => ?_) hs
  subst ex
  obtain rfl : u = Value.ref a := rx
  exact d_setItem hu I3 g ry rv fun s4 I4 => ⟨σ, H4, I4, q3⟩
theorem ps_daug {op : Operator} {rd : V → V → Hp → VK → Prop} (hu : X.A.units + 1 < cLine) (ho : PE X o td) (hi : PE X i ty) (hv : PE X value tv) (hop : InOp X op rd)
    (ha : ∀ ov iv new, augStore i ov iv new = (do holding [new, ov, iv] (setItem ov iv new); release [new, ov, iv] []; pure .next)) : PS X (.AugAssign (.Subscript o i tpos) op value pos) (sDAug td ty tv rd) := by
  intro pins s σ H D I h
  refine wpAny_AugAssign_SubscriptAny (thn (ho pins s σ H _ I h) fun u s1 ⟨x, H1, I1, rx, q1⟩ => thn (hi pins s1 σ H1 _ I1 q1) fun iv s2 ⟨y, H2, I2, ry, a, v, ex, g, q2⟩ => ?_) ha
  subst ex
  obtain rfl : u = Value.ref a := rx
  refine d_getItem hu I2 g ry fun w' s3 I3 rw' => thn (hv pins s3 σ H2 _ I3 q2) fun w2 s4 ⟨y2, H3, I4, ry2, q3⟩ => thn (hop pins s4 σ H3 v y2 w' w2 _ I4 rw' ry2 q3) fun w3 s5 ⟨z, H4, I5, rz, H5, g5, q4⟩ => ?_
  exact d_setItem hu I5 g5 ry rz fun s6 I6 => ⟨σ, H5, I6, q4⟩
theorem ps_ddel (ho : PE X o td) (hi : PE X i ty) : PS X (.Delete [.Subscript o i tpos] pos) (sDDel td ty) := by
  intro pins s σ H D I h
  refine wpAny_Delete (wpAny_deleteEach_cons (wpAny_delete_Subscript (thn (ho pins s σ H _ I h) fun u s1 ⟨x, H1, I1, rx, q1⟩ => thn (hi pins s1 σ H1 _ I1 q1) fun iv s2 ⟨y, H2, I2, ry, a, kvs, k, ex, e, ey, l, q2⟩ => ?_)))
  subst ex ey
  obtain rfl : u = Value.ref a := rx
  exact d_delItem I2 e ry l fun s3 I3 => wpAny_deleteEach_nil ⟨σ, _, I3, q2⟩
end
theorem dk_empty {P : Program} {w : World} {H : Hp} (h : Heap) (hb : sysModules < h.objs.size) : ObjOk P w H (h.push { cls := .type "dict", data := .dict #[] }) h.objs.size (.dK []) :=
  ⟨Nat.zero_le _, beq_eq_false_iff_ne.mpr (Ne.symm (Nat.ne_of_lt hb)), [], .nil, Heap.DictOf.new h⟩
theorem dt_empty {P : Program} {w : World} {H : Hp} (h : Heap) (hb : sysModules < h.objs.size) : ObjOk P w H (h.push { cls := .type "dict", data := .dict #[] }) h.objs.size (.dT []) :=
  ⟨Nat.zero_le _, beq_eq_false_iff_ne.mpr (Ne.symm (Nat.ne_of_lt hb)), [], .nil, _, #[], 0, Heap.get?_push_size _ rfl, ⟨rfl, rfl, rfl⟩, rfl, rfl, List.nodup_nil⟩
def tDNewK : TE := fun _ H Q => ∀ p, H p = none → Q (.ref p) (upd H p (.dK []))
def tDNewT : TE := fun _ H Q => ∀ p, H p = none → Q (.ref p) (upd H p (.dT []))
section
variable {X : Cx} {pos : Pos}
theorem pe_dnewK : PE X (.Dict [] [] pos) tDNewK := fun pins s σ H Q I h =>
  wpAny_Dict_empty ⟨.ref s.heap.objs.size, _, I.laid (a := s.heap.objs.size) (o := .dK []) (t' := s.toks) (fun _ _ q => Heap.get?_push_of_some _ q) (Nat.le_refl _) (dk_empty s.heap I.big), rfl, h _ (I.hok.fresh (Nat.le_refl _))⟩
theorem pe_dnewT : PE X (.Dict [] [] pos) tDNewT := fun pins s σ H Q I h =>
  wpAny_Dict_empty ⟨.ref s.heap.objs.size, _, I.laid (a := s.heap.objs.size) (o := .dT []) (t' := s.toks) (fun _ _ q => Heap.get?_push_of_some _ q) (Nat.le_refl _) (dt_empty s.heap I.big), rfl, h _ (I.hok.fresh (Nat.le_refl _))⟩
end
def tPairs : List (TE × TE) → St → Hp → (List (V × V) → Hp → Prop) → Prop
  | [], _, H, Q => Q [] H
  | (tk, tv) :: r, σ, H, Q => tk σ H fun x H1 => tv σ H1 fun y H2 => tPairs r σ H2 fun ps H3 => Q ((x, y) :: ps) H3
abbrev VV : List (V × V) → List (Value × Value) → Prop := Paired fun p q => RelV p.1 q.1 ∧ RelV p.2 q.2
def PPs (X : Cx) (pos : Pos) (keys : List (Option Expr)) (values : List Expr) (trs : List (TE × TE)) : Prop :=
  ∀ (pins : List (Addr × Obj)) (s : Shared) (σ : St) (H : Hp) (Q : List (V × V) → Hp → Prop), Inv X pins σ H s → tPairs trs σ H Q →
    wpAny (model X.prog X.w) X.A (evalPairs (pairTrees keys values X.env pos)) (fun vs s' => ∃ ps H', Inv X pins σ H' s' ∧ VV ps vs ∧ Q ps H') X.xe s
theorem pps_nil {X : Cx} {pos : Pos} : PPs X pos [] [] [] := fun pins s σ H Q I h => pairTrees_nil_walk ⟨[], H, I, .nil, h⟩
theorem pps_cons {X : Cx} {pos : Pos} {k v : Expr} {ks : List (Option Expr)} {vs : List Expr} {tk tv : TE} {trs : List (TE × TE)} (hk : PE X k tk) (hv : PE X v tv) (hr : PPs X pos ks vs trs) :
    PPs X pos (some k :: ks) (v :: vs) ((tk, tv) :: trs) := fun pins s σ H Q I h =>
  pairTrees_cons_walk (thn (hk pins s σ H _ I h) fun u s1 ⟨x, H1, I1, rx, q1⟩ => thn (hv pins s1 σ H1 _ I1 q1) fun w2 s2 ⟨y, H2, I2, ry, q2⟩ =>
    thn (hr pins s2 σ H2 _ I2 q2) fun ws s3 ⟨ps, H3, I3, rel, q3⟩ => ⟨(x, y) :: ps, H3, I3, .cons ⟨rx, ry⟩ rel, q3⟩)
def mergeK (kvs more : List (Key × V)) : List (Key × V) := more.foldl (fun acc kv => putK acc kv.1 kv.2) kvs
theorem KV.merge : ∀ {more : List (Key × V)} {rs : List (Key × Value)} {kvs : List (Key × V)} {vs : List (Key × Value)}, KV more rs → KV kvs vs → KV (mergeK kvs more) (merged vs rs) := by
  intro more rs kvs vs r
  unfold KV at r
  induction r generalizing kvs vs with
  | nil => intro q; exact q
  | @cons p q ps qs h t ih =>
    intro r0
    have e : KV (putK kvs p.1 p.2) (stored vs q.1 q.2) := by
      have := r0.put p.1 h.2
      rw [← h.1]; exact this
    exact ih e
theorem length_mergeK : ∀ (more kvs : List (Key × V)), (mergeK kvs more).length ≤ kvs.length + more.length
  | [], kvs => by show kvs.length ≤ kvs.length + 0; omega
  | p :: r, kvs => by
    have h1 := length_mergeK r (putK kvs p.1 p.2)
    have h2 := length_putK kvs p.1 p.2
    show (mergeK (putK kvs p.1 p.2) r).length ≤ _
    rw [List.length_cons]; omega
theorem carries_of {P : Program} {w : World} : ∀ {kvs : List (Key × V)} {ws : List (Value × Value)}, VV (kvs.map fun kv => (kV kv.1, kv.2)) ws → ∃ rs, Carries (mixKind P w) ws rs ∧ KV kvs rs
  | [], _, r => by rw [List.map_nil] at r; cases r; exact ⟨[], True.intro, .nil⟩
  | p :: kvs, _, r => by
    rw [List.map_cons] at r
    cases r with
    | @cons a b as bs h t =>
      obtain ⟨rs, c, q⟩ := carries_of (P := P) (w := w) t
      obtain ⟨b1, b2⟩ := b
      exact ⟨(p.1, b2) :: rs, ⟨kV_is h.1, rfl, c⟩, .cons ⟨rfl, h.2⟩ q⟩
def tDisp (trs : List (TE × TE)) : TE := fun σ H Q => ∀ p, H p = none → tPairs trs σ (upd H p (.dK [])) fun ps H2 => H2 p = some (.dK []) ∧ ∃ kvs : List (Key × V), ps = kvs.map (fun kv => (kV kv.1, kv.2)) ∧ kvs.length ≤ 15 ∧ Q (.ref p) (upd H2 p (.dK (mergeK [] kvs)))
theorem pe_disp {X : Cx} {pos : Pos} {keys : List (Option Expr)} {values : List Expr} {trs : List (TE × TE)} (h : PPs X pos keys values trs) (hall : keys.all (·.isSome) = true) (hl : keys.length = values.length) (h0 : keys ≠ [])
    (h15 : keys.length ≤ 15) : PE X (.Dict keys values pos) (tDisp trs) := by
  intro pins s σ H Q I q
  have hn := I.hok.fresh (Nat.le_refl s.heap.objs.size)
  have I1 := I.laid (a := s.heap.objs.size) (o := .dK []) (h' := s.heap.push { cls := .type "dict", data := .dict #[] }) (t' := s.toks) (fun _ _ q => Heap.get?_push_of_some _ q) (Nat.le_refl _) (dk_empty s.heap I.big)
  refine wpAny_Dict_walk (knd := mixKind X.prog X.w) hall hl h0 h15 (thn (h pins _ σ _ _ I1 (q _ hn)) fun ws s2 ⟨ps, H2, I2, rel, e, kvs, ep, lk, q2⟩ => ?_)
  subst ep
  obtain ⟨rs, c, rk⟩ := carries_of (P := X.prog) (w := X.w) rel
  obtain ⟨z, hd, vs0, r0, dd⟩ := dk_of I2.hok e
  cases r0
  refine ⟨rs, c, dd, fun h' dd' hs => ⟨.ref s.heap.objs.size, _, ?_, rfl, q2⟩⟩
  have hz : (mergeK [] kvs).length ≤ sizeLine := by
    have h1 := length_mergeK kvs []
    rw [List.length_nil] at h1
    rw [sizeLine_eq]; omega
  have he : ∃ q, h'.get? s.heap.objs.size = some q := let ⟨q, _, _, hq, _⟩ := dd'; ⟨q, hq⟩
  exact d_write I2 (by rw [e]; exact True.intro) hs he (dk_new hz hd (rk.merge .nil) dd')
structure M1 (X : Cx) (o : Expr) (m : Str) (apos : Pos) (e : Expr) (cpos : Pos) : Prop where
  base : attributeBase o m X.env (eval o X.env) = eval o X.env
  few : ((backTo cpos (starEach [e] X.env)).all (fun x => !x.1) && (backToKw cpos (keywordEach [] X.env)).all (fun x => x.1.isSome)
    && decide (([e] : List Expr).length + ([] : List Keyword).length + (if ([] : List Keyword).isEmpty then 0 else 1) < 30)) = true
  line : (apos.endLine == cpos.line) = true
  trees : backTo cpos (starEach [e] X.env) = [(false, eval e X.env)]
structure M2 (X : Cx) (o : Expr) (m : Str) (apos : Pos) (e f : Expr) (cpos : Pos) : Prop where
  base : attributeBase o m X.env (eval o X.env) = eval o X.env
  few : ((backTo cpos (starEach [e, f] X.env)).all (fun x => !x.1) && (backToKw cpos (keywordEach [] X.env)).all (fun x => x.1.isSome)
    && decide (([e, f] : List Expr).length + ([] : List Keyword).length + (if ([] : List Keyword).isEmpty then 0 else 1) < 30)) = true
  line : (apos.endLine == cpos.line) = true
  trees : backTo cpos (starEach [e, f] X.env) = [(false, eval e X.env), (false, eval f X.env)]
def IsD (H : Hp) (a : Addr) : Prop := (∃ kvs, Rd H a (.dK kvs)) ∨ ∃ kvs, Rd H a (.dT kvs)
theorem isD_at {X : Cx} {pins : List (Addr × Obj)} {σ : St} {H : Hp} {s : Shared} {a : Addr} (I : Inv X pins σ H s) (d : IsD H a) :
    s.TypeIs (.ref a) "dict" ∧ (∀ b, Value.ref a = .ref b → ∃ ob, s.heap.get? b = some ob ∧ ob.dict = none) ∧ (a == sysModules) = false := by
  rcases d with ⟨kvs, e⟩ | ⟨kvs, e⟩
  · obtain ⟨_, hd, vs, _, dd⟩ := dk_rd I.hok e
    refine ⟨dd.typeIs, fun b q => ?_, hd⟩
    cases q
    obtain ⟨ob, _, _, h1, h2, _⟩ := dd
    exact ⟨ob, h1, h2.2.1⟩
  · obtain ⟨_, hd, xs, _, dd⟩ := dt_rd I.hok e
    refine ⟨dd.typeIs, fun b q => ?_, hd⟩
    cases q
    obtain ⟨ob, _, _, h1, h2, _⟩ := dd
    exact ⟨ob, h1, h2.2.1⟩
section
variable {X : Cx} {pins : List (Addr × Obj)} {σ : St} {H : Hp} {s : Shared} {a : Addr} {y d : V} {u r : Value} {o : Option V} {A : Around} {E : Value → Shared → Prop}
theorem d_get1 {Q : Value → Shared → Prop} (hu : A.units + 1 < cLine) (I : Inv X pins σ H s) (g : DGet H a y o) (ry : RelV y u) (h : ∀ w' s', Inv X pins σ H s' → RelV (o.getD .non) w' → Q w' s') :
    wpAny (model X.prog X.w) A (call (.builtin "dict.get") [.ref a, u]) Q E s := by
  rcases g with ⟨kvs, k, e, ey, l⟩ | ⟨kvs, k, b, e, ey, eb, l⟩
  · subst ey
    obtain ⟨z, hd, vs, rel, dd⟩ := dk_rd I.hok e
    refine call_meetsIn PySem.F.slot_dict_get dd.typeIs PySem.F.entry_dict_get (PySem.F.args_dict_get_2 _ _) (meets_dict_get (mixKind X.prog X.w) a (kV_is ry) hd) ⟨_, dd.mapOf, h _ _ (I.tok _) ?_⟩
    rw [l]
    exact (rel.val k).getD rfl
  · subst ey
    cases (show u = Value.ref b from ry)
    obtain ⟨z, hd, xs, rel, dd⟩ := dt_rd I.hok e
    refine call_meetsIn PySem.F.slot_dict_get dd.typeIs PySem.F.entry_dict_get (PySem.F.args_dict_get_2 _ _) (meetsH_dict_get (tupleKind (mixKind X.prog X.w)) a b hd) ⟨tupleKind_room_in1 hu, k, xs, key_of I.hok eb, dd, h _ _ (I.tok _) ?_⟩
    rw [l]
    exact (rel.val k).getD rfl
theorem d_get2 {Q : Value → Shared → Prop} (hu : A.units + 1 < cLine) (I : Inv X pins σ H s) (g : DGet H a y o) (ry : RelV y u) (rd : RelV d r) (h : ∀ w' s', Inv X pins σ H s' → RelV (o.getD d) w' → Q w' s') :
    wpAny (model X.prog X.w) A (call (.builtin "dict.get") [.ref a, u, r]) Q E s := by
  rcases g with ⟨kvs, k, e, ey, l⟩ | ⟨kvs, k, b, e, ey, eb, l⟩
  · subst ey
    obtain ⟨z, hd, vs, rel, dd⟩ := dk_rd I.hok e
    refine call_meetsIn PySem.F.slot_dict_get dd.typeIs PySem.F.entry_dict_get (PySem.F.args_dict_get_3 _ _ _) (meets_dict_get_default (mixKind X.prog X.w) a (kV_is ry) hd r) ⟨_, dd.mapOf, h _ _ (I.tok _) ?_⟩
    rw [l]
    exact (rel.val k).getD rd
  · subst ey
    cases (show u = Value.ref b from ry)
    obtain ⟨z, hd, xs, rel, dd⟩ := dt_rd I.hok e
    refine call_meetsIn PySem.F.slot_dict_get dd.typeIs PySem.F.entry_dict_get (PySem.F.args_dict_get_3 _ _ _) (meetsH_dict_get_default (tupleKind (mixKind X.prog X.w)) a b hd r) ⟨tupleKind_room_in1 hu, k, xs, key_of I.hok eb, dd, h _ _ (I.tok _) ?_⟩
    rw [l]
    exact (rel.val k).getD rd
end
def tDGet1 (td ty : TE) : TE := fun σ H Q => td σ H fun x H1 => ∃ a, x = .ref a ∧ IsD H1 a ∧ ty σ H1 fun y H2 => ∃ o, DGet H2 a y o ∧ Q (o.getD .non) H2
def tDGet2 (td ty tx : TE) : TE := fun σ H Q => td σ H fun x H1 => ∃ a, x = .ref a ∧ IsD H1 a ∧ ty σ H1 fun y H2 => tx σ H2 fun z H3 => ∃ o, DGet H3 a y o ∧ Q (o.getD z) H3
def tDPop1 (td ty : TE) : TE := fun σ H Q => td σ H fun x H1 => ∃ a, x = .ref a ∧ IsD H1 a ∧ ty σ H1 fun y H2 => ∃ kvs k v, H2 a = some (.dK kvs) ∧ y = kV k ∧ valV kvs k = some v ∧ Q v (upd H2 a (.dK (dropK kvs k)))
def tDPop2 (td ty tx : TE) : TE := fun σ H Q => td σ H fun x H1 => ∃ a, x = .ref a ∧ IsD H1 a ∧ ty σ H1 fun y H2 => tx σ H2 fun z H3 => ∃ kvs k, H3 a = some (.dK kvs) ∧ y = kV k ∧
  (∀ v, valV kvs k = some v → Q v (upd H3 a (.dK (dropK kvs k)))) ∧ (valV kvs k = none → Q z H3)
section
variable {X : Cx} {o e f : Expr} {apos cpos : Pos} {td ty tx : TE}
theorem pe_dget1 (hu : X.A.units + 1 < cLine) (ho : PE X o td) (he : PE X e ty) (m : M1 X o "get" apos e cpos) : PE X (.Call (.Attribute o "get" apos) [e] [] cpos) (tDGet1 td ty) := by
  intro pins s σ H Q I h
  refine wpAny_Call_method m.base m.few m.line PySem.F.plainAttrs_dict PySem.F.slot_dict_get PySem.F.type_dict_get (thn (ho pins s σ H _ I h) fun u s1 ⟨x, H1, I1, rx, a, ex, d, q1⟩ => ?_)
  subst ex
  obtain rfl : u = Value.ref a := rx
  obtain ⟨t1, t2, _⟩ := isD_at I1 d
  refine ⟨t1, t2, ?_⟩
  rw [m.trees]
  refine Calls.callWith_builtin rfl (Calls.evalArgs_plain (Calls.spliced_cons (thn (he pins s1 σ H1 _ I1 q1) fun iv s2 ⟨y, H2, I2, ry, ov, g, q2⟩ => Calls.spliced_nil ?_)))
  exact d_get1 hu I2 g ry fun w' s3 I3 rw' => ⟨_, H2, I3, rw', q2⟩
theorem pe_dget2 (hu : X.A.units + 1 < cLine) (ho : PE X o td) (he : PE X e ty) (hf : PE X f tx) (m : M2 X o "get" apos e f cpos) : PE X (.Call (.Attribute o "get" apos) [e, f] [] cpos) (tDGet2 td ty tx) := by
  intro pins s σ H Q I h
  refine wpAny_Call_method m.base m.few m.line PySem.F.plainAttrs_dict PySem.F.slot_dict_get PySem.F.type_dict_get (thn (ho pins s σ H _ I h) fun u s1 ⟨x, H1, I1, rx, a, ex, d, q1⟩ => ?_)
  subst ex
  obtain rfl : u = Value.ref a := rx
  obtain ⟨t1, t2, _⟩ := isD_at I1 d
  refine ⟨t1, t2, ?_⟩
  rw [m.trees]
  refine Calls.callWith_builtin rfl (Calls.evalArgs_plain (Calls.spliced_cons (thn (he pins s1 σ H1 _ I1 q1) fun iv s2 ⟨y, H2, I2, ry, q2⟩ =>
    Calls.spliced_cons (thn (hf pins s2 σ H2 _ I2 q2) fun fv s3 ⟨z, H3, I3, rz, ov, g, q3⟩ => Calls.spliced_nil ?_))))
  exact d_get2 hu I3 g ry rz fun w' s4 I4 rw' => ⟨_, H3, I4, rw', q3⟩
theorem pe_dpop1 (ho : PE X o td) (he : PE X e ty) (m : M1 X o "pop" apos e cpos) : PE X (.Call (.Attribute o "pop" apos) [e] [] cpos) (tDPop1 td ty) := by
  intro pins s σ H Q I h
  refine wpAny_Call_method m.base m.few m.line PySem.F.plainAttrs_dict PySem.F.slot_dict_pop PySem.F.type_dict_pop (thn (ho pins s σ H _ I h) fun u s1 ⟨x, H1, I1, rx, a, ex, d, q1⟩ => ?_)
  subst ex
  obtain rfl : u = Value.ref a := rx
  obtain ⟨t1, t2, _⟩ := isD_at I1 d
  refine ⟨t1, t2, ?_⟩
  rw [m.trees]
  refine Calls.callWith_builtin rfl (Calls.evalArgs_plain (Calls.spliced_cons (thn (he pins s1 σ H1 _ I1 q1) fun iv s2 ⟨y, H2, I2, ry, kvs, k, v, ea, ey, l, q2⟩ => Calls.spliced_nil ?_)))
  subst ey
  exact d_pop I2 ea ry l (.inl rfl) fun w' s3 I3 rw' => ⟨v, _, I3, rw', q2⟩
theorem pe_dpop2 (ho : PE X o td) (he : PE X e ty) (hf : PE X f tx) (m : M2 X o "pop" apos e f cpos) : PE X (.Call (.Attribute o "pop" apos) [e, f] [] cpos) (tDPop2 td ty tx) := by
  intro pins s σ H Q I h
  refine wpAny_Call_method m.base m.few m.line PySem.F.plainAttrs_dict PySem.F.slot_dict_pop PySem.F.type_dict_pop (thn (ho pins s σ H _ I h) fun u s1 ⟨x, H1, I1, rx, a, ex, d, q1⟩ => ?_)
  subst ex
  obtain rfl : u = Value.ref a := rx
  obtain ⟨t1, t2, _⟩ := isD_at I1 d
  refine ⟨t1, t2, ?_⟩
  rw [m.trees]
  refine Calls.callWith_builtin rfl (Calls.evalArgs_plain (Calls.spliced_cons (thn (he pins s1 σ H1 _ I1 q1) fun iv s2 ⟨y, H2, I2, ry, q2⟩ =>
    Calls.spliced_cons (thn (hf pins s2 σ H2 _ I2 q2) fun fv s3 ⟨z, H3, I3, rz, kvs, k, ea, ey, q3, q4⟩ => Calls.spliced_nil ?_))))
  subst ey
  cases l : valV kvs k with
  | some v => exact d_pop I3 ea ry l (.inr ⟨fv, rfl⟩) fun w' s4 I4 rw' => ⟨v, _, I4, rw', q3 v l⟩
  | none => exact d_popD I3 ea ry l fun s4 I4 => ⟨z, H3, I4, rz, q4 l⟩
end
section
variable {X : Cx} {pins : List (Addr × Obj)} {σ : St} {H : Hp} {s : Shared} {a : Addr} {kvs : List (Key × V)} {A : Around} {E : Value → Shared → Prop}
theorem d_copyOf {Q : Value → Shared → Prop} (I : Inv X pins σ H s) (e : Rd H a (.dK kvs)) (h : ∀ p s', H p = none → Inv X pins σ (upd H p (.dK kvs)) s' → Q (.ref p) s') : wpAny (model X.prog X.w) A (call (.type "dict") [.ref a]) Q E s := by
  obtain ⟨z, hd, vs, rel, dd⟩ := dk_rd I.hok e
  refine kt_call_dict hd dd (by rw [← rel.length]; exact z) fun h' dd' hs => ?_
  refine h _ _ (I.hok.fresh (Nat.le_refl _)) (I.laid (a := s.heap.objs.size) (o := .dK kvs) (t' := s.toks) (fun b q hq => ?_) (Nat.le_refl _) (dk_new z (beq_eq_false_iff_ne.mpr (Ne.symm (Nat.ne_of_lt I.big))) rel dd'))
  exact (hs.2 b (Nat.ne_of_lt (Heap.lt_size hq))).trans (Heap.get?_push_of_some _ hq)
end
section
variable {X : Cx} {pins : List (Addr × Obj)} {σ : St} {H : Hp} {s : Shared} {a : Addr} {y : V} {u : Value} {A : Around} {E : Value → Shared → Prop}
theorem d_missing {Q : Value → Shared → Prop} (hu : A.units + 1 < cLine) (hh : A.handled = none) (I : Inv X pins σ H s) (g : DGet H a y none) (ry : RelV y u)
    (h : ∀ h' e t', Heap.NewExc s.heap h' e "KeyError" → E (.ref e) { s with heap := h', toks := t' }) : wpAny (model X.prog X.w) A (getItem (.ref a) u) Q E s := by
  rcases g with ⟨kvs, k, e, ey, l⟩ | ⟨kvs, k, b, e, ey, eb, l⟩
  · subst ey
    obtain ⟨z, hd, vs, rel, dd⟩ := dk_rd I.hok e
    have hn : valueAt vs k = none := RelO.none_of (by rw [l]; exact rel.val k)
    exact wpAny_getItem_missing_of (kV_is ry) hd hh dd.mapOf hn fun h' ex ne => h h' ex _ ne
  · subst ey
    cases (show u = Value.ref b from ry)
    obtain ⟨z, hd, xs, rel, dd⟩ := dt_rd I.hok e
    have hn : (atKey xs k).map (·.2) = none := RelO.none_of (by rw [l]; exact rel.val k)
    exact wpAny_getItem_missing_heap (tupleKind_room_in1 hu) (key_of I.hok eb) hd hh dd (Option.map_eq_none_iff.mp hn) fun h' ex ne => h h' ex _ ne
end
end L2
namespace Att
open PySem PySem.W PySem.Calls PyProof.Rows
theorem ints_of_wellAll {P : Params} {h : Heap} : ∀ (ns : List Int) (vs : List Value), WellAll P h vs (ns.map WData.int) → IntsAre vs ns := by
  intro ns
  induction ns with
  | nil =>
    intro vs w
    rw [List.map_nil] at w
    cases w
    exact .nil
  | cons n ns ih =>
    intro vs w
    rw [List.map_cons] at w
    cases w with
    | cons a b =>
      cases a
      exact .cons _ _ (ih _ b)
theorem script_of {l : OpenLaw} {n : Nat} (hn : l.most = some n) {P : Params} {h : Heap} {args : List WData} {vals : List Value}
    (hpre : l.row.toRowW.claim.pre args = true) (hwl : WellAll P h vals args) :
    ∃ a vs ns, vals = [Value.ref a] ∧ args = [WData.list (ns.map WData.int)] ∧ h.get? a = some { cls := .type "list", data := .seq vs.toArray } ∧ IntsAre vs ns ∧ ns.length ≤ n := by
  have hsh : WShape.hasAll [] args [.list .int] = true := (pre_splitW hpre).1
  have hc : l.pre.holds [] { args := args } = true := (pre_splitW hpre).2
  obtain ⟨d, r, rfl, h1, h2⟩ := hasAllW_cons hsh
  obtain rfl := hasAllW_nil h2
  obtain ⟨xs, rfl, h3⟩ := hasW_list h1
  obtain ⟨ns, rfl⟩ := items_int h3
  have hlen : ns.length ≤ n := by
    unfold OpenLaw.pre at hc
    have h4 : (WTm.not (.lt (.lit (.int (n : Int))) (.len (.arg 0)))).holds [] { args := [.list (ns.map .int)] } = true := by
      have h4 := (holds_andW hc).1
      rw [hn] at h4
      exact h4
    have h5 := condW_of h4 (w_not (w_lt w_lit (w_len_list (w_arg rfl))))
    rw [List.length_map] at h5
    refine Nat.le_of_not_lt fun q => ?_
    have q' : (n : Int) < ((ns.length : Nat) : Int) := by omega
    first
      | (rw [decide_eq_true q'] at h5; exact absurd h5 (by decide))
      | (simp at h5; omega)
  cases hwl with
  | cons w1 w2 =>
    cases w2
    cases w1 with
    | list ho hall => exact ⟨_, _, ns, rfl, rfl, ho, ints_of_wellAll ns _ hall, hlen⟩
theorem post_true (l : OpenLaw) (args : List WData) : l.row.toRowW.claim.post args (.bool true) args = true :=
  postW_of (r := l.row.toRowW) (X := (true == true))
    (show WShape.has [] (.bool true) .bool = true by first | rfl | decide | simp [WShape.has, WShape.arms, WShape.armsAll])
    (show (WTm.eq .res (.lit (.bool true))).value [] { args := args, res := some (.bool true), after := args } = some (.bool (true == true)) from w_eq_bool (w_res rfl) w_lit) rfl
theorem attach {l : OpenLaw} {n : Nat} {q : Program} {loose : List Str} {XP : (Str → Option Value) → Heap → Prop} {YP : World → Heap → Prop} {d : DefRec} {x : Str}
    (hn : l.most = some n) (hdf : d.params.defaults = [])
    (hbind : ∀ pm cd doc v : Value, bindArgs (docDef d.name d.params d.body d.scope pm cd doc) ⟨[v], []⟩ = pure [(x, v)])
    (hx : d.scope.names.lookup x = some .local ∨ d.scope.names.lookup x = some .cell)
    (hk : d.scope.kind = .function) (hco : d.scope.isCoroutine = false) (hgen : d.scope.isGenerator = false)
    (body : ∀ (w : World) (s₀ s₁ s : Shared) (mg mb : Str → Option Value) (fa : Addr) (o : Obj) (pm cd doc : Value) (a : Addr) (vs : List Value) (ns : List Int),
      Ground q loose [] XP w s₀ mg mb s₁.heap → YP w s₁.heap →
      s₁.heap.get? fa = some o → o.data = .func (docDef d.name d.params d.body d.scope pm cd doc) → s₁.heap.CodeRec cd d.name → mg d.name = some (.ref fa) →
      s₁.heap.get? a = some { cls := .type "list", data := .seq vs.toArray } → IntsAre vs ns → ns.length ≤ n →
      s.gens = #[] → s.os = s₁.os →
      Fr s₁.heap s₁.heap.objs.size s.heap (bindL (envOfC d.name d.scope s₁.heap.objs.size fa cd).kindOf [(x, .ref a)] fun _ => none) →
      Cl s₁.heap.objs.size (cellsFrom (s₁.heap.objs.size + 1) d.scope.names []) s.heap (bindC (envOfC d.name d.scope s₁.heap.objs.size fa cd).kindOf [(x, .ref a)] fun _ => none) →
      wpAny (model l.prog w) (callerA.deeper (envOfC d.name d.scope s₁.heap.objs.size fa cd)) (execs d.body (envOfC d.name d.scope s₁.heap.objs.size fa cd))
        (fun f s' => f = .ret (.bool true) ∧ OldK s₁.heap s'.heap ∧ s'.os = s₁.os ∧ AllBare s'.gens) (fun _ _ => False) s) :
    WalkO q loose XP YP l.row.toRowW d [] (fun f vs => PySem.call f vs) := by
  intro w s₀ s₁ mg mb G Y fa o pm cd doc dV kV ho hd hcd hD hmg hg args vals as hpre hlay hrd hwl hlo
  obtain rfl : dV = .none := Dflts.none hD hdf
  obtain rfl : kV = .none := Dflts.noKw hD
  obtain ⟨a, vs, ns, rfl, rfl, hobj, hints, hlen⟩ := script_of hn hpre hwl
  refine enter_call ?_
  refine call_cells_ret (o := o) (by rw [depth_caller]; decide) ho (fd_plain hd) G.T.nolimit hcd (hbind pm cd doc (.ref a)) (fun y hy => ?_) (fun h₁ tk F X => ?_) hco hgen hk
  · obtain rfl : y = (x, Value.ref a) := List.mem_singleton.mp hy
    rcases hx with e | e
    · exact .inl e
    · exact .inr ⟨e, cellsFrom_some _ _ _ (.inl e)⟩
  · refine wpAny_mono (body w s₀ s₁ { s₁ with heap := h₁, toks := tk } mg mb fa o pm cd doc a vs ns G Y ho (fd_plain hd) hcd hmg hobj hints hlen hg rfl F X) (fun f s' hq => ?_) (fun _ _ hq => hq)
    obtain ⟨rfl, h2, h3, h4⟩ := hq
    exact ⟨.inl ⟨.bool true, .bool true, [], rfl, fun _ => rfl, .bool true, post_true l _, fun _ => ⟨List.Pairwise.nil, fun _ hm => (nomatch hm)⟩⟩, h2, h3, h4⟩
theorem attach_call {l : OpenLaw} {n : Nat} {q : Program} {loose : List Str} {XP : (Str → Option Value) → Heap → Prop} {YP : World → Heap → Prop} {d : DefRec}
    (hn : l.most = some n) (hdf : d.params.defaults = [])
    (call : ∀ (w : World) (s₀ s₁ : Shared) (mg mb : Str → Option Value) (fa : Addr) (o : Obj) (pm cd doc : Value) (a : Addr) (vs : List Value) (ns : List Int),
      Ground q loose [] XP w s₀ mg mb s₁.heap → YP w s₁.heap →
      s₁.heap.get? fa = some o → o.data = .func (docDef d.name d.params d.body d.scope pm cd doc) → s₁.heap.CodeRec cd d.name → mg d.name = some (.ref fa) →
      s₁.heap.get? a = some { cls := .type "list", data := .seq vs.toArray } → IntsAre vs ns → ns.length ≤ n → s₁.gens = #[] →
      codeAny (model l.prog w) callerA (.call (.ref fa) ⟨[.ref a], []⟩) (fun r s' => r = .ok (.ret (.bool true)) ∧ OldK s₁.heap s'.heap ∧ s'.os = s₁.os ∧ AllBare s'.gens) s₁) :
    WalkO q loose XP YP l.row.toRowW d [] (fun f vs => PySem.call f vs) := by
  intro w s₀ s₁ mg mb G Y fa o pm cd doc dV kV ho hd hcd hD hmg hg args vals as hpre hlay hrd hwl hlo
  obtain rfl : dV = .none := Dflts.none hD hdf
  obtain rfl : kV = .none := Dflts.noKw hD
  obtain ⟨a, vs, ns, rfl, rfl, hobj, hints, hlen⟩ := script_of hn hpre hwl
  refine enter_call (codeAny_mono (call w s₀ s₁ mg mb fa o pm cd doc a vs ns G Y ho (fd_plain hd) hcd hmg hobj hints hlen hg) fun r s' hq => ?_)
  obtain ⟨rfl, h2, h3, h4⟩ := hq
  exact ⟨.inl ⟨.bool true, .bool true, [], rfl, fun _ => rfl, .bool true, post_true l _, fun _ => ⟨List.Pairwise.nil, fun _ hm => (nomatch hm)⟩⟩, h2, h3, h4⟩
theorem attachN {l : OpenLaw} {n : Nat} {q : Program} {loose : List Str} {XP : (Str → Option Value) → Heap → Prop} {YP : World → Heap → Prop} {d : DefRec} {x : Str}
    (hn : l.most = some n) (hdf : d.params.defaults = [])
    (hbind : ∀ pm cd doc v : Value, bindArgs (docDef d.name d.params d.body d.scope pm cd doc) ⟨[v], []⟩ = pure [(x, v)])
    (hx : d.scope.names.lookup x = some .local ∨ d.scope.names.lookup x = some .cell)
    (hk : d.scope.kind = .function) (hco : d.scope.isCoroutine = false) (hgen : d.scope.isGenerator = false)
    (body : ∀ (w : World) (s₀ s₁ s : Shared) (mg mb : Str → Option Value) (fa : Addr) (o : Obj) (pm cd doc : Value) (a : Addr) (vs : List Value) (ns : List Int),
      Ground q loose [] XP w s₀ mg mb s₁.heap → YP w s₁.heap →
      s₁.heap.get? fa = some o → o.data = .func (docDef d.name d.params d.body d.scope pm cd doc) → s₁.heap.CodeRec cd d.name → mg d.name = some (.ref fa) →
      s₁.heap.get? a = some { cls := .type "list", data := .seq vs.toArray } → IntsAre vs ns → ns.length ≤ n →
      s.gens = #[] → s.os = s₁.os →
      Fr s₁.heap s₁.heap.objs.size s.heap (bindL (envOfC d.name d.scope s₁.heap.objs.size fa cd).kindOf [(x, .ref a)] fun _ => none) →
      Cl s₁.heap.objs.size (cellsFrom (s₁.heap.objs.size + 1) d.scope.names []) s.heap (bindC (envOfC d.name d.scope s₁.heap.objs.size fa cd).kindOf [(x, .ref a)] fun _ => none) →
      wpAny (model l.prog w) (callerA.deeper (envOfC d.name d.scope s₁.heap.objs.size fa cd)) (execs d.body (envOfC d.name d.scope s₁.heap.objs.size fa cd))
        (fun f s' => f = .ret (.bool true) ∧ (∀ b o, s₁.heap.get? b = some o → s'.heap.get? b = some o) ∧ s'.os = s₁.os ∧ s'.gens = #[]) (fun _ _ => False) s) :
    WalkN q loose XP YP l.row.toRowW d [] (fun f vs => PySem.call f vs) := by
  intro w s₀ s₁ mg mb G Y fa o pm cd doc dV kV ho hd hcd hD hmg hg args vals as hpre hlay hrd hwl hlo
  obtain rfl : dV = .none := Dflts.none hD hdf
  obtain rfl : kV = .none := Dflts.noKw hD
  obtain ⟨a, vs, ns, rfl, rfl, hobj, hints, hlen⟩ := script_of hn hpre hwl
  refine enter_callW ?_
  refine call_cells_ret (o := o) (by rw [depth_caller]; decide) ho (fd_plain hd) G.T.nolimit hcd (hbind pm cd doc (.ref a)) (fun y hy => ?_) (fun h₁ tk F X => ?_) hco hgen hk
  · obtain rfl : y = (x, Value.ref a) := List.mem_singleton.mp hy
    rcases hx with e | e
    · exact .inl e
    · exact .inr ⟨e, cellsFrom_some _ _ _ (.inl e)⟩
  · refine wpAny_mono (body w s₀ s₁ { s₁ with heap := h₁, toks := tk } mg mb fa o pm cd doc a vs ns G Y ho (fd_plain hd) hcd hmg hobj hints hlen hg rfl F X) (fun f s' hq => ?_) (fun _ _ hq => hq)
    obtain ⟨rfl, h2, h3, h4⟩ := hq
    exact ⟨.inl ⟨.bool true, .bool true, [], rfl, fun _ => rfl, .bool true, post_true l _, fun _ => ⟨List.Pairwise.nil, fun _ hm => (nomatch hm)⟩⟩, h2, h3, h4⟩
section
variable {prog : Program} {w : World} {A : Around} {E : Value → Shared → Prop} {s : Shared} {K : Frag}
theorem call_fn {R : Result → Shared → Prop} {name qual : Str} {params : Arguments} {body : List Stmt} {scope : Scope} {dV kV doc pm cdv ct oc : Value} {an od : Option Addr} {osl : Array (Option Value)} {f : Addr} {args : Args} {binds : List (Str × Value)}
    (X : K.In s.heap) (hlim : s.heap.NoLimit) (ho : K.lookup f = some ⟨oc, od, .func (fnOf name qual params body scope dV kV doc pm an cdv ct), osl⟩) (hcd : codeIn K cdv qual = true) (hroom : A.depth < recursionLimit)
    (hbind : BindsTo s (fnOf name qual params body scope dV kV doc pm an cdv ct) args binds)
    (hkind : (binds.all fun y => scope.names.lookup y.1 == some .local || scope.names.lookup y.1 == some .cell) = true)
    (h : ∀ s₁, InCallC s s.heap.objs.size (bindL (envOfC qual scope s.heap.objs.size f cdv).kindOf binds fun _ => none) (cellsFrom (s.heap.objs.size + 1) scope.names [])
        (bindC (envOfC qual scope s.heap.objs.size f cdv).kindOf binds fun _ => none) s₁ →
      wpAny (model prog w) (A.deeper (envOfC qual scope s.heap.objs.size f cdv)) (execs body (envOfC qual scope s.heap.objs.size f cdv))
        (fun fl s' => R (.ok (.ret (match fl with | .ret v => v | _ => .none))) s')
        (fun e s' => wpAny (model prog w) (A.deeper (envOfC qual scope s.heap.objs.size f cdv)) (leaving (envOfC qual scope s.heap.objs.size f cdv) e) (fun _ s'' => R (.error e) s'') (fun e' s'' => R (.error e') s'') s') s₁)
    (hco : scope.isCoroutine = false) (hgen : scope.isGenerator = false) (hk : scope.kind = .function) : codeAny (model prog w) A (.call (.ref f) args) R s := by
  refine codeAny_call_function hroom (X _ _ ho) rfl hco hgen rfl (codeRec_of X hcd) (hbind _ _ _ _ ?_)
  refine wpAny_newFunctionEnv_cells hk (kindsX hkind _) fun env he s₁ x => ?_
  subst he
  exact ⟨hlim.keeps x.toInCall.keep, codeAny_func (h s₁ x)⟩
theorem make_obj {R : Result → Shared → Prop} {C fI : Addr} {rest : List Value} {kw : List (Str × Value)}
    (X : K.In s.heap) (hm : makesIn K C = true) (hi : findIn K (.ref C) "__init__" = some (some (.ref fI))) (hf : isFn K (.ref fI) = true)
    (h : codeAny (model prog w) (A.under (.builtin "type.__call__" ⟨.ref C :: rest, kw⟩)) (.call (.ref fI) ⟨.ref (s.heap.objs.size + 1) :: rest, kw⟩) (InitBack (s.heap.objs.size + 1) R)
      { s with heap := (s.heap.push emptyDict).push (instObj C s.heap.objs.size) }) : codeAny (model prog w) A (.call (.ref C) ⟨rest, kw⟩) R s := by
  obtain ⟨hh, g, d, t, os⟩ := s
  exact make_core (makes_of X hm) (looks_findIn X hi) (fun self => bind_fn X self (beq_iff_eq.mp hf)) (.inl rfl) h
theorem get_field {x C : Addr} {ox : Obj} {es : List DictEntry} {n : Nat} {name : Str} {expr : Bool} {v : Value} {Q : Value → Shared → Prop}
    (X : K.In s.heap) (I : PySem.W.InstAt s.heap x ox C (some (dictOf es n))) (hg : plainGet K C name = true) (hh : hasDictIn K C = true) (ha : findIn K (.ref C) name = some none)
    (hl : getL name es = some (some v)) (hv : handedIn v = true) (h : Q v { s with toks := s.toks + 1 }) : wpAny (model prog w) A (getAttr (.ref x) name expr) Q E s :=
  get_value X I (plainGet_of hg).1 (findObj_own hh ha rfl hl) hv h
theorem get_method {x C f : Addr} {ox : Obj} {es : List DictEntry} {n : Nat} {name : Str} {pl : Sem Bool} {Q : Value × List Value → Shared → Prop}
    (X : K.In s.heap) (I : PySem.W.InstAt s.heap x ox C (some (dictOf es n))) (hg : plainGet K C name = true) (hf : findIn K (.ref C) name = some (some (.ref f))) (ht : isFn K (.ref f) = true)
    (hl : getL name es = some none) (h : Q (.ref f, [.ref x]) s) : wpAny (model prog w) A (getMethod (.ref x) name pl) Q E s :=
  method_fn X I (plainGet_of hg).1 (plainGet_of hg).2 hf (beq_iff_eq.mp ht) (by show (lookIn name (dictOf es n)).map _ = _; rw [lookIn_dict, hl]; rfl) h
def noObjs (h : Heap) : Heap := { h with objs := #[] }
theorem noObjs_get (h : Heap) (b : Addr) : (noObjs h).get? b = none := by
  cases e : (noObjs h).get? b with
  | none => rfl
  | some o => exact absurd (Heap.lt_size e) (Nat.not_lt_zero _)
def ledger (h : Heap) (L d : Addr) : List (Addr × Obj) := (List.range h.objs.size).filterMap fun a => if a = L ∨ a = d then none else (h.get? a).map fun o => (a, o)
theorem mem_ledger {h : Heap} {L d a : Addr} {o : Obj} : (a, o) ∈ ledger h L d ↔ a ≠ L ∧ a ≠ d ∧ h.get? a = some o := by
  unfold ledger
  rw [List.mem_filterMap]
  constructor
  · rintro ⟨b, _, e⟩
    split at e
    · cases e
    · rename_i hb
      obtain ⟨o', ho, e'⟩ := Option.map_eq_some_iff.mp e
      cases e'
      exact ⟨fun q => hb (.inl q), fun q => hb (.inr q), ho⟩
  · rintro ⟨n1, n2, ho⟩
    refine ⟨a, List.mem_range.mpr (Heap.lt_size ho), ?_⟩
    rw [if_neg (show ¬ (a = L ∨ a = d) from fun q => q.elim n1 n2), ho] <;> rfl
theorem news_ledger {h : Heap} {L d : Addr} {od : Obj} (hne : d ≠ L) (ho : h.get? d = some od) : News (noObjs h) L h ([] ++ (d, od) :: ledger h L d) := by
  rintro ⟨a, o⟩ hp
  rcases List.mem_cons.mp hp with e | hp
  · cases e
    exact ⟨ho, hne, noObjs_get _ _⟩
  · obtain ⟨n1, n2, e⟩ := mem_ledger.mp hp
    exact ⟨e, n1, noObjs_get _ _⟩
theorem fr_all {h : Heap} {L : Addr} {m : Str → Option Value} (n : h.Ns L m) : Fr (noObjs h) L h m :=
  ⟨n, fun b o e => (by rw [noObjs_get] at e; cases e), Nat.zero_le _⟩
theorem upd_ledger {h : Heap} {L d : Addr} {o o' : Obj} : Upd d o o' ((d, o) :: ledger h L d) ((d, o') :: ledger h L d) :=
  .head fun ⟨_, _⟩ hp => (mem_ledger.mp hp).2.1
theorem set_field {x C dx L : Addr} {ox : Obj} {m : Str → Option Value} {es es' : List DictEntry} {n n' : Nat} {name : Str} {v : Value} {Q : Unit → Shared → Prop}
    (X : K.In s.heap) (I : PySem.W.InstAt s.heap x ox C (some (dictOf es n))) (hd : ox.dict = some dx) (hL : s.heap.Ns L m) (hne : dx ≠ L)
    (hs : findIn K (.ref C) "__setattr__" = some (some (.builtin "object.__setattr__"))) (hp : plainOver K C = true) (ht : takerIn K C name = some none) (hh : hasDictIn K C = true) (hl : (getL name es).isSome = true)
    (e : (putL name (PyData.keyHash w.params name) (.str name (s.toks + 1)) v es, putN name es n) = (es', n')) (hz : es'.length ≤ 1000)
    (h : ∀ h' : Heap, h'.Ns L m → h'.get? dx = some (dictOf es' n') → (∀ b o, b ≠ dx → b ≠ L → s.heap.get? b = some o → h'.get? b = some o) → Q () { s with heap := h', toks := s.toks + 2 }) :
    wpAny (model prog w) A (setAttr (.ref x) name v) Q E s := by
  obtain ⟨e1, e2⟩ := Prod.mk.inj e
  have hdx : s.heap.get? dx = some (dictOf es n) := by
    have := I.dict
    rw [hd] at this
    exact this
  refine set_plain X I hs (osa_dict (s := { s with toks := s.toks + 1 }) (h₀ := noObjs s.heap) (L := L) (m := m) (od := dictOf es n) (od' := dictOf es' n') (es := es') (n := n') (pre := []) (post := ledger s.heap L dx)
    (fr_all hL) (news_ledger hne hdx) X I hd hp ht hh hl (fun _ q => nomatch q) (fun ⟨_, _⟩ q => (mem_ledger.mp q).2.1) (by rw [putName_dict, e1, e2]) rfl hz fun h' F' N' => ?_)
  exact h h' F'.ns (N'.get (List.Mem.head _)) fun b o n1 n2 ho => N'.get (List.Mem.tail _ (mem_ledger.mpr ⟨n2, n1, ho⟩))
end
end Att
namespace L2
open PySem PySem.Spec PyProof.Rows
theorem vals_ints : ∀ {vs : List Value} {ns : List Int}, IntsAre vs ns → Vals (ns.map V.int) vs
  | _, _, .nil => .nil
  | _, _, .cons n t h => .cons ⟨t, rfl⟩ (vals_ints h)
def Only (H : Hp) : Prop := ∀ b, H b = none ∨ ∃ o xs, H b = some (.frz o (.lst xs))
theorem law_call {P : Program} {w : World} {K : PySem.W.Frag} {mg mb : Str → Option Value} {CX : CXT} {k : Nat} {fa a : Addr} {fd : FuncData} {x : Str} {sp : Sp} {s₁ : Shared} {vs : List Value} {ns : List Int}
    (KX : K.In s₁.heap) (hns : s₁.heap.Ns mainGlobals mg) (hb : s₁.heap.Ns builtinsNs mb) (hbb : ∀ x : Str, x ≠ "__name__" → mb x = bootBuiltins x) (hlim : s₁.heap.NoLimit) (hg : s₁.gens = #[])
    (ha : s₁.heap.get? a = some { cls := .type "list", data := .seq vs.toArray }) (hi : IntsAre vs ns) (hl : ns.length ≤ sizeLine) (hr : Room k callerA)
    (F : ∀ base : Heap, K.In base → base.Ns mainGlobals mg → FnOk P w K mg base CX k fa fd [x] sp) (hbind : ∀ (s : Shared) (u : Value), BindsTo s fd ⟨[u], []⟩ [(x, u)])
    (hsp : ∀ H : Hp, Only H → SqL K H a (ns.map V.int) → sp [.ref a] H (fun v _ => v = .bl true) fun _ _ _ => False)
    (hCX : ∀ H e s', CX [] H s₁ (fun _ _ _ => False) e s' → False) :
    codeAny (model P w) callerA (.call (.ref fa) ⟨[.ref a], []⟩) (fun r s' => r = .ok (.ret (.bool true)) ∧ OldK s₁.heap s'.heap ∧ s'.os = s₁.os ∧ AllBare s'.gens) s₁ := by
  have rv := vals_ints hi
  have lenV := hi.length
  have core : ∀ H : Hp, Only H → SqL K H a (ns.map V.int) → HOk P w H s₁.heap → (∀ b, H b ≠ none → b = a) → (H a ≠ none → K.lookup a = none) →
      codeAny (model P w) callerA (.call (.ref fa) ⟨[.ref a], []⟩) (fun r s' => r = .ok (.ret (.bool true)) ∧ OldK s₁.heap s'.heap ∧ s'.os = s₁.os ∧ AllBare s'.gens) s₁ := by
    intro H hO hS hok hA hK
    have base_of : ∀ {b : Addr} {o : Obj}, s₁.heap.get? b = some o → H b = none → (hidT s₁.heap H).get? b = some o := fun e n => hidT_get e n
    have noA : ∀ {b : Addr} {o : Obj} {es : Array DictEntry} {ep : Nat}, s₁.heap.get? b = some o → o.data = .dict es ep → H b = none := fun {b o es ep} e d => by
      cases q : H b with
      | none => rfl
      | some u =>
        have e' : b = a := hA b (by rw [q]; simp)
        subst e'
        rw [ha] at e; cases e
        have d' : Data.seq vs.toArray _ = Data.dict es ep := d
        cases d'
    have nsK : ∀ {b : Addr} {m : Str → Option Value}, s₁.heap.Ns b m → (hidT s₁.heap H).Ns b m := fun {b m} ⟨o, es, ep, e, d, r⟩ => ⟨o, es, ep, base_of e (noA e d), d, r⟩
    have hKb : K.In (hidT s₁.heap H) := fun b o e => base_of (KX b o e) (by
      cases q : H b with
      | none => rfl
      | some u =>
        have e' : b = a := hA b (by rw [q]; simp)
        subst e'
        rw [hK (by rw [q]; simp)] at e; cases e)
    have hM : Mod K mg (hidT s₁.heap H) := ⟨hKb, nsK hns, ⟨mb, nsK hb, hbb⟩, let ⟨mc, h1, h2⟩ := hlim; ⟨mc, nsK h1, h2⟩⟩
    have e0 : Env0 P w K mg (hidT s₁.heap H) callerA [] s₁ H := ⟨rfl, hM, fun b o e => of_hidT e, Nat.le_of_eq (hidT_size _ _), trivial, fun b hb => absurd (show b ∈ ([] : List Addr) from hb) (by simp), hok, .of_eq hg⟩
    refine codeAny_mono ((F _ hKb (nsK hns)).run callerA [] s₁ H ⟨[.ref a], []⟩ [.ref a] [.ref a] _ _ hr e0 (hbind s₁ (.ref a)) (.cons rfl .nil) (hsp H hO hS)) fun r s' h => ?_
    cases r with
    | error e => exact (hCX H e s' h).elim
    | ok fl =>
      cases fl with
      | next => exact False.elim h
      | brk => exact False.elim h
      | cont => exact False.elim h
      | ret u =>
        obtain ⟨v, H', os, bare, un, hok', r', q⟩ := h
        have q' : v = .bl true := q
        subst q'
        obtain rfl : u = Value.bool true := r'
        refine ⟨rfl, OldK.of_keep fun b o e => ?_, os, bare⟩
        cases q : H b with
        | none => exact un.keep b o e q (by intro z; exact absurd (show b ∈ ([] : List Addr) from z) (by simp)) (by simp)
        | some u =>
          rcases hO b with z | ⟨ob, xs, z⟩
          · rw [q] at z; cases z
          · have z2 := un.frzs b ob _ z
            obtain ⟨e1, _⟩ := hok b _ z
            obtain ⟨e2, _⟩ := hok' b _ z2
            rw [e] at e1; cases e1
            exact e2
  cases hk : K.lookup a with
  | some o =>
    have e := KX a o hk
    rw [ha] at e
    cases e
    refine core (fun _ => none) (fun _ => .inl rfl) (.inr ⟨_, vs.toArray, _, hk, rfl, rfl, rfl, by rw [List.size_toArray, lenV]; exact hl, by simpa using rv⟩) (fun b u z => by have z' : (none : Option HO) = some u := z; cases z') (fun b z => absurd rfl z) fun z => absurd rfl z
  | none =>
    refine core (fun b => if b = a then some (.frz { cls := .type "list", data := .seq vs.toArray } (.lst (ns.map V.int))) else none) (fun b => ?_) (.inl (.inr ⟨{ cls := .type "list", data := .seq vs.toArray }, if_pos rfl⟩)) (fun b u z => ?_) (fun b z => ?_) fun _ => hk
    · by_cases hb : b = a
      · exact .inr ⟨_, _, if_pos hb⟩
      · exact .inl (if_neg hb)
    · by_cases hb : b = a
      · have z' := (if_pos hb).symm.trans z
        cases z'
        subst hb
        exact ⟨ha, by rw [List.length_map]; exact hl, vs, _, rv, ha⟩
      · have z' := (if_neg hb).symm.trans z
        cases z'
    · by_cases hb : b = a
      · exact hb
      · exact absurd (if_neg hb) z
end L2
namespace L2
open PySem PySem.Spec PyProof.Rows
abbrev KOf {K : PySem.W.Frag} {h : Heap} (_ : K.In h) : PySem.W.Frag := K
theorem walk_of {l : PySem.W.OpenLaw} {n k : Nat} {q : Program} {loose : List Str} {XP : (Str → Option Value) → Heap → Prop} {YP : World → Heap → Prop} {d : DefRec} {K : Params → PySem.W.Frag} {CX : World → CXT} {sp : World → Sp} {x : Str}
    (hn : l.most = some n) (hn2 : n ≤ sizeLine) (hdf : d.params.defaults = []) (hr : Room k callerA)
    (hY : ∀ (w : World) (h : Heap), YP w h → (K w.params).In h)
    (F : ∀ (w : World) (mg : Str → Option Value) (fa : Addr) (h : Heap), (K w.params).In h → h.Ns mainGlobals mg → mg d.name = some (.ref fa) →
      ∃ fd : FuncData, (∀ (s : Shared) (u : Value), BindsTo s fd ⟨[u], []⟩ [(x, u)]) ∧
        ∀ base : Heap, (K w.params).In base → base.Ns mainGlobals mg → FnOk l.prog w (K w.params) mg base (CX w) k fa fd [x] (sp w))
    (hsp : ∀ (w : World) (H : Hp) (a : Addr) (ns : List Int), ns.length ≤ n → Only H → SqL (K w.params) H a (ns.map V.int) → sp w [.ref a] H (fun v _ => v = .bl true) fun _ _ _ => False)
    (hCX : ∀ (w : World) (H : Hp) (s : Shared) (e : Value) (s' : Shared), CX w [] H s (fun _ _ _ => False) e s' → False) :
    PySem.W.WalkO q loose XP YP l.row.toRowW d [] (fun f vs => PySem.call f vs) := by
  refine Att.attach_call hn hdf fun w s₀ s₁ mg mb fa o pm cd doc a vs ns G Y ho hd hcd hmg hobj hints hlen hg => ?_
  have KX := hY w _ Y
  obtain ⟨fd, hb, hF⟩ := F w mg fa _ KX G.T.g hmg
  exact law_call KX G.T.g G.T.b G.T.builtins G.T.nolimit hg hobj hints (Nat.le_trans hlen hn2) hr hF hb (fun H hO hS => hsp w H a ns hlen hO hS) fun H e s' => hCX w H s₁ e s'
theorem walk_ofK {l : PySem.W.OpenLaw} {n k : Nat} {q : Program} {loose : List Str} {XP : (Str → Option Value) → Heap → Prop} {YP : World → Heap → Prop} {d : DefRec} {K : Params → PySem.W.Frag} {CX : CXT} {sp : PySem.W.Frag → Sp} {x : Str}
    (hn : l.most = some n) (hn2 : n ≤ sizeLine) (hdf : d.params.defaults = []) (hr : Room k callerA)
    (hY : ∀ (w : World) (h : Heap), YP w h → (K w.params).In h)
    (F : ∀ (w : World) (mg : Str → Option Value) (fa : Addr) (h : Heap), (K w.params).In h → h.Ns mainGlobals mg → mg d.name = some (.ref fa) →
      ∃ fd : FuncData, (∀ (s : Shared) (u : Value), BindsTo s fd ⟨[u], []⟩ [(x, u)]) ∧
        ∀ base : Heap, (K w.params).In base → base.Ns mainGlobals mg → FnOk l.prog w (K w.params) mg base CX k fa fd [x] (sp (K w.params)))
    (hsp : ∀ (K : PySem.W.Frag) (H : Hp) (a : Addr) (ns : List Int), ns.length ≤ n → Only H → SqL K H a (ns.map V.int) → sp K [.ref a] H (fun v _ => v = .bl true) fun _ _ _ => False)
    (hCX : ∀ (H : Hp) (s : Shared) (e : Value) (s' : Shared), CX [] H s (fun _ _ _ => False) e s' → False) :
    PySem.W.WalkO q loose XP YP l.row.toRowW d [] (fun f vs => PySem.call f vs) :=
  walk_of (K := K) (CX := fun _ => CX) (sp := fun w => sp (K w.params)) hn hn2 hdf hr hY F (fun w H a ns h1 h2 h3 => hsp (K w.params) H a ns h1 h2 h3) fun _ H s e s' => hCX H s e s'
end L2
/- THE LAST THEOREM (shape; LID, My.* are yours):
   My.Adr: a structure of the addresses that your layer names (classes, functions); My.Txt K t: a structure (Prop) of the equations over K;
   My.txt_mk : {K} {implicit addresses ..} (e1 : nsIn K mainGlobals "law" = some (some (.ref f))) (e2 : K.lookup f = some ⟨oc, od, .func (fnOf "law" "law" params body scope dV kV doc pm an cdv ct), sl⟩) (e3 : codeIn K cdv "law" = true) .. : ∃ t, My.Txt K t
set_option maxRecDepth 100000 in
set_option maxHeartbeats 0 in
theorem PySem.Challenge.cw_LID_holds : PySem.Challenge.rw_LID.Holds := by
  w_on; o_law; k_head; (case hw => w_witness2)
  k_fill
  refine L2.walk_of (l := PySem.Challenge.rw_LID) (n := 63) (k := 40) (x := "script") (CX := fun w => ..) (sp := fun _ => My.sp_law) rfl (by decide) rfl ⟨rfl, by decide, by decide⟩ (fun w h Y => PySem.W.kIn_of Y) ?F ?S ?C
  case F =>
    intro w mg fa h KX G hmg
    have T : ∃ t, My.Txt (L2.KOf KX) t := by
      dsimp only [L2.KOf]                          -- K must stand as «<heap const> w.params» for k_is
      refine' My.txt_mk ?e1 ?e2 ?e3 ..
      (case e1 => PySem.W.k_is)                    -- in the order: a name -> its address -> its object -> its parts
      (case e2 => PySem.W.k_is)
      ..
    obtain ⟨t, T⟩ := T
    have e0 := hmg.symm.trans (PySem.W.mg_of KX G T.law)
    cases e0                                       -- fa is the law's own address
    exact ⟨_, fun s u => .of_eq rfl, fun base kb nb => My.law_fn T kb nb⟩     -- if «.of_eq rfl» comes too early: refine' ⟨_, ?b, fun base kb nb => My.law_fn T kb nb⟩; exact fun s u => .of_eq rfl
  case S => exact fun w H a ns hl hO hS => ..
  case C => exact ..
(the tactic k_is has no namespace: write k_is) -/
namespace L2
open PySem PySem.Spec PyProof.Rows
def inClass (s : Stmt) (j : Nat) : Stmt := match s with
  | .ClassDef _ _ _ body _ _ _ _ _ _ _ => body.getD j (.Pass ⟨0, 0, 0, 0⟩)
  | _ => .Pass ⟨0, 0, 0, 0⟩
def defArgs (s : Stmt) : Arguments := match s with
  | .FunctionDef _ a _ _ _ _ _ _ _ _ => a
  | _ => { posonlyargs := [], args := [], vararg := none, kwonlyargs := [], kw_defaults := [], kwarg := none, defaults := [] }
def defBody (s : Stmt) : List Stmt := match s with
  | .FunctionDef _ _ b _ _ _ _ _ _ _ => b
  | _ => []
def defScope (s : Stmt) : Scope := match s with
  | .FunctionDef _ _ _ _ _ _ sc _ _ _ => sc
  | _ => { kind := .function, names := [], isGenerator := false, isCoroutine := false }
abbrev CX0 : CXT := fun _ _ _ _ _ _ => False
abbrev E0 : XK := fun _ _ _ => False
theorem pass0 {X : Cx} : Passes CX0 X E0 := fun _ _ _ _ _ _ _ h => h.elim
structure Fun (K : PySem.W.Frag) (x qual : Str) (st : Stmt) (f : Addr) (fd : FuncData) : Prop where
  ex : ∃ (oc : Value) (od : Option Addr) (kV doc pm : Value) (an : Option Addr) (cdv ct : Value) (osl : Array (Option Value)),
    fd = PySem.W.fnOf x qual (defArgs st) (defBody st) (defScope st) .none kV doc pm an cdv ct ∧ K.lookup f = some ⟨oc, od, .func fd, osl⟩ ∧ PySem.W.codeIn K cdv qual = true
  kp : PySem.W.keepIn K (.ref f) = true
section
variable {P : Program} {w : World} {K : PySem.W.Frag} {mg : Str → Option Value} {base : Heap}
theorem Fun.ok {x qual : Str} {st : Stmt} {f : Addr} {fd : FuncData} {N ps : List Str} {k : Nat} {sp : Sp} (F : Fun K x qual st f fd) (S : FnScope N ps (defScope st)) (len : ∀ vs H Q E, sp vs H Q E → vs.length = ps.length)
    (hbody : ∀ (cdv : Value) (A : Around) (outer : List Env) (s : Shared) (H : Hp) (vs : List V) (Q : VK) (E : XK), Room k (A.deeper (envOfC qual (defScope st) s.heap.objs.size f cdv)) → sp vs H Q E →
      ∃ t, PSs (cxOf CX0 P w K mg base N qual (defScope st) f cdv A outer s H E).nox (defBody st) t ∧ t { nx := fun _ H' => Q .non H', rt := Q } (start N vs) H) : FnOk P w K mg base CX0 (k + 1) f fd ps sp := by
  obtain ⟨oc, od, kV, doc, pm, an, cdv, ct, osl, rfl, lk, hcd⟩ := F.ex
  refine fn_of lk hcd S len fun A outer s H vs Q E hr hsp => ?_
  obtain ⟨t, h, q⟩ := hbody cdv A outer s H vs Q E hr hsp
  exact ⟨t, h.nox, q⟩
theorem Fun.binds {x qual : Str} {st : Stmt} {f : Addr} {fd : FuncData} {ps : List Str} (F : Fun K x qual st f fd)
    (h : ∀ (kV doc pm : Value) (an : Option Addr) (cdv ct : Value) (us : List Value), us.length = ps.length → bindArgs (PySem.W.fnOf x qual (defArgs st) (defBody st) (defScope st) .none kV doc pm an cdv ct) ⟨us, []⟩ = pure (ps.zip us)) : Binds K fd ps [] := by
  obtain ⟨oc, od, kV, doc, pm, an, cdv, ct, osl, rfl, lk, hcd⟩ := F.ex
  exact .all (h kV doc pm an cdv ct)
theorem fun_mk {x qual : Str} {st : Stmt} {f : Addr} {oc : Value} {od an : Option Addr} {osl : Array (Option Value)} {kV doc pm cdv ct : Value} (l : K.lookup f = some ⟨oc, od, .func (PySem.W.fnOf x qual (defArgs st) (defBody st) (defScope st) .none kV doc pm an cdv ct), osl⟩)
    (c : PySem.W.codeIn K cdv qual = true) (k : PySem.W.keepIn K (.ref f) = true) : Fun K x qual st f (PySem.W.fnOf x qual (defArgs st) (defBody st) (defScope st) .none kV doc pm an cdv ct) := ⟨⟨oc, od, kV, doc, pm, an, cdv, ct, osl, rfl, l, c⟩, k⟩
end
theorem hu_of {A : Around} {k : Nat} (hr : Room k A) : A.units + 1 < cLine := Nat.lt_of_le_of_lt (Nat.add_le_add_left (by decide : 1 ≤ 64) _) hr.units
theorem small1000 {n : Nat} (h : n ≤ 1000) : n < sizeLine := Nat.lt_of_le_of_lt h (by decide)
section
variable {X : Cx}
theorem pv (i : Nat) {x : Str} {pos : Pos} (hN : X.N[i]? = some x := by rfl) (hv : Vis X.env.scope x := by first | exact Or.inl rfl | exact Or.inr (Or.inl rfl) | exact Or.inr (Or.inr rfl)) (hd : (x == ("__debug__" : Str)) = false := by decide)
    (hcd : (x == ("__classdict__" : Str)) = false := by decide) : PE X (.Name x pos) (tVar i) := pe_var hN hv hd hcd
end
theorem iteF {A B : Prop} (h : B) : if false = true then A else B := by
  rw [if_neg Bool.false_ne_true]
  exact h
theorem iteT {A B : Prop} (h : A) : if true = true then A else B := by
  rw [if_pos rfl]
  exact h
theorem ite2 {c A B : Prop} [Decidable c] (h1 : c → A) (h2 : ¬ c → B) : if c then A else B := by
  by_cases h : c
  · rw [if_pos h]
    exact h1 h
  · rw [if_neg h]
    exact h2 h
theorem iteNS {c A B : Prop} [Decidable c] (hc : c) (h : B) : if (!decide c) = true then A else B := by
  rw [decide_eq_true hc]
  exact iteF h
def Same (H H' : Hp) : Prop := ∀ b o, H b = some o → H' b = some o
theorem Same.refl (H : Hp) : Same H H := fun _ _ h => h
theorem Same.trans {H H1 H2 : Hp} (a : Same H H1) (b : Same H1 H2) : Same H H2 := fun c o h => b c o (a c o h)
theorem Same.free {H H' : Hp} (e : Same H H') {l : Addr} (h : H' l = Option.none) : H l = Option.none := by
  cases q : H l with
  | none => rfl
  | some o =>
    rw [e l o q] at h
    cases h
theorem Same.seq {K : PySem.W.Frag} {H H' : Hp} {a : Addr} {xs : List V} (e : Same H H') (h : SqL K H a xs) : SqL K H' a xs := by
  rcases h with (h | ⟨o, h⟩) | h
  · exact .inl (.inl (e _ _ h))
  · exact .inl (.inr ⟨o, e _ _ h⟩)
  · exact .inr h
section
variable {X : Cx}
theorem call_lenD : CallR X (.builtin "len") (fun xs H Q => ∃ a kvs, xs = [V.ref a] ∧ H a = some (.dK kvs) ∧ Q (.int kvs.length) H) := by
  intro pins s σ H xs us Q I r h
  obtain ⟨a, kvs, rfl, ha, q⟩ := h
  obtain ⟨u, rfl, ru⟩ := vals1 r
  cases ru
  exact d_len I (.inl ha) fun t s' I' => ⟨.int kvs.length, H, I', ⟨t, rfl⟩, q⟩
end
section
variable {κ : Type} [DecidableEq κ]
theorem valV_not {kvs : List (κ × V)} {k : κ} (h : valV kvs k = none) : ¬ k ∈ kvs.map (·.1) := by
  intro m
  obtain ⟨p, hp, e⟩ := List.mem_map.mp m
  have q : (kvs.any fun kv => decide (kv.1 = k)) = true := List.any_eq_true.mpr ⟨p, hp, decide_eq_true e⟩
  rw [valV_any, h] at q
  exact absurd q (by simp)
theorem valV_in {kvs : List (κ × V)} {k : κ} {v : V} (h : valV kvs k = some v) : k ∈ kvs.map (·.1) := by
  have q : (kvs.any fun kv => decide (kv.1 = k)) = true := by
    rw [valV_any, h]
    all_goals rfl
  obtain ⟨p, hp, e⟩ := List.any_eq_true.mp q
  exact List.mem_map.mpr ⟨p, hp, of_decide_eq_true e⟩
theorem nd_snoc : ∀ {l : List κ} {k : κ}, l.Nodup → ¬ k ∈ l → (l ++ [k]).Nodup
  | [], k, _, _ => by simp
  | a :: r, k, h, hk => by
    obtain ⟨h1, h2⟩ := List.nodup_cons.mp h
    show (a :: (r ++ [k])).Nodup
    refine List.nodup_cons.mpr ⟨fun m => ?_, nd_snoc h2 fun m => hk (List.mem_cons.mpr (Or.inr m))⟩
    rcases List.mem_append.mp m with q | q
    · exact h1 q
    · exact hk (List.mem_cons.mpr (Or.inl (List.mem_singleton.mp q).symm))
theorem nd_putK {kvs : List (κ × V)} {k : κ} (v : V) (hn : (kvs.map (·.1)).Nodup) (h : valV kvs k = none) : ((putK kvs k v).map (·.1)).Nodup := by
  rw [putK_new v h, List.map_append]
  exact nd_snoc hn (valV_not h)
theorem dropK_pos {p : κ × V} {r : List (κ × V)} {k : κ} (e : p.1 = k) : dropK (p :: r) k = dropK r k := by
  unfold dropK
  rw [List.filter_cons, if_neg (by simp [e])]
theorem dropK_neg {p : κ × V} {r : List (κ × V)} {k : κ} (e : ¬ p.1 = k) : dropK (p :: r) k = p :: dropK r k := by
  unfold dropK
  rw [List.filter_cons, if_pos (by simp [e])]
theorem dropK_no : ∀ {kvs : List (κ × V)} {k : κ}, ¬ k ∈ kvs.map (·.1) → dropK kvs k = kvs
  | [], _, _ => rfl
  | p :: r, k, h => by
    have h' : ¬ k ∈ r.map (·.1) := fun m => by
      obtain ⟨q, hq, e⟩ := List.mem_map.mp m
      exact h (List.mem_map.mpr ⟨q, List.mem_cons.mpr (Or.inr hq), e⟩)
    rw [dropK_neg fun e => h (List.mem_map.mpr ⟨p, List.mem_cons.mpr (Or.inl rfl), e⟩), dropK_no h']
theorem dropK_mem {kvs : List (κ × V)} {k : κ} {p : κ × V} (h : p ∈ dropK kvs k) : p ∈ kvs := (List.mem_filter.mp h).1
theorem nd_dropK : ∀ {kvs : List (κ × V)} {k : κ}, (kvs.map (·.1)).Nodup → ((dropK kvs k).map (·.1)).Nodup
  | [], _, _ => List.nodup_nil
  | p :: r, k, h => by
    have h : (p.1 :: r.map (·.1)).Nodup := h
    obtain ⟨h1, h2⟩ := List.nodup_cons.mp h
    by_cases e : p.1 = k
    · rw [dropK_pos e]
      exact nd_dropK h2
    · rw [dropK_neg e]
      show (p.1 :: (dropK r k).map (·.1)).Nodup
      refine List.nodup_cons.mpr ⟨fun m => h1 ?_, nd_dropK h2⟩
      obtain ⟨q, hq, eq⟩ := List.mem_map.mp m
      exact List.mem_map.mpr ⟨q, dropK_mem hq, eq⟩
theorem dropK_len : ∀ {kvs : List (κ × V)} {k : κ}, (kvs.map (·.1)).Nodup → k ∈ kvs.map (·.1) → (dropK kvs k).length + 1 = kvs.length
  | [], _, _, m => by simp at m
  | p :: r, k, h, m => by
    have h : (p.1 :: r.map (·.1)).Nodup := h
    have m : k = p.1 ∨ k ∈ r.map (·.1) := List.mem_cons.mp m
    obtain ⟨h1, h2⟩ := List.nodup_cons.mp h
    by_cases e : p.1 = k
    · subst e
      rw [dropK_pos rfl, dropK_no h1]
      all_goals rfl
    · have m' : k ∈ r.map (·.1) := m.resolve_left fun z => e z.symm
      have q := dropK_len h2 m'
      rw [dropK_neg e, List.length_cons, List.length_cons]
      omega
end
end L2
set_option maxHeartbeats 4000000
namespace L2
open PySem PySem.Spec PyProof.Rows
abbrev cxComp (X : Cx) (N' : List Str) (scope : Scope) (cl : List (Str × Addr)) (C : Addr) (s₀ : Shared) (H₀ : Hp) (ex : List Addr) : Cx :=
  { X with N := N', env := compEnvC scope cl C X.env, s₀ := s₀, H₀ := H₀, outer := X.stack, stack := X.stack, ex := ex, fn := fun x => decide (scope.names.lookup x = some .local), pn := [], xe := fun _ _ => False }
def cst (idx : List (Option Nat)) (σ : St) : St := idx.map fun o => o.bind fun i => (σ[i]?).join
structure LcScope (X : Cx) (N' : List Str) (idx : List (Option Nat)) (scope : Scope) : Prop where
  kind : scope.kind = .function
  cell : ∀ y ∈ scope.names, y.2 ≠ .cell
  nod : (scope.names.map (·.1)).Nodup
  free : ∀ y ∈ scope.names, y.2 = .free → X.env.kindOf y.1 = some .cell ∨ X.env.kindOf y.1 = some .free
  len : idx.length = N'.length
  at' : ∀ (j i : Nat) (x : Str), N'[j]? = some x → idx[j]? = some (some i) → X.N[i]? = some x ∧ scope.names.lookup x = some .free
theorem closure_names (env : Env) : ∀ (names : List (Str × NameKind)) (acc : List (Str × Addr)), (∀ y ∈ names, y.2 = .free → ∃ c, env.cells.lookup y.1 = some c) →
    ∃ cl, (forIn names acc fun (p : Str × NameKind) (r : List (Str × Addr)) => (if (p.2 == NameKind.free) = true then (do let c ← cellOf env p.1; pure (ForInStep.yield ((p.1, c) :: r))) else pure (ForInStep.yield r) : Sem (ForInStep (List (Str × Addr))))) = (pure cl : Sem (List (Str × Addr))) ∧
      (∀ x c, cl.lookup x = some c → acc.lookup x = some c ∨ (env.cells.lookup x = some c ∧ (x, NameKind.free) ∈ names)) ∧ (∀ x, ((∃ c, acc.lookup x = some c) ∨ (x, NameKind.free) ∈ names) → ∃ c, cl.lookup x = some c)
  | [], acc, _ => ⟨acc, rfl, fun x c e => .inl e, fun x h => by
      rcases h with h | h
      · exact h
      · simp at h⟩
  | (n, k) :: r, acc, h => by
    by_cases hk : k = NameKind.free
    · subst hk
      obtain ⟨c, hc⟩ := h (n, .free) (by simp) rfl
      obtain ⟨cl, e, a, b⟩ := closure_names env r ((n, c) :: acc) fun y hy => h y (List.mem_cons_of_mem _ hy)
      refine ⟨cl, ?_, fun x c' e' => ?_, fun x hx => ?_⟩
      · rw [List.forIn_cons]
        simp only [cellOf, hc]
        exact e
      · rcases a x c' e' with z | ⟨z1, z2⟩
        · rw [List.lookup_cons] at z
          split at z
          · rename_i hxe
            have : x = n := by simpa using hxe
            subst this
            cases z
            exact .inr ⟨hc, by simp⟩
          · exact .inl z
        · exact .inr ⟨z1, List.mem_cons_of_mem _ z2⟩
      · refine b x ?_
        rcases hx with ⟨c', z⟩ | z
        · left
          rw [List.lookup_cons]
          split
          · exact ⟨_, rfl⟩
          · exact ⟨_, z⟩
        · rcases List.mem_cons.mp z with z | z
          · left
            cases z
            exact ⟨c, by simp⟩
          · exact .inr z
    · obtain ⟨cl, e, a, b⟩ := closure_names env r acc fun y hy => h y (List.mem_cons_of_mem _ hy)
      refine ⟨cl, ?_, fun x c' e' => ?_, fun x hx => ?_⟩
      · rw [List.forIn_cons]
        have : (k == NameKind.free) = false := by cases k <;> first | rfl | exact absurd rfl hk
        simp only [this]
        exact e
      · rcases a x c' e' with z | ⟨z1, z2⟩
        · exact .inl z
        · exact .inr ⟨z1, List.mem_cons_of_mem _ z2⟩
      · refine b x ?_
        rcases hx with z | z
        · exact .inl z
        · rcases List.mem_cons.mp z with z | z
          · cases z; exact absurd rfl hk
          · exact .inr z
theorem closure_of {env : Env} {scope : Scope} (h : ∀ y ∈ scope.names, y.2 = .free → ∃ c, env.cells.lookup y.1 = some c) :
    ∃ cl, closureFor scope env = pure cl ∧ (∀ x c, cl.lookup x = some c → env.cells.lookup x = some c ∧ (x, NameKind.free) ∈ scope.names) ∧ (∀ x, (x, NameKind.free) ∈ scope.names → ∃ c, cl.lookup x = some c) := by
  obtain ⟨cl, e, a, b⟩ := closure_names env scope.names [] h
  refine ⟨cl, ?_, fun x c e' => ?_, fun x hx => b x (.inr hx)⟩
  · unfold closureFor
    have e' := e
    simp only [bind_pure] at e' ⊢
    exact e'
  · rcases a x c e' with z | z
    · simp at z
    · exact z
end L2
namespace L2
open PySem PySem.Spec PyProof.Rows
abbrev testsOf (ifs : List Expr) (env : Env) : Sem Bool := forIn ifs true fun c r => if r = true then do let ok ← isTrue c env (eval c env); pure (ForInStep.yield ok) else pure (ForInStep.yield r)
def LcItem (M : Model) (A : Around) (E : Value → Shared → Prop) (tg elt : Expr) (ifs : List Expr) (env : Env) (it acc v : Value) (Z : Shared → Prop) (s : Shared) : Prop :=
  wpAny M A (letOwnedTupleGo tg it v) (fun _ a => wpAny M A (assign tg env v) (fun _ b => wpAny M A (testsOf ifs env) (fun ok c => match ok with
    | true => wpAny M A (eval elt env) (fun x d => wpAny M A (call (.builtin "list.append") [acc, x]) (fun _ z => Z z) E d) E c
    | false => Z c) E b) E a) E s
theorem lc_loop {P : Program} {w : World} {A : Around} {R : Result → Shared → Prop} {elt tg iter : Expr} {ifs : List Expr} {sc : Scope} {pos : Pos} {it acc : Value} {env : Env} {E : Value → Shared → Prop} (hE : E = notedBy (model P w) A env fun x z => R (.error x) z) (Wd : Nat → Shared → Prop)
    (step : ∀ n z, Wd n z → wpAny (model P w) A (pyNext it) (fun r a => match r with
      | none => R (.ok .next) a
      | some v => LcItem (model P w) A E tg elt ifs env it acc v (fun y => ∃ m, m < n ∧ Wd m y) a) E z) (n : Nat) {s : Shared} (h : Wd n s) :
    codeAny (model P w) A (.compLoop (.ListComp elt [⟨tg, iter, ifs, 0⟩] sc pos) 0 it acc env) R s := by
  subst hE
  refine codeAny_loop (I := Wd) rfl (turn := ?_) n h
  intro k z hz
  have st := step k z hz
  show wpAny (model P w) A (Sem.onRaise (compTurn (.ListComp elt [⟨tg, iter, ifs, 0⟩] sc pos) 0 it acc env) fun x => do noteFrame x env; theTreesLotGoes x) _ _ z
  apply wpAny_noted
  rw [compTurn_list]
  apply wpAny_bind
  apply wpAny_standAt
  apply wpAny_bind
  refine wpAny_mono st ?_ (fun _ _ q => q)
  rintro (_ | v) a ha
  · exact wpAny_pure ha
  apply wpAny_bind
  refine wpAny_mono ha ?_ (fun _ _ q => q)
  intro _ b hb
  apply wpAny_bind
  refine wpAny_mono hb ?_ (fun _ _ q => q)
  intro _ c hc
  apply wpAny_bind
  refine wpAny_mono hc ?_ (fun _ _ q => q)
  rintro (_ | _) d hd
  · exact wpAny_pure (And.intro rfl hd)
  apply wpAny_bind
  apply wpAny_bind
  refine wpAny_mono hd ?_ (fun _ _ q => q)
  intro y e he
  apply wpAny_bind
  refine wpAny_mono he ?_ (fun _ _ q => q)
  intro _ g hg
  exact wpAny_pure (wpAny_pure (And.intro rfl hg))
def PTs (X : Cx) (ifs : List Expr) (t : TT) : Prop :=
  ∀ (pins : List (Addr × Obj)) (s : Shared) (σ : St) (H : Hp) (Q : Bool → Hp → Prop), Inv X pins σ H s → t σ H Q →
    wpAny (model X.prog X.w) X.A (forIn ifs true fun c r => if r = true then do let ok ← isTrue c X.env (eval c X.env); pure (ForInStep.yield ok) else pure (ForInStep.yield r)) (TP X pins σ Q) X.xe s
def tYes : TT := fun _ H Q => Q true H
theorem pts_nil {X : Cx} : PTs X [] tYes := fun _ _ _ H _ I h => wpAny_tests_nil ⟨H, I, h⟩
theorem pts_one {X : Cx} {c : Expr} {t : TT} (h : PT X c t) : PTs X [c] t := fun pins s σ H Q I q => wpAny_tests_one (h pins s σ H Q I q)
def tLC (idx : List (Option Nat)) (wi : TI) (g : TG) (tc : TT) (te : TE) : TE := fun σ H Q => wi σ H fun J H1 =>
  ∃ W : Nat → Nat → St → List V → Hp → Prop, (∃ m, W 0 m (cst idx σ) [] H1) ∧ ∀ i m σ' acc H, W i m σ' acc H →
    (J.stop i H ∧ ∀ p, H p = none → Q (.ref p) (upd H p (.lst acc))) ∨
    (J.go i H ∧ acc.length < sizeLine ∧ ∃ N : St → List V → Hp → Prop, (∀ σ' acc' H', N σ' acc' H' → ∃ m', m' < m ∧ W (i + 1) m' σ' acc' H') ∧ ∀ x H', J.yld i H x H' → g x σ' H' fun σ2 H2 => tc σ2 H2 fun b H3 =>
      if b = true then te σ2 H3 fun y H4 => N σ2 (acc ++ [y]) H4 else N σ2 acc H3)
theorem HOk.track {P : Program} {w : World} {H : Hp} {h : Heap} {a : Addr} {o : HO} (x : HOk P w H h) (hn : H a = none) (new : ObjOk P w (upd H a o) h a o) : HOk P w (upd H a o) h := fun b u e => by
  by_cases hb : b = a
  · subst hb; rw [upd_same] at e; cases e; exact new
  · rw [upd_ne hb] at e
    exact (x b u e).stay (fun c v _ q => q) (fun c q => by rw [upd_ne (ne_of_none q hn)]; exact q) fun c xs q => by rw [upd_ne (ne_of_none q hn)]; exact q
theorem lookup_relabel_free {env : Env} : ∀ {names : List (Str × NameKind)} {x : Str}, names.lookup x = some .free →
    (names.map fun (n, k) => if (k == NameKind.free && env.scope.kind == .function && env.kindOf n == some .cell) then (n, NameKind.cell) else (n, k)).lookup x = some .free ∨
    (names.map fun (n, k) => if (k == NameKind.free && env.scope.kind == .function && env.kindOf n == some .cell) then (n, NameKind.cell) else (n, k)).lookup x = some .cell
  | [], _, h => by simp at h
  | (n, k) :: r, x, h => by
    have ih := @lookup_relabel_free env r x
    simp only [List.map_cons]
    cases hx : x == n with
    | true =>
      simp only [List.lookup_cons, hx] at h
      cases h
      split
      · right; simp [List.lookup_cons, hx]
      · left; simp [List.lookup_cons, hx]
    | false =>
      simp only [List.lookup_cons, hx] at h
      split
      · simp only [List.lookup_cons, hx]; exact ih h
      · simp only [List.lookup_cons, hx]; exact ih h
theorem relabel_back {env : Env} : ∀ {names : List (Str × NameKind)} {x : Str} {k : NameKind},
    (names.map fun (n, k) => if (k == NameKind.free && env.scope.kind == .function && env.kindOf n == some .cell) then (n, NameKind.cell) else (n, k)).lookup x = some k →
    names.lookup x = some k ∨ (k = .cell ∧ names.lookup x = some .free)
  | [], _, _, h => by simp at h
  | (n, k') :: r, x, k, h => by
    have ih := @relabel_back env r x k
    simp only [List.map_cons] at h
    cases hx : x == n with
    | true =>
      by_cases hc : (k' == NameKind.free && env.scope.kind == .function && env.kindOf n == some .cell) = true
      · rw [if_pos hc] at h
        simp only [List.lookup_cons, hx] at h
        cases h
        right
        refine ⟨rfl, ?_⟩
        simp only [List.lookup_cons, hx]
        have : k' = .free := by
          simp only [Bool.and_eq_true] at hc
          exact eq_of_beq hc.1.1
        rw [this]
      · rw [if_neg hc] at h
        simp only [List.lookup_cons, hx] at h ⊢
        exact .inl h
    | false =>
      simp only [List.lookup_cons, hx]
      refine ih ?_
      by_cases hc : (k' == NameKind.free && env.scope.kind == .function && env.kindOf n == some .cell) = true
      · rw [if_pos hc] at h; simpa only [List.lookup_cons, hx] using h
      · rw [if_neg hc] at h; simpa only [List.lookup_cons, hx] using h
theorem lookup_mem {α : Type} : ∀ {l : List (Str × α)} {x : Str} {k : α}, l.lookup x = some k → (x, k) ∈ l
  | [], _, _, h => by simp at h
  | (n, k') :: r, x, k, h => by
    rw [List.lookup_cons] at h
    split at h
    · rename_i e
      have : x = n := by simpa using e
      subst this
      cases h
      simp
    · exact List.mem_cons_of_mem _ (lookup_mem h)
theorem mem_lookup {α : Type} : ∀ {l : List (Str × α)} {x : Str} {k : α}, (l.map (·.1)).Nodup → (x, k) ∈ l → l.lookup x = some k
  | [], _, _, _, h => by simp at h
  | (n, k') :: r, x, k, hn, h => by
    have hn : (n :: r.map (·.1)).Nodup := hn
    obtain ⟨h1, h2⟩ := List.nodup_cons.mp hn
    rcases List.mem_cons.mp h with h | hr
    · cases h; simp
    · rw [List.lookup_cons]
      split
      · rename_i e
        have : x = n := by simpa using e
        subst this
        exact absurd (show x ∈ r.map (·.1) from List.mem_map.mpr ⟨(x, k), hr, rfl⟩) h1
      · exact mem_lookup h2 hr
section
variable {X : Cx} {N' : List Str} {idx : List (Option Nat)} {scope : Scope}
theorem comp_ok {pins : List (Addr × Obj)} {σ : St} {H : Hp} {s : Shared} {fp : List Addr} {cl : List (Str × Addr)} {C : Addr} (L : LcScope X N' idx scope) (I : Inv X pins σ H s) (hf : ∀ b ∈ fp, FpOk X pins H b) (hfs : ∀ b ∈ fp, b < s.heap.objs.size)
    (hC : s.heap.objs.size ≤ C) (c1 : ∀ x c, cl.lookup x = some c → X.env.cells.lookup x = some c ∧ (x, NameKind.free) ∈ scope.names) (c2 : ∀ x, (x, NameKind.free) ∈ scope.names → ∃ c, cl.lookup x = some c) :
    (cxComp X N' scope cl C s H fp).Ok where
  mod := I.ok.mod
  kind := L.kind
  glob := I.ok.glob
  blt := I.ok.blt
  above := hC
  inj := fun x y c e1 e2 => I.ok.inj x y c (c1 x c e1).1 (c1 y c e2).1
  has := fun x h => by
    refine c2 x ?_
    have h' : (relabel scope X.env).names.lookup x = some .cell ∨ (relabel scope X.env).names.lookup x = some .free := h
    rcases h' with h | h
    · rcases relabel_back h with z | ⟨_, z⟩
      · exact absurd rfl (L.cell _ (lookup_mem z))
      · exact lookup_mem z
    · rcases relabel_back h with z | ⟨z, _⟩
      · exact lookup_mem z
      · cases z
  cab := fun x c hx hc => by
    have hx' : scope.names.lookup x = some .local := of_decide_eq_true hx
    have z := mem_lookup L.nod (c1 x c hc).2
    rw [z] at hx'; cases hx'
  hd := I.ok.hd
  frames := I.ok.frames
  stk := .inl rfl
  exf := fun b hb => ⟨Nat.ne_of_lt (Nat.lt_of_lt_of_le (hfs b hb) hC), fun x c e => (hf b hb).2.2.2.2.1 x c (c1 x c e).1⟩
  bs := I.bs
  bsz := Nat.le_trans I.ok.bsz I.sz
  noex := fun b o e hb => by
    rcases (hf b hb).2.2.2.1 with z | z
    · exact I.ok.noex b o e z
    · exact absurd (Nat.lt_of_lt_of_le (Heap.lt_size e) (Nat.le_trans I.ok.bsz z)) (Nat.lt_irrefl _)
  exfs := fun b hb z => by
    rcases List.mem_cons.mp (I.stkSub b z) with q | q
    · exact (hf b hb).2.1 q
    · exact (hf b hb).2.2.1 q
  funs := I.stack
  frf := I.stkFree
theorem comp_inv {pins : List (Addr × Obj)} {σ : St} {H : Hp} {s s' : Shared} {fp : List Addr} {cl : List (Str × Addr)} {C : Addr} {m : Str → Option Value} (L : LcScope X N' idx scope) (I : Inv X pins σ H s) (hf : ∀ b ∈ fp, FpOk X pins H b) (hfs : ∀ b ∈ fp, b < s.heap.objs.size)
    (hC : s.heap.objs.size ≤ C) (c1 : ∀ x c, cl.lookup x = some c → X.env.cells.lookup x = some c ∧ (x, NameKind.free) ∈ scope.names) (c2 : ∀ x, (x, NameKind.free) ∈ scope.names → ∃ c, cl.lookup x = some c)
    (ho : s'.os = s.os) (hg : s'.gens = s.gens) (k : ∀ b o, s.heap.get? b = some o → s'.heap.get? b = some o) (hn : s'.heap.Ns C m) : Inv (cxComp X N' scope cl C s H fp) [] (cst idx σ) H s' where
  ok := comp_ok L I hf hfs hC c1 c2
  os := ho
  bare := by rw [hg]; exact I.bare
  base := Un.kept k
  loc := by
    refine ⟨m, hn, fun j x v e1 e2 e3 => ?_⟩
    obtain ⟨m0, hn0, hl⟩ := I.loc
    have e2' : (idx.map fun o => o.bind fun i => (σ[i]?).join)[j]? = some (some v) := e2
    rw [List.getElem?_map] at e2'
    cases ei : idx[j]? with
    | none => rw [ei] at e2'; cases e2'
    | some o =>
      rw [ei] at e2'
      simp only [Option.map_some, Option.some.injEq] at e2'
      cases o with
      | none => cases e2'
      | some i =>
        have e2'' : (σ[i]?).join = some v := e2'
        obtain ⟨hNi, hfr⟩ := L.at' j i x e1 ei
        have hσ : σ[i]? = some (some v) := by
          cases q : σ[i]? with
          | none => rw [q] at e2''; cases e2''
          | some z => rw [q] at e2''; rw [show z = some v from e2'']
        have hk := L.free _ (lookup_mem hfr) rfl
        have hvis : Vis X.env.scope x := by
          rcases hk with z | z
          · exact .inr (.inl z)
          · exact .inr (.inr z)
        obtain ⟨u, r, lk⟩ := hl i x v hNi hσ hvis
        refine ⟨u, r, .inr ?_⟩
        rcases lk with ⟨z, _⟩ | ⟨_, c, hc, hcl⟩
        · exfalso
          have z' : X.env.kindOf x = some .local := z
          rcases hk with q | q
          · rw [show X.env.kindOf x = _ from q] at z'; cases z'
          · rw [show X.env.kindOf x = _ from q] at z'; cases z'
        · obtain ⟨c', hc'⟩ := c2 x (lookup_mem hfr)
          have : c' = c := by
            have q := (c1 x c' hc').1
            rw [hc] at q; exact (Option.some.inj q).symm
          subst this
          refine ⟨?_, c', hc', let ⟨o, e, d⟩ := hcl; ⟨o, k _ o e, d⟩⟩
          rcases lookup_relabel_free (env := X.env) hfr with q | q
          · exact .inr q
          · exact .inl q
  cell := fun x c e => by
    obtain ⟨v, z⟩ := I.cell x c (c1 x c e).1
    exact ⟨v, let ⟨o, e, d⟩ := z; ⟨o, k _ o e, d⟩⟩
  free := I.hok.fresh hC
  freeC := fun x c e => I.freeC x c (c1 x c e).1
  pin := fun p hp => by simp at hp
  hok := I.hok.kept k
  len := by
    show (idx.map _).length = N'.length
    rw [List.length_map]; exact L.len
end
end L2
namespace L2
open PySem PySem.Spec PyProof.Rows
section
variable {X : Cx} {N' : List Str} {idx : List (Option Nat)} {scope : Scope} {elt tg iter : Expr} {ifs : List Expr} {pos : Pos} {wi : TI} {g : TG} {tc : TT} {te : TE}
theorem comp_run {pins : List (Addr × Obj)} {σ : St} {H2 : Hp} {s2 : Shared} {it : Addr} {fp : List Addr} {tn : Nat → Heap → Prop} {J : It} {cl : List (Str × Addr)} {E : Value → Shared → Prop} {RR : Value → Addr → Result → Shared → Prop} {F : List V → Hp → Prop}
    (L : LcScope X N' idx scope) (hc : X.calm = true)
    (hg : ∀ cl C s₀ H₀ ex, PG (cxComp X N' scope cl C s₀ H₀ ex) tg g) (ht : ∀ cl C s₀ H₀ ex, PTs (cxComp X N' scope cl C s₀ H₀ ex) ifs tc) (he : ∀ cl C s₀ H₀ ex, PE (cxComp X N' scope cl C s₀ H₀ ex) elt te)
    (c1 : ∀ x c, cl.lookup x = some c → X.env.cells.lookup x = some c ∧ (x, NameKind.free) ∈ scope.names) (c2 : ∀ x, (x, NameKind.free) ∈ scope.names → ∃ c, cl.lookup x = some c)
    (I2 : Inv X pins σ H2 s2) (T : Turn X.prog X.w X.K tg J fp it tn) (st2 : tn 0 s2.heap) (f2 : ∀ b ∈ fp, FpOk X pins H2 b) (W : Nat → Nat → St → List V → Hp → Prop) (w0 : ∃ m, W 0 m (cst idx σ) [] H2)
    (turn : ∀ i m σ' acc H, W i m σ' acc H → (J.stop i H ∧ F acc H) ∨
      (J.go i H ∧ acc.length < sizeLine ∧ ∃ N : St → List V → Hp → Prop, (∀ σ' acc' H', N σ' acc' H' → ∃ m', m' < m ∧ W (i + 1) m' σ' acc' H') ∧ ∀ x H', J.yld i H x H' → g x σ' H' fun σ2 H2 => tc σ2 H2 fun b H3 =>
        if b = true then te σ2 H3 fun y H4 => N σ2 (acc ++ [y]) H4 else N σ2 acc H3))
    (hR : ∀ (D C : Addr) (s' : Shared) (acc : List V) (its : List Value) (n : Nat) (H' : Hp) (m : Str → Option Value), s2.heap.objs.size ≤ D → s2.heap.objs.size ≤ C → D ≠ C → s'.heap.Ns C m → s'.heap.get? D = some { cls := .type "list", data := .seq its.toArray n } → Vals acc its → acc.length ≤ sizeLine →
      H' D = none → H' C = none → s'.os = s2.os → AllBare s'.gens → Un (frs X.stack) fp H2 H' s2.heap s'.heap → HOk X.prog X.w H' s'.heap → F acc H' → RR (.ref D) C (.ok .next) s') :
    wpAny (model X.prog X.w) X.A (newList []) (fun acc s₃ => wpAny (model X.prog X.w) X.A (newFunctionEnv scope X.env.globals cl [] X.env.qual none .none (some X.env)) (fun cenv s₄ =>
      codeAny (model X.prog X.w) X.A (.compStart (.ListComp elt [⟨tg, iter, ifs, 0⟩] scope pos) 0 (.ref it) acc { cenv with scope := relabel scope X.env }) (RR acc cenv.locals) s₄) E s₃) E s2 := by
  have hfs : ∀ b ∈ fp, b < s2.heap.objs.size := fun b hb => let ⟨o, e, _⟩ := T.obj _ _ st2 b hb; Heap.lt_size e
  refine wpAny_newObj_type (wpAny_newFunctionEnv L.cell (by intro y hy; simp at hy) (fun h₁ hns₁ hsb₁ => ?_) L.kind)
  dsimp only at hns₁ hsb₁ ⊢
  generalize hH2 : s2.heap.push { cls := .type "list", dict := none, data := .seq ([] : List Value).toArray } = G at hns₁ hsb₁ ⊢
  have hC : G.objs.size = s2.heap.objs.size + 1 := by rw [← hH2, Heap.size_push]
  have hDC : s2.heap.objs.size ≠ G.objs.size := by rw [hC]; exact Nat.ne_of_lt (Nat.lt_succ_self _)
  have hCle : s2.heap.objs.size ≤ G.objs.size := by rw [hC]; exact Nat.le_succ _
  have old : ∀ b o, s2.heap.get? b = some o → h₁.get? b = some o := fun b o e => hsb₁.extBut b o (by rw [hC]; exact Nat.ne_of_lt (Nat.lt_succ_of_lt (Heap.lt_size e))) (Heap.get?_push_of_some _ (hH2 ▸ Heap.get?_push_of_some _ e))
  have hacc : h₁.get? s2.heap.objs.size = some { cls := .type "list", dict := none, data := .seq ([] : List Value).toArray } := hsb₁.extBut _ _ hDC (Heap.get?_push_of_some _ (hH2 ▸ Heap.get?_push_size _ rfl))
  let X' : Cx := cxComp X N' scope cl G.objs.size s2 H2 fp
  have I1 : Inv X' [] (cst idx σ) H2 { s2 with heap := h₁, toks := s2.toks + ([] : List (Str × Value)).length } := comp_inv L I2 f2 hfs hCle c1 c2 rfl rfl old hns₁
  have hD2 : H2 s2.heap.objs.size = none := I2.hok.fresh (Nat.le_refl _)
  have hDfs : s2.heap.objs.size ∉ X'.fs := fun z => by
    obtain ⟨_, o, ho, _⟩ := I2.stack.mem z
    exact absurd (Heap.lt_size ho) (Nat.lt_irrefl _)
  have hDfp : s2.heap.objs.size ∉ fp := fun z => absurd (hfs _ z) (Nat.lt_irrefl _)
  have stat : ∀ {H' : Hp} {pl : List (Addr × Obj)}, (∀ b ∈ fp, H' b = none) → (∀ p ∈ pl, p.1 ∉ fp) → ∀ b ∈ fp, FpOk X' pl H' b := fun {H' pl} hn hpl b hb =>
    ⟨hn b hb, Nat.ne_of_lt (Nat.lt_of_lt_of_le (hfs b hb) hCle), fun z => by
      rcases List.mem_cons.mp (I2.stkSub b z) with q | q
      · exact (f2 b hb).2.1 q
      · exact (f2 b hb).2.2.1 q, .inl hb, fun x c e => (f2 b hb).2.2.2.2.1 x c (c1 x c e).1, fun p hp z => hpl p (by have hp' : p ∈ [] ++ pl := hp; simpa using hp') (z ▸ hb)⟩
  have loop : ∀ s₃ : Shared, s₃ = { s2 with heap := h₁, toks := s2.toks + ([] : List (Str × Value)).length } →
      codeAny (model X.prog X.w) X.A (.compLoop (.ListComp elt [⟨tg, iter, ifs, 0⟩] scope pos) 0 (.ref it) (.ref s2.heap.objs.size) (compEnvC scope cl G.objs.size X.env)) (RR (.ref s2.heap.objs.size) G.objs.size) s₃ := by
    rintro s₃ rfl
    obtain ⟨m0, w0⟩ := w0
    refine lc_loop rfl (Wd := fun n s' => ∃ i σ' acc its k H', Inv X' [(s2.heap.objs.size, { cls := .type "list", data := .seq its.toArray k })] σ' H' s' ∧ Vals acc its ∧ acc.length ≤ sizeLine ∧ tn i s'.heap ∧ (∀ b ∈ fp, H' b = none) ∧ W i n σ' acc H') (step := ?_) m0
      ⟨0, cst idx σ, [], [], 0, H2, I1.pins_of (fun p hp => ?_), .nil, Nat.zero_le _, T.keep _ _ _ st2 fun b _ o e => old b o e, fun b hb => (f2 b hb).1, w0⟩
    · rintro n s3 ⟨i, σ3, acc, its, k, H3, I3, rv, hz, st3, fr3, w3⟩
      have hpl : ∀ p ∈ [((s2.heap.objs.size, { cls := .type "list", data := .seq its.toArray k }) : Addr × Obj)], p.1 ∉ fp := fun p hp => by
        rcases List.mem_singleton.mp hp with rfl; exact hDfp
      rcases turn i n σ3 acc H3 w3 with ⟨stop, q⟩ | ⟨go, hlt, N, hN, step⟩
      · refine wpAny_mono (T.done X' rfl rfl rfl hc i _ s3 σ3 H3 (fun _ _ => False) I3 (stat fr3 hpl) st3 stop) (fun r s4 ⟨hr, I4⟩ => ?_) fun _ _ f => f.elim
        subst hr
        obtain ⟨p1, p2, p3, p4, p5⟩ := I4.pin (s2.heap.objs.size, { cls := .type "list", data := .seq its.toArray k }) (List.mem_append_right _ List.mem_cons_self)
        obtain ⟨m4, hn4, _⟩ := I4.loc
        exact hR _ _ s4 acc its k H3 m4 (Nat.le_refl _) hCle hDC hn4 p1 rv hz p2 I4.free I4.os I4.bare I4.base I4.hok q
      · refine wpAny_mono (T.item X' rfl rfl rfl hc i _ s3 σ3 H3 (fun _ _ => False) I3 (stat fr3 hpl) st3 go) (fun r s4 ⟨u, hr, h4⟩ => ?_) fun _ _ f => f.elim
        subst hr
        refine wpAny_mono h4 (fun _ s5 ⟨x, H5, I5, r5, y5, st5, fr5⟩ => ?_) fun _ _ f => f.elim
        have I5' := I5.pinned (stat fr5 hpl) (T.obj _ _ st5)
        refine wpAny_mono (hg _ _ _ _ _ _ s5 σ3 H5 x u _ I5' r5 (step x H5 y5)) (fun _ s6 ⟨σ6, H6, I6, q6⟩ => ?_) fun _ _ f => f.elim
        refine wpAny_mono (ht _ _ _ _ _ _ s6 σ6 H6 _ I6 q6) (fun ok s7 ⟨H7, I7, q7⟩ => ?_) fun _ _ f => f.elim
        have tnk : ∀ {σ' : St} {H' : Hp} {s' : Shared}, Inv X' ([(s2.heap.objs.size, { cls := .type "list", data := .seq its.toArray k })] ++ pinsAt fp s5.heap) σ' H' s' → tn (i + 1) s'.heap ∧ ∀ b ∈ fp, H' b = none := fun {σ' H' s'} I => by
          refine ⟨T.keep _ _ _ st5 fun b hb o e => (I.pin (b, o) (List.mem_append_right _ (List.mem_append_right _ (mem_pinsAt hb e)))).1, fun b hb => ?_⟩
          obtain ⟨o, e, d⟩ := T.obj _ _ st5 b hb
          exact (I.pin (b, o) (List.mem_append_right _ (List.mem_append_right _ (mem_pinsAt hb e)))).2.1
        cases ok with
        | false =>
          rw [if_neg (by decide)] at q7
          obtain ⟨m', hm, w7⟩ := hN _ _ _ q7
          exact ⟨m', hm, i + 1, σ6, acc, its, k, H7, I7.unpinned, rv, hz, (tnk I7).1, (tnk I7).2, w7⟩
        | true =>
          rw [if_pos rfl] at q7
          refine wpAny_mono (he _ _ _ _ _ _ s7 σ6 H7 _ I7 q7) (fun y s8 ⟨yv, H8, I8, r8, q8⟩ => ?_) fun _ _ f => f.elim
          obtain ⟨m', hm, w8⟩ := hN _ _ _ q8
          obtain ⟨p1, p2, p3, p4, p5⟩ := I8.pin (s2.heap.objs.size, { cls := .type "list", data := .seq its.toArray k }) (List.mem_append_right _ List.mem_cons_self)
          refine call_meets PySem.F.slot_list_append ⟨_, p1, rfl⟩ PySem.F.entry_list_append (PySem.F.args_list_append_2 _ _) (PySem.list_append s2.heap.objs.size its.toArray k y (by have := rv.length; rw [List.size_toArray]; omega)) ⟨p1, ?_⟩
          have hz' := rv.length
          obtain ⟨t8, f8⟩ := tnk I8
          have I8' : Inv X' [] σ6 H8 s8 := I8.pins_of fun p hp => nomatch hp
          have q := PySem.IsL.update p1 (·.push y)
          have e' : (its.toArray.push y) = (its ++ [y]).toArray := by simp
          rw [e'] at q
          obtain ⟨k9, q⟩ : ∃ k9, (s8.heap.update s2.heap.objs.size (Obj.mapSeq (·.push y))).get? s2.heap.objs.size = some { cls := .type "list", data := .seq (its ++ [y]).toArray k9 } := ⟨_, q⟩
          have I9 : Inv X' [] σ6 H8 { s8 with heap := s8.heap.update s2.heap.objs.size (Obj.mapSeq (·.push y)) } :=
            I8'.turned (t' := s8.toks) (fun b o hb e => (Heap.get?_update_other s8.heap _ (Ne.symm hb)).trans e) p2 p3 (.inr (Nat.le_refl _)) (fun x c e z => by
              obtain ⟨v, o, ho, hd⟩ := I8'.cell x c e
              rw [z, p1] at ho; cases ho; cases hd) (fun p hp => by have hp' : p ∈ ([] : List (Addr × Obj)) ++ [] := hp; simp at hp')
          refine ⟨m', hm, i + 1, σ6, acc ++ [yv], its ++ [y], k9, H8, I9.pins_of (fun p hp => ?_), rv.append (.cons r8 .nil), by rw [List.length_append, List.length_singleton]; omega, T.keep _ _ _ t8 fun b hb o e => (Heap.get?_update_other s8.heap (Obj.mapSeq (·.push y)) (show s2.heap.objs.size ≠ b from fun z => hDfp (by rw [z]; exact hb))).trans e, f8, w8⟩
          rcases List.mem_singleton.mp hp with rfl
          exact ⟨q, p2, p3, p4, fun v z => by cases z⟩
    · rcases List.mem_singleton.mp hp with rfl
      exact ⟨hacc, hD2, hDC, hDfs, fun v z => by cases z⟩
  exact codeAny_compStart_list (loop _ rfl) (T.self _ 0 _ _ _ (T.keep _ _ _ st2 fun b _ o e => old b o e) (loop _ rfl))
theorem pe_lc (L : LcScope X N' idx scope) (hc : X.calm = true) (hi : PI X tg iter wi)
    (hg : ∀ cl C s₀ H₀ ex, PG (cxComp X N' scope cl C s₀ H₀ ex) tg g) (ht : ∀ cl C s₀ H₀ ex, PTs (cxComp X N' scope cl C s₀ H₀ ex) ifs tc) (he : ∀ cl C s₀ H₀ ex, PE (cxComp X N' scope cl C s₀ H₀ ex) elt te)
    (hs : ∀ x, foldedSetIterable iter X.env x = pure x := by intro _; rfl) :
    PE X (.ListComp elt [⟨tg, iter, ifs, 0⟩] scope pos) (tLC idx wi g tc te) := by
  intro pins s σ H Q I h
  obtain ⟨cl, hclos, c1, c2⟩ := closure_of (env := X.env) (scope := scope) fun y hy hf => I.ok.has y.1 (L.free y hy hf)
  rw [eval_ListComp]
  refine wpAny_comprehension_free (use := none) rfl hs hclos L.kind (fun y hy hl => mem_lookup L.nod (by rw [← hl]; exact hy)) (wpAny_mono (hi pins s σ H _ I h) (fun v s1 h1 => wpAny_mono h1 (fun itv s2 h2 => ?_) fun _ _ e => e) fun _ _ e => e)
  obtain ⟨it, fp, tn, J, H2, rfl, I2, T, st2, f2, W, w0, turn⟩ := h2
  refine comp_run (F := fun acc H => ∀ p, H p = none → Q (.ref p) (upd H p (.lst acc))) (RR := fun acc C => compPost (model X.prog X.w) X.A X.xe none (EP X pins σ Q) acc C) L hc hg ht he c1 c2 I2 T st2 f2 W w0 turn ?_
  intro D C s' acc its n H' m hD hC hDC hn hDo rv hz hD' hC' ho hg' hu hk q
  refine ⟨m, hn, fun h' hsb => ?_⟩
  have eD : h'.get? D = some { cls := .type "list", data := .seq its.toArray n } := hsb.extBut _ _ hDC hDo
  have ok1 : HOk X.prog X.w H' h' := fun b u e => by
    refine (hk b u e).stay (fun c v hc q => hsb.extBut c v ?_ q) (fun _ q => q) fun _ _ q => q
    rintro rfl
    rcases hc with rfl | hc
    · rw [hC'] at e; cases e
    · rw [hC'] at hc; cases hc
  have ok2 : HOk X.prog X.w (upd H' D (.lst acc)) h' := ok1.track hD' ⟨hz, its, n, rv, eD⟩
  have neC : ∀ b o, s2.heap.get? b = some o → b ≠ C := fun b o e => Nat.ne_of_lt (Nat.lt_of_lt_of_le (Heap.lt_size e) hC)
  have neD : ∀ b o, s2.heap.get? b = some o → b ≠ D := fun b o e => Nat.ne_of_lt (Nat.lt_of_lt_of_le (Heap.lt_size e) hD)
  have u2 : Un (frs X.stack) fp H2 (upd H' D (.lst acc)) s2.heap h' :=
    ⟨fun b o e n1 n2 n3 => hsb.extBut b o (neC b o e) (hu.keep b o e n1 n2 n3), fun b o e n1 n2 n3 => let ⟨sl, q⟩ := hu.slot b o e n1 n2 n3; ⟨sl, hsb.extBut b _ (neC b o e) q⟩,
     fun b o e n1 n2 => by rw [upd_ne (neD b o e)]; exact hu.free b o e n1 n2, fun b o e n1 => let ⟨o', q⟩ := hu.there b o e n1; ⟨o', hsb.extBut b _ (neC b o e) q⟩,
     fun b xs e => by rw [upd_ne (ne_of_none (hu.tups b xs e) hD')]; exact hu.tups b xs e, fun b o u e => by rw [upd_ne (ne_of_none (hu.frzs b o u e) hD')]; exact hu.frzs b o u e,
     fun b ps e => by
      obtain ⟨more, q⟩ := hu.tbls b ps e
      exact ⟨more, by rw [upd_ne (ne_of_none q hD')]; exact q⟩⟩
  refine ⟨.ref D, upd H' D (.lst acc), I2.call' (s' := { s' with heap := h' }) ho u2 ok2 hg' (fun b hb => ⟨(f2 b hb).2.2.2.1, (f2 b hb).2.1, (f2 b hb).2.2.2.2.1, (f2 b hb).2.2.2.2.2⟩), rfl, q D hD'⟩
end
end L2
namespace L2
open PySem PySem.Spec PyProof.Rows
section
variable {X : Cx} {N' : List Str} {idx : List (Option Nat)} {scope : Scope} {elt tg iter : Expr} {ifs : List Expr} {pos : Pos} {wi : TI} {g : TG} {tc : TT} {te : TE}
theorem ps_setLC {i : Nat} {y : Str} {py spos : Pos} (hN : X.N.Nodup) (hi' : X.N[i]? = some y) (hy : Loc X.env.scope y) (L : LcScope X N' idx scope) (hc : X.calm = true) (hi : PI X tg iter wi)
    (hg : ∀ cl C s₀ H₀ ex, PG (cxComp X N' scope cl C s₀ H₀ ex) tg g) (ht : ∀ cl C s₀ H₀ ex, PTs (cxComp X N' scope cl C s₀ H₀ ex) ifs tc) (he : ∀ cl C s₀ H₀ ex, PE (cxComp X N' scope cl C s₀ H₀ ex) elt te)
    (hsw : swapsWith (.ListComp elt [⟨tg, iter, ifs, 0⟩] scope pos) (some (.Name y py)) spos.line X.env = pure true := by rfl)
    (hf : X.fn y = true ∨ X.env.scope.names.lookup y = some .local := by first | exact .inl rfl | exact .inr rfl | assumption)
    (hs : ∀ x, foldedSetIterable iter X.env x = pure x := by intro _; rfl) :
    PS X (.Assign [.Name y py] (.ListComp elt [⟨tg, iter, ifs, 0⟩] scope pos) spos) (tAsg (tLC idx wi g tc te) (gName i)) := by
  intro pins s σ H D₀ I h
  have h : tLC idx wi g tc te σ H fun x H1 => D₀.nx (σ.set i (some x)) H1 := h
  obtain ⟨cl, hclos, c1, c2⟩ := closure_of (env := X.env) (scope := scope) fun y hy hf => I.ok.has y.1 (L.free y hy hf)
  rw [exec_Assign_Name_used _ _ _ _ hsw]
  refine wpAny_bind (wpAny_standAt (wpAny_bind ?_))
  show wpAny _ X.A (do let _ ← comprehension (.ListComp elt [⟨tg, iter, ifs, 0⟩] scope pos) scope X.env _ (newList []) false (eval iter X.env) (some (assign (.Name y py) X.env))) _ _ s
  refine wpAny_bind (wpAny_mono (wpAny_comprehension_free (use := some (assign (.Name y py) X.env)) (Q := fun _ s' => SP X pins D₀ .next s') rfl hs hclos L.kind (fun y hy hl => mem_lookup L.nod (by rw [← hl]; exact hy))
    (wpAny_mono (hi pins s σ H _ I h) (fun v s1 h1 => wpAny_mono h1 (fun itv s2 h2 => ?_) fun _ _ e => e) fun _ _ e => e)) (fun _ s' hq => wpAny_pure (wpAny_pure hq)) fun _ _ e => e)
  obtain ⟨it, fp, tn, J, H2, rfl, I2, T, st2, f2, W, w0, turn⟩ := h2
  refine comp_run (F := fun acc H => ∀ p, H p = none → D₀.nx (σ.set i (some (.ref p))) (upd H p (.lst acc))) (RR := fun acc C => compPost (model X.prog X.w) X.A X.xe (some (assign (.Name y py) X.env)) (fun _ s' => SP X pins D₀ .next s') acc C) L hc hg ht he c1 c2 I2 T st2 f2 W w0 turn ?_
  intro D C s' acc its n H' m hD hC hDC hn hDo rv hz hD' hC' ho hg' hu hk q
  have ok2 : HOk X.prog X.w (upd H' D (.lst acc)) s'.heap := hk.track hD' ⟨hz, its, n, rv, hDo⟩
  have neD : ∀ b o, s2.heap.get? b = some o → b ≠ D := fun b o e => Nat.ne_of_lt (Nat.lt_of_lt_of_le (Heap.lt_size e) hD)
  have u2 : Un (frs X.stack) fp H2 (upd H' D (.lst acc)) s2.heap s'.heap :=
    ⟨hu.keep, hu.slot, fun b o e n1 n2 => by rw [upd_ne (neD b o e)]; exact hu.free b o e n1 n2, hu.there,
     fun b xs e => by rw [upd_ne (ne_of_none (hu.tups b xs e) hD')]; exact hu.tups b xs e, fun b o u e => by rw [upd_ne (ne_of_none (hu.frzs b o u e) hD')]; exact hu.frzs b o u e,
     fun b ps e => by
      obtain ⟨more, q⟩ := hu.tbls b ps e
      exact ⟨more, by rw [upd_ne (ne_of_none q hD')]; exact q⟩⟩
  have I3 : Inv X pins σ (upd H' D (.lst acc)) s' := I2.call' ho u2 ok2 hg' (fun b hb => ⟨(f2 b hb).2.2.2.1, (f2 b hb).2.1, (f2 b hb).2.2.2.2.1, (f2 b hb).2.2.2.2.2⟩)
  have hCL : C ≠ X.env.locals := Nat.ne_of_gt (Nat.lt_of_lt_of_le I2.lt hC)
  have hCc : ∀ x c, X.env.cells.lookup x = some c → c ≠ C := fun x c e z => by
    obtain ⟨v, w⟩ := I2.cell x c e
    exact absurd (Nat.lt_of_lt_of_le w.lt (by rw [z]; exact hC)) (Nat.lt_irrefl _)
  have hCp : ∀ p ∈ X.pn ++ pins, p.1 ≠ C := fun p hp z => absurd (Nat.lt_of_lt_of_le (Heap.lt_size (I2.pin p hp).1) (by rw [z]; exact hC)) (Nat.lt_irrefl _)
  show wpAny _ X.A (assign (.Name y py) X.env (.ref D)) _ _ _
  refine wpAny_assign_Name (store_ok2 (v := .ref D) I3 hN hi' hy rfl (fun s4 I4 ⟨a, sb, ha⟩ => ?_) hf)
  have hCa : C ≠ a := by
    rcases ha with z | z
    · rw [z]; exact hCL
    · exact Ne.symm (hCc y a z)
  refine ⟨m, hn.sameBut sb hCa, fun h' hsb => ?_⟩
  refine ⟨_, _, I4.turned (t' := s4.toks) (fun b o hb e => hsb.extBut b o hb e) ?_ hCL (.inr (Nat.le_trans I2.sz hC)) hCc hCp, q D hD'⟩
  rw [upd_ne (Ne.symm hDC)]; exact hC'
end
def LcW (J : It) (g : TG) (tc : TT) (te : TE) (Q : VK) (σ0 : St) (H : Hp) : Prop :=
  ∃ W : Nat → Nat → St → List V → Hp → Prop, (∃ m, W 0 m σ0 [] H) ∧ ∀ i m σ' acc H, W i m σ' acc H →
    (J.stop i H ∧ ∀ p, H p = none → Q (.ref p) (upd H p (.lst acc))) ∨
    (J.go i H ∧ acc.length < sizeLine ∧ ∃ N : St → List V → Hp → Prop, (∀ σ' acc' H', N σ' acc' H' → ∃ m', m' < m ∧ W (i + 1) m' σ' acc' H') ∧ ∀ x H', J.yld i H x H' → g x σ' H' fun σ2 H2 => tc σ2 H2 fun b H3 =>
      if b = true then te σ2 H3 fun y H4 => N σ2 (acc ++ [y]) H4 else N σ2 acc H3)
theorem lc_list {K : PySem.W.Frag} {a : Addr} {xs : List V} {g : TG} {tc : TT} {te : TE} {σ0 : St} {H : Hp} {Q : VK} (Pv : Nat → St → List V → Hp → Prop) (h0 : Pv 0 σ0 [] H) (hl : ∀ i σ acc H, i ≤ xs.length → Pv i σ acc H → SqL K H a xs ∧ acc.length ≤ i) (hz : xs.length ≤ sizeLine)
    (hs : ∀ i x σ acc H, xs[i]? = some x → Pv i σ acc H → g x σ H fun σ2 H2 => tc σ2 H2 fun b H3 => if b = true then te σ2 H3 fun y H4 => Pv (i + 1) σ2 (acc ++ [y]) H4 else Pv (i + 1) σ2 acc H3)
    (hd : ∀ σ acc H, Pv xs.length σ acc H → ∀ p, H p = none → Q (.ref p) (upd H p (.lst acc))) : LcW (Itl K a) g tc te Q σ0 H := by
  refine ⟨fun i m σ acc H => m = xs.length - i ∧ i ≤ xs.length ∧ Pv i σ acc H, ⟨xs.length, by simp, Nat.zero_le _, h0⟩, ?_⟩
  rintro i m σ acc H ⟨rfl, hi, p⟩
  obtain ⟨q, ql⟩ := hl i σ acc H hi p
  by_cases hlt : i < xs.length
  · refine .inr ⟨⟨xs, xs[i], q, by simp [hlt]⟩, by omega, Pv (i + 1), fun σ acc H w => ⟨xs.length - (i + 1), by omega, rfl, hlt, w⟩, fun x H' y => ?_⟩
    obtain ⟨e, y⟩ := y
    subst e
    exact hs i x σ acc _ (y xs q) p
  · have e : i = xs.length := by omega
    subst e
    exact .inl ⟨⟨xs, q, Nat.le_refl _⟩, hd σ acc H p⟩
theorem lc_tup {K : PySem.W.Frag} {a : Addr} {xs : List V} {g : TG} {tc : TT} {te : TE} {σ0 : St} {H : Hp} {Q : VK} (Pv : Nat → St → List V → Hp → Prop) (h0 : Pv 0 σ0 [] H) (hl : ∀ i σ acc H, i ≤ xs.length → Pv i σ acc H → SqT K H a xs ∧ acc.length ≤ i) (hz : xs.length ≤ sizeLine)
    (hs : ∀ i x σ acc H, xs[i]? = some x → Pv i σ acc H → g x σ H fun σ2 H2 => tc σ2 H2 fun b H3 => if b = true then te σ2 H3 fun y H4 => Pv (i + 1) σ2 (acc ++ [y]) H4 else Pv (i + 1) σ2 acc H3)
    (hd : ∀ σ acc H, Pv xs.length σ acc H → ∀ p, H p = none → Q (.ref p) (upd H p (.lst acc))) : LcW (Itt K a) g tc te Q σ0 H := by
  refine ⟨fun i m σ acc H => m = xs.length - i ∧ i ≤ xs.length ∧ Pv i σ acc H, ⟨xs.length, by simp, Nat.zero_le _, h0⟩, ?_⟩
  rintro i m σ acc H ⟨rfl, hi, p⟩
  obtain ⟨q, ql⟩ := hl i σ acc H hi p
  by_cases hlt : i < xs.length
  · refine .inr ⟨⟨xs, xs[i], q, by simp [hlt]⟩, by omega, Pv (i + 1), fun σ acc H w => ⟨xs.length - (i + 1), by omega, rfl, hlt, w⟩, fun x H' y => ?_⟩
    obtain ⟨e, y⟩ := y
    subst e
    exact hs i x σ acc _ (y xs q) p
  · have e : i = xs.length := by omega
    subst e
    exact .inl ⟨⟨xs, q, Nat.le_refl _⟩, hd σ acc H p⟩
theorem lc_range {lo : Int} {n : Nat} {g : TG} {tc : TT} {te : TE} {σ0 : St} {H : Hp} {Q : VK} (Pv : Nat → St → List V → Hp → Prop) (h0 : Pv 0 σ0 [] H) (hl : ∀ i σ acc H, i ≤ n → Pv i σ acc H → acc.length ≤ i) (hz : n ≤ sizeLine)
    (hs : ∀ i σ acc H, i < n → Pv i σ acc H → g (.int (lo + i)) σ H fun σ2 H2 => tc σ2 H2 fun b H3 => if b = true then te σ2 H3 fun y H4 => Pv (i + 1) σ2 (acc ++ [y]) H4 else Pv (i + 1) σ2 acc H3)
    (hd : ∀ σ acc H, Pv n σ acc H → ∀ p, H p = none → Q (.ref p) (upd H p (.lst acc))) : LcW (Itr lo n) g tc te Q σ0 H := by
  refine ⟨fun i m σ acc H => m = n - i ∧ i ≤ n ∧ Pv i σ acc H, ⟨n, by simp, Nat.zero_le _, h0⟩, ?_⟩
  rintro i m σ acc H ⟨rfl, hi, p⟩
  have ql := hl i σ acc H hi p
  by_cases hlt : i < n
  · refine .inr ⟨hlt, by omega, Pv (i + 1), fun σ acc H w => ⟨n - (i + 1), by omega, rfl, hlt, w⟩, fun x H' y => ?_⟩
    obtain ⟨e, y⟩ := y
    subst e y
    exact hs i σ acc _ hlt p
  · have e : i = n := by omega
    subst e
    exact .inl ⟨Nat.le_refl _, hd σ acc H p⟩
end L2
namespace L2
open PySem PySem.Spec PyProof.Rows
section
variable {X : Cx}
def kindV (H : Hp) : V → Option String
  | .non => some "NoneType" | .bl _ => some "bool" | .int _ => some "int" | .str _ => some "str"
  | .ref a => match H a with
    | some (.lst _) => some "list"
    | some (.tup _) => some "tuple"
    | some (.dK _) => some "dict"
    | some (.dT _) => some "dict"
    | _ => none
  | _ => none
theorem kindV_ty {K : PySem.W.Frag} {H : Hp} {x : V} {t : String} (h : kindV H x = some t) : TyOf K H x (.type t) := by
  cases x with
  | non => cases h; exact .non
  | bl b => cases h; exact .bl b
  | int i => cases h; exact .int i
  | str y => cases h; exact .str y
  | ref a =>
    have h : (match H a with | some (.lst _) => some "list" | some (.tup _) => some "tuple" | some (.dK _) => some "dict" | some (.dT _) => some "dict" | _ => none) = some t := h
    cases e : H a with
    | none => rw [e] at h; cases h
    | some o =>
      rw [e] at h
      cases o with
      | lst xs => cases h; exact .lst e
      | tup xs => cases h; exact .tup e
      | dK xs => cases h; exact .dK e
      | dT xs => cases h; exact .dT e
      | _ => cases h
  | byt b => cases h
  | flt b => cases h
  | ty n => cases h
def subK : String → String → Option Bool
  | "NoneType", "int" => some false | "NoneType", "str" => some false | "NoneType", "bool" => some false | "NoneType", "list" => some false | "NoneType", "tuple" => some false
  | "bool", "int" => some true | "bool", "str" => some false | "bool", "bool" => some true | "bool", "list" => some false | "bool", "tuple" => some false
  | "int", "int" => some true | "int", "str" => some false | "int", "bool" => some false | "int", "list" => some false | "int", "tuple" => some false
  | "str", "int" => some false | "str", "str" => some true | "str", "bool" => some false | "str", "list" => some false | "str", "tuple" => some false
  | "list", "int" => some false | "list", "str" => some false | "list", "bool" => some false | "list", "list" => some true | "list", "tuple" => some false
  | "tuple", "int" => some false | "tuple", "str" => some false | "tuple", "bool" => some false | "tuple", "list" => some false | "tuple", "tuple" => some true
  | "dict", "int" => some false | "dict", "str" => some false | "dict", "bool" => some false | "dict", "list" => some false | "dict", "tuple" => some false
  | _, _ => none
theorem subK_kit {K : PySem.W.Frag} {t T : String} {b : Bool} (h : subK t T = some b) : PySem.W.kitOne K (.type t) (.type T) = some b := by
  unfold subK at h
  split at h <;> first | (cases h; with_unfolding_all rfl) | cases h
theorem call_isi : CallR X (.builtin "isinstance") (fun xs H Q => ∃ x T t b, xs = [x, .ty T] ∧ kindV H x = some t ∧ subK t T = some b ∧ Q (.bl b) H) := by
  intro pins s σ H xs us Q I r h
  obtain ⟨x, T, t, b, rfl, hk, hs, q⟩ := h
  obtain ⟨u, v, rfl, ru, rv⟩ := Vals.two r
  cases (show v = Value.type T from rv)
  exact isinst_ok I ru (kindV_ty hk) (subK_kit hs) fun tk => ⟨.bl b, H, I.tok _, rfl, q⟩
theorem turn_in1 : True := trivial
theorem walk_seq {A : Around} {pins : List (Addr × Obj)} {σ : St} {H : Hp} {s : Shared} {a : Addr} {xs : List V} {E : Value → Shared → Prop} {R : Value → Shared → Prop} (hh : A.handled = none) (I : Inv X pins σ H s) (h : SqL X.K H a xs)
    (k : ∀ (its : List Value) (J : Addr) (s2 : Shared), Vals xs its → Walks X.prog X.w A J [J, a] [J] its.length (fun i v => its[i]? = some v) (fun i h => h.IsListIter J a i ∧ h.IsList a its.toArray) → s2.heap.IsListIter J a 0 ∧ s2.heap.IsList a its.toArray → (∀ b ∈ [J, a], b < s2.heap.objs.size) →
      Inv X pins σ H s2 → (∀ h' tk, (∀ b o, b ∉ [J] → s2.heap.get? b = some o → h'.get? b = some o) → Inv X pins σ H { s2 with heap := h', toks := tk }) → R (.ref J) s2) :
    wpAny (model X.prog X.w) A (pyIter (.ref a)) R E s := by
  obtain ⟨its, rv, p, hz⟩ := I.list h
  refine wpAny_pyIter_list p.isList ?_
  have ha : a < s.heap.objs.size := let ⟨_, e, _⟩ := p.isList; Heap.lt_size e
  have hne : a ≠ s.heap.objs.size := Nat.ne_of_lt ha
  have W := Walks.list (prog := X.prog) (w := X.w) (A := A) hh s.heap.objs.size a hne its.toArray
  rw [List.size_toArray] at W
  have I1 : Inv X pins σ H { s with heap := s.heap.push { cls := .type "list_iterator", data := .fields #[.ref a, .int 0 0] } } := I.kept (t' := s.toks) fun b o e => Heap.get?_push_of_some _ e
  have f := I.fpOk (b := s.heap.objs.size) (Nat.le_refl _) (I.hok.fresh (Nat.le_refl _))
  refine k its s.heap.objs.size _ rv (by simpa using W) ⟨⟨_, Heap.get?_push_size _ rfl, rfl, rfl⟩, let ⟨o, e, r⟩ := p.isList; ⟨o, Heap.get?_push_of_some _ e, r⟩⟩ ?_ I1 fun h' tk hk => ?_
  · intro b hb
    have e := Heap.size_push s.heap { cls := .type "list_iterator", data := .fields #[.ref a, .int 0 0] }
    show b < (s.heap.push _).objs.size
    rw [e]
    rcases List.mem_cons.mp hb with rfl | hb
    · exact Nat.lt_succ_self _
    · rw [List.mem_singleton.mp hb]; exact Nat.lt_succ_of_lt ha
  · obtain ⟨f0, f1, f2, f3, f4, f5⟩ := f
    exact I1.turned (t' := tk) (fun b o hb e => hk b o (by simpa using hb) e) f0 f1 f3 f4 f5
theorem truth_bools {A : Around} {its : List Value} {bs : List Bool} (r : Vals (bs.map V.bl) its) : TruthOf X.prog X.w A (fun i v => its[i]? = some v) (fun i => bs.getD i false) := by
  intro i v s Q E hP hQ
  have hl : i < its.length := (List.getElem?_eq_some_iff.mp hP).1
  have hl' : i < bs.length := by have := r.length; rw [List.length_map] at this; omega
  obtain ⟨u, hu, ru⟩ := r.get (i := i) (x := V.bl bs[i]) (by simp [hl'])
  have hP : its[i]? = some v := hP
  rw [hP] at hu
  cases hu
  cases (show v = Value.bool bs[i] from ru)
  have e : bs.getD i false = bs[i] := by simp [List.getD, hl']
  have hQ : Q (bs.getD i false) s := hQ
  rw [e] at hQ
  exact wpAny_truthy_bool hQ
theorem range_any (bs : List Bool) : (List.range bs.length).any (fun i => bs.getD i false) = bs.any id := by
  rw [Bool.eq_iff_iff]
  simp only [List.any_eq_true, List.mem_range, id]
  constructor
  · rintro ⟨i, hi, e⟩
    exact ⟨bs[i], List.getElem_mem hi, by simpa [List.getD, hi] using e⟩
  · rintro ⟨b, hb, e⟩
    obtain ⟨i, hi, rfl⟩ := List.getElem_of_mem hb
    exact ⟨i, hi, by simpa [List.getD, hi] using e⟩
theorem range_all (bs : List Bool) : (List.range bs.length).all (fun i => bs.getD i false) = bs.all id := by
  rw [Bool.eq_iff_iff]
  simp only [List.all_eq_true, List.mem_range, id]
  constructor
  · intro h b hb
    obtain ⟨i, hi, rfl⟩ := List.getElem_of_mem hb
    simpa [List.getD, hi] using h i hi
  · intro h i hi
    simpa [List.getD, hi] using h bs[i] (List.getElem_mem hi)
theorem call_anyL (hc : X.calm = true) : CallR X (.builtin "any") (fun xs H Q => ∃ (a : Addr) (bs : List Bool), xs = [.ref a] ∧ SqL X.K H a (bs.map V.bl) ∧ Q (.bl (bs.any id)) H) := by
  intro pins s σ H xs us Q I r h
  obtain ⟨a, bs, rfl, hq, q⟩ := h
  obtain ⟨u, rfl, ru⟩ := vals1 r
  cases (show u = Value.ref a from ru)
  refine call_any_walk (walk_seq (A := X.A.in1) (I.ok.hd hc) I hq fun its J s2 rv W st hb I2 k => ⟨J, _, _, _, _, _, _, rfl, W, st, truth_bools rv, fun h' tk hk => ?_⟩)
  have e : its.length = bs.length := by rw [← rv.length, List.length_map]
  rw [e, range_any]
  exact ⟨.bl (bs.any id), H, k h' tk hk, rfl, q⟩
theorem call_allL (hc : X.calm = true) : CallR X (.builtin "all") (fun xs H Q => ∃ (a : Addr) (bs : List Bool), xs = [.ref a] ∧ SqL X.K H a (bs.map V.bl) ∧ Q (.bl (bs.all id)) H) := by
  intro pins s σ H xs us Q I r h
  obtain ⟨a, bs, rfl, hq, q⟩ := h
  obtain ⟨u, rfl, ru⟩ := vals1 r
  cases (show u = Value.ref a from ru)
  refine call_all_walk (walk_seq (A := X.A.in1) (I.ok.hd hc) I hq fun its J s2 rv W st hb I2 k => ⟨J, _, _, _, _, _, _, rfl, W, st, truth_bools rv, fun h' tk hk => ?_⟩)
  have e : its.length = bs.length := by rw [← rv.length, List.length_map]
  rw [e, range_all]
  exact ⟨.bl (bs.all id), H, k h' tk hk, rfl, q⟩
theorem preSum_list (ns : List Int) : ∀ n, n ≤ ns.length → preSum (fun i => ns.getD i 0) n = (ns.take n).sum
  | 0, _ => by simp [preSum]
  | n + 1, h => by
    have ih := preSum_list ns n (by omega)
    have e : ns.take (n + 1) = ns.take n ++ [ns[n]'(by omega)] := by rw [List.take_add_one, List.getElem?_eq_getElem (by omega)]; rfl
    rw [e, List.sum_append, preSum, ih]
    simp [List.getD, show n < ns.length by omega]
theorem call_sumL (hc : X.calm = true) : CallR X (.builtin "sum") (fun xs H Q => ∃ (a : Addr) (ns : List Int), xs = [.ref a] ∧ SqL X.K H a (ns.map V.int) ∧ Q (.int ns.sum) H) := by
  intro pins s σ H xs us Q I r h
  obtain ⟨a, ns, rfl, hq, q⟩ := h
  obtain ⟨u, rfl, ru⟩ := vals1 r
  cases (show u = Value.ref a from ru)
  refine call_sum_walkAnyS (walk_seq (A := X.A.in1) (I.ok.hd hc) I hq fun its J s2 rv W st hb I2 k => ⟨J, _, _, _, _, _, _, fun i => ns.getD i 0, rfl, W.toS, st, hb, fun i v hP => ?_, fun s' t' hm => ?_⟩)
  · have hP : its[i]? = some v := hP
    have hl : i < its.length := (List.getElem?_eq_some_iff.mp hP).1
    have hl' : i < ns.length := by have := rv.length; rw [List.length_map] at this; omega
    obtain ⟨u, hu, ru⟩ := rv.get (i := i) (x := V.int ns[i]) (by simp [hl'])
    rw [hP] at hu
    cases hu
    obtain ⟨t, e⟩ := ru
    exact ⟨t, by rw [e]; simp [List.getD, hl']⟩
  · have e : its.length = ns.length := by rw [← rv.length, List.length_map]
    rw [e, preSum_list ns _ (Nat.le_refl _), List.take_length]
    obtain ⟨h', g', d', t2, o'⟩ := s'
    obtain ⟨m1, m2, m3, m4, m5⟩ := hm
    have m2 : g' = s2.gens := m2
    have m3 : d' = s2.drawn := m3
    have m4 : o' = s2.os := m4
    subst m2 m3 m4
    exact ⟨.int ns.sum, H, k h' t2 m1, ⟨t', rfl⟩, q⟩
end
end L2
namespace L2
open PySem PySem.Spec PyProof.Rows
mutual
def Tr (H : Hp) : PyData → V → Prop
  | .none, v => v = .non
  | .bool b, v => v = .bl b
  | .int i, v => v = .int i
  | .str x, v => v = .str x
  | .list ds, v => ∃ a vs, v = .ref a ∧ H a = some (.lst vs) ∧ TrL H ds vs
  | .tuple ds, v => ∃ a vs, v = .ref a ∧ H a = some (.tup vs) ∧ TrL H ds vs
  | .dict _, _ => False
def TrL (H : Hp) : List PyData → List V → Prop
  | [], vs => vs = []
  | d :: ds, vs => ∃ v r, vs = v :: r ∧ Tr H d v ∧ TrL H ds r
end
theorem TrL.length {H : Hp} : ∀ {ds : List PyData} {vs : List V}, TrL H ds vs → ds.length = vs.length
  | [], _, h => by cases (show _ = [] from h); rfl
  | d :: ds, _, h => by
    obtain ⟨v, r, rfl, _, t⟩ := h
    rw [List.length_cons, List.length_cons, TrL.length t]
mutual
theorem Tr.same {H H' : Hp} (S : Same H H') : ∀ {d : PyData} {v : V}, Tr H d v → Tr H' d v
  | .none, _, h => h
  | .bool _, _, h => h
  | .int _, _, h => h
  | .str _, _, h => h
  | .list ds, _, ⟨a, vs, e, ha, t⟩ => ⟨a, vs, e, S _ _ ha, TrL.same S t⟩
  | .tuple ds, _, ⟨a, vs, e, ha, t⟩ => ⟨a, vs, e, S _ _ ha, TrL.same S t⟩
theorem TrL.same {H H' : Hp} (S : Same H H') : ∀ {ds : List PyData} {vs : List V}, TrL H ds vs → TrL H' ds vs
  | [], _, h => h
  | d :: ds, _, ⟨v, r, e, h, t⟩ => ⟨v, r, e, Tr.same S h, TrL.same S t⟩
end
def SameT (H H' : Hp) : Prop := ∀ b xs, H b = some (.tup xs) → H' b = some (.tup xs)
section
variable {X : Cx} {pins : List (Addr × Obj)} {σ : St} {H : Hp} {s : Shared}
mutual
theorem Tr.reads (I : Inv X pins σ H s) : ∀ {d : PyData} {v : V} {u : Value}, Tr H d v → RelV v u → ∃ as, Reads s.heap u d as
  | .none, _, u, h, r => by
    cases (show _ = V.non from h)
    cases (show u = Value.none from r)
    exact ⟨_, .none⟩
  | .bool b, _, u, h, r => by
    cases (show _ = V.bl b from h)
    cases (show u = Value.bool b from r)
    exact ⟨_, .bool b⟩
  | .int i, _, u, h, r => by
    cases (show _ = V.int i from h)
    obtain ⟨t, rfl⟩ := r
    exact ⟨_, .int i t⟩
  | .str x, _, u, h, r => by
    cases (show _ = V.str x from h)
    obtain ⟨t, rfl⟩ := r
    exact ⟨_, .str x t⟩
  | .list ds, _, u, h, r => by
    obtain ⟨a, vs, rfl, ha, t⟩ := h
    cases (show u = Value.ref a from r)
    obtain ⟨z, its, n, rv, e⟩ := I.hok a _ ha
    obtain ⟨as, q⟩ := TrL.reads I t rv
    exact ⟨_, .list e rfl rfl (by simpa using q)⟩
  | .tuple ds, _, u, h, r => by
    obtain ⟨a, vs, rfl, ha, t⟩ := h
    cases (show u = Value.ref a from r)
    obtain ⟨z, its, rv, o, e, c, n, dt⟩ := I.hok a _ ha
    obtain ⟨as, q⟩ := TrL.reads I t rv
    exact ⟨_, .tuple e c dt (by simpa using q)⟩
theorem TrL.reads (I : Inv X pins σ H s) : ∀ {ds : List PyData} {vs : List V} {us : List Value}, TrL H ds vs → Vals vs us → ∃ as, ReadsAll s.heap us ds as
  | [], _, us, h, r => by
    cases (show _ = [] from h)
    cases r
    exact ⟨_, .nil⟩
  | d :: ds, _, us, h, r => by
    obtain ⟨v, vs, rfl, hv, t⟩ := h
    cases r with
    | cons r1 r2 =>
      obtain ⟨as, q⟩ := Tr.reads I hv r1
      obtain ⟨bs, p⟩ := TrL.reads I t r2
      exact ⟨_, .cons q p⟩
end
end
def Flat (d : PyData) : Prop := d.canLay0 = true ∧ d.depth ≤ 40
section
variable {X : Cx}
theorem op_eqD (hu : X.A.units + 64 < cLine) : OpR X (compareOp .Eq) (fun x y H Q => ∃ da db, Tr H da x ∧ Tr H db y ∧ Flat da ∧ Flat db ∧ Q (.bl (PyData.eqv da db)) H) := by
  intro pins s σ H x y v u Q I rx ry h
  obtain ⟨da, db, ta, tb, fa, fb, q⟩ := h
  obtain ⟨as, ra⟩ := ta.reads I rx
  obtain ⟨bs, rb⟩ := tb.reads I ry
  exact SeqAt.compareEq_reads ra rb fa.1 fb.1 (by have := fa.2; have := fb.2; omega) ⟨.bl _, H, I, rfl, q⟩
theorem op_neD (hu : X.A.units + 64 < cLine) : OpR X (compareOp .NotEq) (fun x y H Q => ∃ da db, Tr H da x ∧ Tr H db y ∧ Flat da ∧ Flat db ∧ Q (.bl (!PyData.eqv da db)) H) := by
  intro pins s σ H x y v u Q I rx ry h
  obtain ⟨da, db, ta, tb, fa, fb, q⟩ := h
  obtain ⟨as, ra⟩ := ta.reads I rx
  obtain ⟨bs, rb⟩ := tb.reads I ry
  exact SeqAt.compareNe_reads ra rb fa.1 fb.1 (by have := fa.2; have := fb.2; omega) ⟨.bl _, H, I, rfl, q⟩
theorem op_inD (hu : X.A.units + 64 < cLine) : OpR X (compareOp .In) (fun x y H Q => ∃ d ds, Tr H d x ∧ (Tr H (.list ds) y ∨ Tr H (.tuple ds) y) ∧ Flat d ∧ PyData.canLayAll0 ds = true ∧ Q (.bl (ds.any fun e => PyData.eqv e d)) H) := by
  intro pins s σ H x y v u Q I rx ry h
  obtain ⟨d, ds, tx, ty, fd, fs, q⟩ := h
  obtain ⟨as, ra⟩ := tx.reads I rx
  rcases ty with ty | ty
  · obtain ⟨bs, rb⟩ := ty.reads I ry
    exact SeqAt.in_list_reads rb ra fs fd.1 (by have := fd.2; omega) ⟨.bl _, H, I, rfl, q⟩
  · obtain ⟨bs, rb⟩ := ty.reads I ry
    exact SeqAt.in_tuple_reads rb ra fs fd.1 (by have := fd.2; omega) ⟨.bl _, H, I, rfl, q⟩
theorem op_notInD (hu : X.A.units + 64 < cLine) : OpR X (compareOp .NotIn) (fun x y H Q => ∃ d ds, Tr H d x ∧ (Tr H (.list ds) y ∨ Tr H (.tuple ds) y) ∧ Flat d ∧ PyData.canLayAll0 ds = true ∧ Q (.bl (!ds.any fun e => PyData.eqv e d)) H) := by
  intro pins s σ H x y v u Q I rx ry h
  obtain ⟨d, ds, tx, ty, fd, fs, q⟩ := h
  obtain ⟨as, ra⟩ := tx.reads I rx
  rcases ty with ty | ty
  · obtain ⟨bs, rb⟩ := ty.reads I ry
    exact SeqAt.notIn_list_reads rb ra fs fd.1 (by have := fd.2; omega) ⟨.bl _, H, I, rfl, q⟩
  · obtain ⟨bs, rb⟩ := ty.reads I ry
    exact SeqAt.notIn_tuple_reads rb ra fs fd.1 (by have := fd.2; omega) ⟨.bl _, H, I, rfl, q⟩
theorem call_strD (hu : X.A.units + 64 < cLine) (hg : X.A.guards = some []) : CallR X (.type "str") (fun xs H Q => ∃ a d, xs = [.ref a] ∧ Tr H d (.ref a) ∧ d.showable = true ∧ d.hasDict = false ∧ d.depth ≤ 40 ∧ d.shown.length ≤ sizeLine ∧ Q (.str d.shown) H) := by
  intro pins s σ H xs us Q I r h
  obtain ⟨a, d, rfl, td, h1, h2, h3, h4, q⟩ := h
  obtain ⟨u, rfl, ru⟩ := vals1 r
  cases (show u = Value.ref a from ru)
  obtain ⟨as, rd⟩ := td.reads I ru
  exact str_of_reads rd h1 (fun z => by rw [h2] at z; cases z) hg (by omega) (fun _ _ e => e) (fun h' t tk hk => ⟨.str _, H, I.kept (t' := tk) hk, ⟨t, rfl⟩, q⟩) h4
end
end L2
namespace L2
open PySem PySem.Spec PyProof.Rows
mutual
def cmpT (gt : Bool) : PyData → PyData → Option Bool
  | .int i, .int j => some (if gt then decide (j < i) else decide (i < j))
  | .str i, .str j => some (if gt then decide (j.cps.toList < i.cps.toList) else decide (i.cps.toList < j.cps.toList))
  | .tuple xs, .tuple ys => lexT gt xs ys
  | _, _ => none
def lexT (gt : Bool) : List PyData → List PyData → Option Bool
  | [], [] => some false
  | [], _ :: _ => some (!gt)
  | _ :: _, [] => some gt
  | x :: xs, y :: ys => if PyData.eqv x y = true then lexT gt xs ys else cmpT gt x y
end
abbrev opG (gt : Bool) : CmpOp := if gt then .Gt else .Lt
def RlAt (gt : Bool) (A : Around) (s : Shared) (a b : Value) (r : Bool) : Prop :=
  ∀ (prog : Program) (w : World) (E : Value → Shared → Prop) (Q : Value → Shared → Prop), Q (.bool r) s → wpAny (model prog w) A (richCompare (opG gt) a b) Q E s
inductive LexW (gt : Bool) (A : Around) (s : Shared) : List Value → List Value → Bool → Prop
  | nn : LexW gt A s [] [] false
  | nc {y ys} : LexW gt A s [] (y :: ys) (!gt)
  | cn {x xs} : LexW gt A s (x :: xs) [] gt
  | eq {x xs y ys r} : SeqAt.EqAt A s x y true → LexW gt A s xs ys r → LexW gt A s (x :: xs) (y :: ys) r
  | ne {x xs y ys r} : SeqAt.EqAt A s x y false → RlAt gt A s x y r → LexW gt A s (x :: xs) (y :: ys) r
section
open PySem.SeqAt
open PySem.AutoSeq1 (wpAny_loadPart')
open PySem.MeetsSeq PySem.MeetsSeq2 PySem.MeetsSeq3
theorem tuple_lt_lex (l b : Addr) (items items2 : Array Value) (n n2 : Nat) (dd dd2 : Option Addr) (sl sl2 : Array (Option Value)) (r : Bool) :
    Meets (Builtin.«tuple.__lt__» ⟨[.ref l, .ref b], []⟩)
      (fun A R s => s.heap.get? l = some { cls := .type "tuple", dict := dd, data := .seq items n, slots := sl } ∧ s.heap.get? b = some { cls := .type "tuple", dict := dd2, data := .seq items2 n2, slots := sl2 } ∧
        LexW false A.in1 s items.toList items2.toList r ∧ R (.ok (.ret (.bool r))) s) :=
  .of_wp fun prog w A R s h => by
    obtain ⟨hp, g, d, tk, os⟩ := s; obtain ⟨hl, hb, hx, h⟩ := h
    have f2 := AutoSeq1.sub_tuple_tuple
    wp_walk using wpAny_loadPart' hl, wpAny_loadPart' hb, wpAny_forIn_list _ (fun rest b s' => b.1 = none ∧ s' = ⟨hp, g, d, tk, os⟩ ∧ ∃ (vs ws : List Value), rest = vs.zip ws ∧
      vs.length + items2.size = ws.length + items.size ∧ LexW false A.in1 ⟨hp, g, d, tk, os⟩ vs ws r) _
    case turn =>
      rintro ⟨y, x⟩ rest b s' ⟨hb', rfl, vs, ws, hz, hlen, hR⟩
      cases hR with
      | nn => rw [List.zip_nil_left] at hz; cases hz
      | nc => rw [List.zip_nil_left] at hz; cases hz
      | cn => rw [List.zip_nil_right] at hz; cases hz
      | eq he hr =>
        rw [List.zip_cons_cons] at hz
        injection hz with hyx hrest
        injection hyx with hy hx
        subst hy hx
        simp only [List.length_cons] at hlen
        refine wpAny_bind (he prog w _ _ ?_)
        wp_walk
        exact ⟨rfl, rfl, _, _, hrest, by omega, hr⟩
      | ne he hr =>
        rw [List.zip_cons_cons] at hz
        injection hz with hyx hrest
        injection hyx with hy hx
        subst hy hx
        refine wpAny_bind (he prog w _ _ ?_)
        have hri : ∀ (E : Value → Shared → Prop) (Q : Value → Shared → Prop), Q (.bool r) ⟨hp, g, d, tk, os⟩ → wpAny (model prog w) A.in1 (richCompare .Lt y x) Q E ⟨hp, g, d, tk, os⟩ := hr prog w
        wp_walk using hri
        exact ⟨_, rfl, by simpa using h⟩
    case fin =>
      rintro ⟨b1, b2⟩ s' ⟨hb', rfl, vs, ws, hz, hlen, hR⟩
      simp only at hb'
      subst hb'
      have hv : r = decide (items.size < items2.size) := by
        cases hR with
        | nn => exact (decide_eq_false (by simp only [List.length_nil] at hlen; omega)).symm
        | nc => simp only [List.length_nil, List.length_cons] at hlen; exact (decide_eq_true (by omega)).symm
        | cn => simp only [List.length_nil, List.length_cons] at hlen; exact (decide_eq_false (by omega)).symm
        | eq => rw [List.zip_cons_cons] at hz; cases hz
        | ne => rw [List.zip_cons_cons] at hz; cases hz
      rw [hv] at h
      wp_walk
      exact ⟨_, rfl, by simpa [Builtin.Tuple.tupleCompareSizes] using h⟩
    case h =>
      exact ⟨rfl, rfl, items.toList, items2.toList, rfl, by simp; omega, hx⟩
theorem tuple_gt_lex (l b : Addr) (items items2 : Array Value) (n n2 : Nat) (dd dd2 : Option Addr) (sl sl2 : Array (Option Value)) (r : Bool) :
    Meets (Builtin.«tuple.__gt__» ⟨[.ref l, .ref b], []⟩)
      (fun A R s => s.heap.get? l = some { cls := .type "tuple", dict := dd, data := .seq items n, slots := sl } ∧ s.heap.get? b = some { cls := .type "tuple", dict := dd2, data := .seq items2 n2, slots := sl2 } ∧
        LexW true A.in1 s items.toList items2.toList r ∧ R (.ok (.ret (.bool r))) s) :=
  .of_wp fun prog w A R s h => by
    obtain ⟨hp, g, d, tk, os⟩ := s; obtain ⟨hl, hb, hx, h⟩ := h
    have f2 := AutoSeq1.sub_tuple_tuple
    wp_walk using wpAny_loadPart' hl, wpAny_loadPart' hb, wpAny_forIn_list _ (fun rest b s' => b.1 = none ∧ s' = ⟨hp, g, d, tk, os⟩ ∧ ∃ (vs ws : List Value), rest = vs.zip ws ∧
      vs.length + items2.size = ws.length + items.size ∧ LexW true A.in1 ⟨hp, g, d, tk, os⟩ vs ws r) _
    case turn =>
      rintro ⟨y, x⟩ rest b s' ⟨hb', rfl, vs, ws, hz, hlen, hR⟩
      cases hR with
      | nn => rw [List.zip_nil_left] at hz; cases hz
      | nc => rw [List.zip_nil_left] at hz; cases hz
      | cn => rw [List.zip_nil_right] at hz; cases hz
      | eq he hr =>
        rw [List.zip_cons_cons] at hz
        injection hz with hyx hrest
        injection hyx with hy hx
        subst hy hx
        simp only [List.length_cons] at hlen
        refine wpAny_bind (he prog w _ _ ?_)
        wp_walk
        exact ⟨rfl, rfl, _, _, hrest, by omega, hr⟩
      | ne he hr =>
        rw [List.zip_cons_cons] at hz
        injection hz with hyx hrest
        injection hyx with hy hx
        subst hy hx
        refine wpAny_bind (he prog w _ _ ?_)
        have hri : ∀ (E : Value → Shared → Prop) (Q : Value → Shared → Prop), Q (.bool r) ⟨hp, g, d, tk, os⟩ → wpAny (model prog w) A.in1 (richCompare .Gt y x) Q E ⟨hp, g, d, tk, os⟩ := hr prog w
        wp_walk using hri
        exact ⟨_, rfl, by simpa using h⟩
    case fin =>
      rintro ⟨b1, b2⟩ s' ⟨hb', rfl, vs, ws, hz, hlen, hR⟩
      simp only at hb'
      subst hb'
      have hv : r = decide (items2.size < items.size) := by
        cases hR with
        | nn => exact (decide_eq_false (by simp only [List.length_nil] at hlen; omega)).symm
        | nc => simp only [List.length_nil, List.length_cons] at hlen; exact (decide_eq_false (by omega)).symm
        | cn => simp only [List.length_nil, List.length_cons] at hlen; exact (decide_eq_true (by omega)).symm
        | eq => rw [List.zip_cons_cons] at hz; cases hz
        | ne => rw [List.zip_cons_cons] at hz; cases hz
      rw [hv] at h
      wp_walk
      exact ⟨_, rfl, by simpa [Builtin.Tuple.tupleCompareSizes] using h⟩
    case h =>
      exact ⟨rfl, rfl, items.toList, items2.toList, rfl, by simp; omega, hx⟩
end
theorem rl_tup {gt : Bool} {A : Around} {s : Shared} {l b : Addr} {items items2 : Array Value} {r : Bool} (hl : s.heap.IsTuple l items) (hb : s.heap.IsTuple b items2) (hx : LexW gt A.in1 s items.toList items2.toList r) (hu : A.units < cLine) : RlAt gt A s (.ref l) (.ref b) r := by
  intro prog w E Q h
  obtain ⟨⟨cls, dd, data, sl⟩, ho, hc, n, hd⟩ := id hl
  obtain ⟨⟨cls2, dd2, data2, sl2⟩, ho2, hc2, n2, hd2⟩ := id hb
  simp only at hc hd hc2 hd2
  subst hc hd hc2 hd2
  cases gt with
  | false =>
    exact richCompare_meets_room (op := .Lt) ⟨_, ho, rfl⟩ ⟨_, ho2, rfl⟩ PySem.F.slot_tuple_lt PySem.F.entry_tuple_lt (PySem.F.args_tuple_lt_2 _ _) (tuple_lt_lex l b items items2 n n2 dd dd2 sl sl2 r)
      ⟨ho, ho2, hx, show Value.bool r ≠ Value.notImplemented ∧ Q (.bool r) s from ⟨(fun x => nomatch x), h⟩⟩ hu
  | true =>
    exact richCompare_meets_room (op := .Gt) ⟨_, ho, rfl⟩ ⟨_, ho2, rfl⟩ PySem.F.slot_tuple_gt PySem.F.entry_tuple_gt (PySem.F.args_tuple_gt_2 _ _) (tuple_gt_lex l b items items2 n n2 dd dd2 sl sl2 r)
      ⟨ho, ho2, hx, show Value.bool r ≠ Value.notImplemented ∧ Q (.bool r) s from ⟨(fun x => nomatch x), h⟩⟩ hu
mutual
theorem rl_reads (gt : Bool) : ∀ (da db : PyData) (A : Around) (s : Shared) (a b : Value) (as bs : List Addr) (r : Bool), Reads s.heap a da as → Reads s.heap b db bs → da.canLay0 = true → db.canLay0 = true → A.units + da.depth < cLine → cmpT gt da db = some r → RlAt gt A s a b r
  | .int i, db, A, s, a, b, as, bs, r, ra, rb, ca, cb, hu, h => by
    cases db with
    | int j =>
      cases ra
      cases rb
      cases h
      intro prog w E Q q
      cases gt with
      | false => exact (PyProof.Rows.lt_int q : wpAny (model prog w) A (compareOp .Lt _ _) Q E s)
      | true => exact (PyProof.Rows.gt_int q : wpAny (model prog w) A (compareOp .Gt _ _) Q E s)
    | _ => cases h
  | .str i, db, A, s, a, b, as, bs, r, ra, rb, ca, cb, hu, h => by
    cases db with
    | str j =>
      cases ra
      cases rb
      cases h
      intro prog w E Q q
      cases gt with
      | false => exact (PyProof.Rows.lt_str q : wpAny (model prog w) A (compareOp .Lt _ _) Q E s)
      | true => exact (PySem.P.gt_str q : wpAny (model prog w) A (compareOp .Gt _ _) Q E s)
    | _ => cases h
  | .tuple xs, db, A, s, a, b, as, bs, r, ra, rb, ca, cb, hu, h => by
    cases db with
    | tuple ys =>
      cases ra with
      | tuple h1 h2 h3 h4 =>
        cases rb with
        | tuple g1 g2 g3 g4 =>
          have hu' : A.units + (PyData.depthAll xs + 1) < cLine := hu
          exact rl_tup ⟨_, h1, h2, _, h3⟩ ⟨_, g1, g2, _, g3⟩ (rl_all gt xs ys A.in1 s _ _ _ _ r h4 g4 ca cb (by show A.units + 1 + PyData.depthAll xs < cLine; omega) h) (by omega)
    | _ => cases h
  | .none, db, A, s, a, b, as, bs, r, ra, rb, ca, cb, hu, h => by cases db <;> cases h
  | .bool _, db, A, s, a, b, as, bs, r, ra, rb, ca, cb, hu, h => by cases db <;> cases h
  | .list _, db, A, s, a, b, as, bs, r, ra, rb, ca, cb, hu, h => by cases db <;> cases h
  | .dict _, db, A, s, a, b, as, bs, r, ra, rb, ca, cb, hu, h => by cases db <;> cases h
theorem rl_all (gt : Bool) : ∀ (xs ys : List PyData) (A : Around) (s : Shared) (vs ws : List Value) (as bs : List Addr) (r : Bool), ReadsAll s.heap vs xs as → ReadsAll s.heap ws ys bs → PyData.canLayAll0 xs = true → PyData.canLayAll0 ys = true → A.units + PyData.depthAll xs < cLine → lexT gt xs ys = some r → LexW gt A s vs ws r
  | [], [], A, s, vs, ws, as, bs, r, ra, rb, ca, cb, hu, h => by cases ra; cases rb; cases h; exact .nn
  | [], y :: ys, A, s, vs, ws, as, bs, r, ra, rb, ca, cb, hu, h => by cases ra; cases rb; cases h; exact .nc
  | x :: xs, [], A, s, vs, ws, as, bs, r, ra, rb, ca, cb, hu, h => by cases ra; cases rb; cases h; exact .cn
  | x :: xs, y :: ys, A, s, vs, ws, as, bs, r, ra, rb, ca, cb, hu, h => by
    cases ra with
    | cons r1 r2 =>
      cases rb with
      | cons q1 q2 =>
        have ca' := Bool.and_eq_true_iff.mp ca
        have cb' := Bool.and_eq_true_iff.mp cb
        have hu' : A.units + max x.depth (PyData.depthAll xs) < cLine := hu
        have e := SeqAt.eqAt_reads x y A s _ _ _ _ r1 q1 ca'.1 cb'.1 (by omega)
        rw [lexT] at h
        by_cases he : PyData.eqv x y = true
        · rw [if_pos he] at h
          rw [he] at e
          exact .eq e (rl_all gt xs ys A s _ _ _ _ r r2 q2 ca'.2 cb'.2 (by omega) h)
        · rw [if_neg he] at h
          rw [Bool.not_eq_true _ |>.mp he] at e
          exact .ne e (rl_reads gt x y A s _ _ _ _ r r1 q1 ca'.1 cb'.1 (by omega) h)
end
section
variable {X : Cx}
theorem op_ltD (hu : X.A.units + 64 < cLine) : OpR X (compareOp .Lt) (fun x y H Q => ∃ da db r, Tr H da x ∧ Tr H db y ∧ Flat da ∧ Flat db ∧ cmpT false da db = some r ∧ Q (.bl r) H) := by
  intro pins s σ H x y v u Q I rx ry h
  obtain ⟨da, db, r, ta, tb, fa, fb, e, q⟩ := h
  obtain ⟨as, ra⟩ := ta.reads I rx
  obtain ⟨bs, rb⟩ := tb.reads I ry
  exact (rl_reads false da db X.A s v u as bs r ra rb fa.1 fb.1 (by have := fa.2; omega) e X.prog X.w X.xe (EP X pins σ Q) ⟨.bl _, H, I, rfl, q⟩ : wpAny _ _ (richCompare .Lt v u) _ _ _)
end
end L2
namespace L2
open PySem PySem.Spec PyProof.Rows
section
variable {X : Cx} {pins : List (Addr × Obj)} {σ : St} {H : Hp} {s : Shared}
theorem Inv.recS {S : Addr} {o o' : Obj} {f : Obj → Obj} {pl : List (Addr × Obj)} (I : Inv X (pins ++ (S, o) :: pl) σ H s) (hS : X.s₀.heap.objs.size ≤ S) (hp : ∀ p ∈ pins ++ pl, p.1 ≠ S) (hpn : ∀ p ∈ X.pn, p.1 ≠ S)
    (hu : (s.heap.update S f).get? S = some o') (hd : ∀ v, o'.data ≠ .cell v) : Inv X (pins ++ (S, o') :: pl) σ H { s with heap := s.heap.update S f } := by
  obtain ⟨p1, p2, p3, p4, p5⟩ := I.pin (S, o) (List.mem_append_right _ (List.mem_append_right _ List.mem_cons_self))
  have I0 : Inv X [] σ H s := I.pins_of fun p hp => nomatch hp
  have I1 : Inv X [] σ H { s with heap := s.heap.update S f } := I0.turned (t' := s.toks) (fun b u hb e => (Heap.get?_update_other s.heap f (Ne.symm hb)).trans e) p2 p3 (.inr hS) (fun x c e z => by
    obtain ⟨v, ob, ho, hdc⟩ := I.cell x c e
    rw [z, p1] at ho; cases ho; exact p5 v hdc) (fun p hp' z => by
      have hp' : p ∈ X.pn ++ [] := hp'
      rw [List.append_nil] at hp'
      exact hpn p hp' z)
  refine I1.pins_of fun p hpp => ?_
  have keep : ∀ p ∈ pins ++ pl, (s.heap.update S f).get? p.1 = some p.2 ∧ H p.1 = none ∧ p.1 ≠ X.env.locals ∧ p.1 ∉ X.fs ∧ ∀ v, p.2.data ≠ .cell v := fun p hpm => by
    have hpm' : p ∈ X.pn ++ (pins ++ (S, o) :: pl) := List.mem_append_right _ (by
      rcases List.mem_append.mp hpm with z | z
      · exact List.mem_append_left _ z
      · exact List.mem_append_right _ (List.mem_cons_of_mem _ z))
    obtain ⟨q1, q2, q3, q4, q5⟩ := I.pin p hpm'
    exact ⟨(Heap.get?_update_other s.heap f (Ne.symm (hp p hpm))).trans q1, q2, q3, q4, q5⟩
  rcases List.mem_append.mp hpp with z | z
  · exact keep p (List.mem_append_left _ z)
  · rcases List.mem_cons.mp z with rfl | z
    · exact ⟨hu, p2, p3, p4, hd⟩
    · exact keep p (List.mem_append_right _ z)
theorem run_in1 {k : Nat} {f : Addr} {fd : FuncData} {ps : List Str} {sp : Sp} {E : Value → Shared → Prop} {Q : VK} {us : List Value} {vs : List V} (F : FnOk X.prog X.w X.K X.mg X.base CX0 k f fd ps sp) (hr : Room (k + 1) X.A) (hb : Binds X.K fd ps [])
    (I : Inv X pins σ H s) (r : Vals vs us) (h : sp vs H Q E0) : wpAny (model X.prog X.w) X.A.in1 (call (.ref f) us) (EP X pins σ Q) E s := by
  have hl : (us ++ []).length = ps.length := by rw [List.append_nil, ← r.length]; exact F.len _ _ _ _ h
  refine wpAny_call (codeAny_mono (F.run X.A.in1 X.stack s H ⟨us, []⟩ (us ++ []) vs Q E0 hr.in1 I.env0.in1 (hb s us I.kIn hl) (by rw [List.append_nil]; exact r) h) fun r s' hq => ?_)
  cases r with
  | error e => exact False.elim hq
  | ok fl =>
    cases fl with
    | ret u => exact I.after hq
    | next => exact False.elim hq
    | brk => exact False.elim hq
    | cont => exact False.elim hq
end
def bestA : Option (V × V) → List Value → Prop
  | none, us => us = []
  | some (x, k), us => ∃ u t, us = [u, t] ∧ RelV x u ∧ RelV k t
def MmW (gt : Bool) (K : PySem.W.Frag) (sp : Sp) (a : Addr) (vs : List V) (d : V) (H : Hp) (Q : VK) : Prop :=
  ∃ W : Nat → Option (V × V) → Hp → Prop, W 0 none H ∧ (∀ i best H, W i best H → SqL K H a vs) ∧
    (∀ i x best H, vs[i]? = some x → W i best H → sp [x] H (fun kv H1 => match best with
      | none => W (i + 1) (some (x, kv)) H1
      | some (bx, bk) => ∃ dk db r, Tr H1 dk kv ∧ Tr H1 db bk ∧ Flat dk ∧ Flat db ∧ cmpT gt dk db = some r ∧ W (i + 1) (if r = true then some (x, kv) else some (bx, bk)) H1) E0) ∧
    (∀ best H, W vs.length best H → Q (match best with | some (x, _) => x | none => d) H)
section
variable {X : Cx}
theorem args_min_kd (a v d : Value) : argsOk "min" ⟨[a], [(Str.ofString "key", v), (Str.ofString "default", d)]⟩ := by unfold argsOk; kernel_rfl
theorem min_loop {k : Nat} {f : Addr} {fd : FuncData} {ps : List Str} {sp : Sp} {pins : List (Addr × Obj)} {σ : St} {E : Value → Shared → Prop} {a S J : Addr} {vs : List V} {d : V} {ud : Value} {Q : VK} (hc : X.calm = true)
    (F : FnOk X.prog X.w X.K X.mg X.base CX0 k f fd ps sp) (hr : Room (k + 1) X.A) (hb : Binds X.K fd ps []) (rd : RelV d ud) (hS : X.s₀.heap.objs.size ≤ S) (hJ : X.s₀.heap.objs.size ≤ J) (hSJ : S ≠ J) (haJ : a ≠ J)
    (hp : ∀ p ∈ X.pn ++ pins, p.1 ≠ S ∧ p.1 ≠ J)
    (W : Nat → Option (V × V) → Hp → Prop) (w1 : ∀ i best H, W i best H → SqL X.K H a vs)
    (w2 : ∀ i x best H, vs[i]? = some x → W i best H → sp [x] H (fun kv H1 => match best with
      | none => W (i + 1) (some (x, kv)) H1
      | some (bx, bk) => ∃ dk db r, Tr H1 dk kv ∧ Tr H1 db bk ∧ Flat dk ∧ Flat db ∧ cmpT false dk db = some r ∧ W (i + 1) (if r = true then some (x, kv) else some (bx, bk)) H1) E0)
    (w3 : ∀ best H, W vs.length best H → Q (match best with | some (x, _) => x | none => d) H) :
    ∀ (r i : Nat) (best : Option (V × V)) (its : List Value) (n : Nat) (oJ : Obj) (H : Hp) (s : Shared), vs.length - i = r → i ≤ vs.length → bestA best its → W i best H →
      Inv X (pins ++ [(S, { cls := .type "list", data := .seq its.toArray n }), (J, oJ)]) σ H s → s.heap.IsListIter J a i →
      codeAny (model X.prog X.w) X.A (.builtin "min.loop" ⟨[.ref J, .ref f, .ref S], [(Str.ofString "default", ud)]⟩) (fun r s' => match r with | .ok (.ret v) => EP X pins σ Q v s' | .ok _ => False | .error e => E e s') s := by
  have hname : (toString "min" ++ toString ".loop" : String) = "min.loop" := by decide
  have hu : X.A.units + 100 < cLine := by have := hr.un; omega
  intro r
  induction r with
  | zero =>
    intro i best its n oJ H s hri hi hbest hw I hit
    have e : i = vs.length := by omega
    subst e
    obtain ⟨ps1, ps2, ps3, ps4, ps5⟩ := I.pin (S, { cls := .type "list", data := .seq its.toArray n }) (List.mem_append_right _ (List.mem_append_right _ List.mem_cons_self))
    obtain ⟨pj1, pj2, pj3, pj4, pj5⟩ := I.pin (J, oJ) (List.mem_append_right _ (List.mem_append_right _ (List.mem_cons_of_mem _ List.mem_cons_self)))
    obtain ⟨us, rv, pl, hz⟩ := I.list (w1 _ _ _ hw)
    have hlen := rv.length
    have I0 : Inv X pins σ H s := I.pins_of fun p hp => I.pin p (List.mem_append_right _ (List.mem_append_left _ hp))
    refine codeAny_builtin PySem.F.entry_min_loop ?_
    rw [Around.under_plainId PySem.F.plain_min_loop _]
    show wpAny _ X.A.in1 (seqItems? (.ref S) >>= _) _ _ _
    refine wpAny_bind (wpAny_seqItems ps1 rfl ?_)
    show wpAny _ X.A.in1 (tryCatch (pyNext (.ref J)) _ >>= _) _ _ _
    refine wpAny_bind (wpAny_tryCatch (wpAny_pyNext_list_end (A := X.A.in1) (I.ok.hd hc) hit pl.isList (by simp; omega) fun h' eb => ?_))
    have I1 : Inv X pins σ H { s with heap := h' } := I0.turned (t' := s.toks) (fun b o hb e => eb b o hb e) pj2 pj3 (.inr hJ) (fun x c e z => by
      obtain ⟨v, ob, ho, hdc⟩ := I.cell x c e
      rw [z, pj1] at ho; cases ho; exact pj5 v hdc) (fun p hp' => (hp p hp').2)
    cases best with
    | none =>
      cases (show its = [] from hbest)
      show wpAny _ X.A.in1 (rule _ >>= _) _ _ _
      refine wpAny_bind (wpAny_rule (wpAny_pure ?_))
      exact ⟨d, H, I1, rd, w3 none H hw⟩
    | some b =>
      obtain ⟨bx, bk⟩ := b
      obtain ⟨u, t, rfl, ru, rt⟩ := hbest
      have ps1' := eb S _ hSJ ps1
      show wpAny _ X.A.in1 (updateSeq S (fun _ => #[]) >>= _) _ _ _
      refine wpAny_bind (wpAny_updateSeq ps1' rfl (wpAny_bind (wpAny_letGo (wpAny_pure ?_))))
      refine ⟨bx, H, I1.turned (t' := s.toks) (fun b o hb e => (Heap.get?_update_other h' _ (Ne.symm hb)).trans e) ps2 ps3 (.inr hS) (fun x c e z => ?_) (fun p hp' => (hp p hp').1), ru, w3 (some (bx, bk)) H hw⟩
      obtain ⟨v, ob, ho, hdc⟩ := I.cell x c e
      rw [z, ps1] at ho; cases ho; exact ps5 v hdc
  | succ r ih =>
    intro i best its n oJ H s hri hi hbest hw I hit
    have hlt : i < vs.length := by omega
    obtain ⟨ps1, ps2, ps3, ps4, ps5⟩ := I.pin (S, { cls := .type "list", data := .seq its.toArray n }) (List.mem_append_right _ (List.mem_append_right _ List.mem_cons_self))
    obtain ⟨pj1, pj2, pj3, pj4, pj5⟩ := I.pin (J, oJ) (List.mem_append_right _ (List.mem_append_right _ (List.mem_cons_of_mem _ List.mem_cons_self)))
    obtain ⟨us, rv, pl, hz⟩ := I.list (w1 _ _ _ hw)
    have hlen := rv.length
    obtain ⟨u, hu1, ru⟩ := rv.get (i := i) (x := vs[i]) (by simp [hlt])
    have I0 : Inv X pins σ H s := I.pins_of fun p hp => I.pin p (List.mem_append_right _ (List.mem_append_left _ hp))
    refine codeAny_builtin PySem.F.entry_min_loop ?_
    rw [Around.under_plainId PySem.F.plain_min_loop _]
    show wpAny _ X.A.in1 (seqItems? (.ref S) >>= _) _ _ _
    refine wpAny_bind (wpAny_seqItems ps1 rfl ?_)
    show wpAny _ X.A.in1 (tryCatch (pyNext (.ref J)) _ >>= _) _ _ _
    refine wpAny_bind (wpAny_tryCatch (wpAny_pyNext_list_item (A := X.A.in1) hit pl.isList (x := u) (by simpa using hu1) fun h' hit' sb => ?_))
    have I1 : Inv X pins σ H { s with heap := h' } := I0.turned (t' := s.toks) (fun b o hb e => (sb.2 b hb).trans e) pj2 pj3 (.inr hJ) (fun x c e z => by
      obtain ⟨v, ob, ho, hdc⟩ := I.cell x c e
      rw [z, pj1] at ho; cases ho; exact pj5 v hdc) (fun p hp' => (hp p hp').2)
    obtain ⟨oJ', hoJ', hoc, hod⟩ := id hit'
    have I2 : Inv X (pins ++ [(S, { cls := .type "list", data := .seq its.toArray n }), (J, oJ')]) σ H { s with heap := h' } := I1.pins_of fun p hpp => by
      rcases List.mem_append.mp hpp with z | z
      · exact I1.pin p (List.mem_append_right _ z)
      · rcases List.mem_cons.mp z with rfl | z
        · exact ⟨(sb.2 S hSJ).trans ps1, ps2, ps3, ps4, ps5⟩
        · rw [List.mem_singleton.mp z]
          exact ⟨hoJ', pj2, pj3, pj4, fun v q => by rw [hod] at q; cases q⟩
    show wpAny _ X.A.in1 (tryCatch (holding [u] (call (.ref f) [u])) _ >>= _) _ _ _
    refine wpAny_bind (wpAny_tryCatch (wpAny_holding (wpAny_mono (run_in1 (E := fun _ _ => False) F hr hb I2 (.cons ru .nil) (w2 i vs[i] best H (by simp [hlt]) hw)) (fun kv s3 h3 => ?_) fun _ _ z => z.elim)))
    obtain ⟨kx, H3, I3, rk, q3⟩ := h3
    obtain ⟨t1, t2, t3, t4, t5⟩ := I3.pin (S, { cls := .type "list", data := .seq its.toArray n }) (List.mem_append_right _ (List.mem_append_right _ List.mem_cons_self))
    obtain ⟨j1, j2, j3, j4, j5⟩ := I3.pin (J, oJ') (List.mem_append_right _ (List.mem_append_right _ (List.mem_cons_of_mem _ List.mem_cons_self)))
    have hit3 : s3.heap.IsListIter J a (i + 1) := ⟨oJ', j1, hoc, hod⟩
    have upd1 : ∀ (arr : List Value), ∃ n', Inv X (pins ++ [(S, { cls := .type "list", data := .seq arr.toArray n' }), (J, oJ')]) σ H3 { s3 with heap := s3.heap.update S (Obj.mapSeq fun _ => arr.toArray) } := fun arr => by
      have q := PySem.IsL.update t1 (fun _ => arr.toArray)
      refine ⟨_, I3.recS hS (fun p hpp => ?_) (fun p hpp => (hp p (List.mem_append_left _ hpp)).1) q fun v z => by cases z⟩
      rcases List.mem_append.mp hpp with z | z
      · exact (hp p (List.mem_append_right _ z)).1
      · rw [List.mem_singleton.mp z]; exact Ne.symm hSJ
    have hitU : ∀ arr : List Value, (s3.heap.update S (Obj.mapSeq fun _ => arr.toArray)).IsListIter J a (i + 1) := fun arr => ⟨oJ', (Heap.get?_update_other s3.heap _ hSJ).trans j1, hoc, hod⟩
    cases best with
    | none =>
      cases (show its = [] from hbest)
      obtain ⟨n', I4⟩ := upd1 [u, kv]
      show wpAny _ X.A.in1 (updateSeq S (fun _ => #[u, kv]) >>= _) _ _ _
      refine wpAny_bind (wpAny_updateSeq t1 rfl ?_)
      rw [hname]
      exact wpAny_pure ⟨plainId_quiet PySem.F.plain_min_loop _, ih (i + 1) (some (vs[i], kx)) [u, kv] n' oJ' H3 _ (by omega) hlt ⟨u, kv, rfl, ru, rk⟩ q3 I4 (hitU [u, kv])⟩
    | some b =>
      obtain ⟨bx, bk⟩ := b
      obtain ⟨ub, tb, rfl, rub, rtb⟩ := hbest
      obtain ⟨dk, db, r', tk, tdb, fk, fb, ecmp, wn⟩ := q3
      obtain ⟨as, rdk⟩ := tk.reads I3 rk
      obtain ⟨bs, rdb⟩ := tdb.reads I3 rtb
      show wpAny _ X.A.in1 (tryCatch (holding [u, kv] (richCompare .Lt kv tb >>= _)) _ >>= _) _ _ _
      refine wpAny_bind (wpAny_tryCatch (wpAny_holding (wpAny_bind (rl_reads false dk db X.A.in1 s3 kv tb as bs r' rdk rdb fk.1 fb.1 (by show X.A.units + 1 + dk.depth < cLine; have := fk.2; omega) ecmp X.prog X.w _ _ ?_))))
      refine wpAny_bind (wpAny_holding (wpAny_truthy_bool ?_))
      refine wpAny_bind (wpAny_letGo (wpAny_pure ?_))
      cases r' with
      | true =>
        obtain ⟨n', I4⟩ := upd1 [u, kv]
        simp only [if_true]
        refine wpAny_bind (wpAny_updateSeq t1 rfl (wpAny_bind (wpAny_letGo ?_)))
        rw [hname]
        exact wpAny_pure ⟨plainId_quiet PySem.F.plain_min_loop _, ih (i + 1) (some (vs[i], kx)) [u, kv] n' oJ' H3 _ (by omega) hlt ⟨u, kv, rfl, ru, rk⟩ wn I4 (hitU [u, kv])⟩
      | false =>
        simp only [Bool.false_eq_true, if_false]
        refine wpAny_bind (wpAny_letGo ?_)
        rw [hname]
        exact wpAny_pure ⟨plainId_quiet PySem.F.plain_min_loop _, ih (i + 1) (some (bx, bk)) [ub, tb] n oJ' H3 _ (by omega) hlt ⟨ub, tb, rfl, rub, rtb⟩ (by simpa using wn) I3 hit3⟩
theorem call_minkd {k : Nat} {f : Addr} {fd : FuncData} {ps : List Str} {sp : Sp} {pins : List (Addr × Obj)} {σ : St} {H : Hp} {s : Shared} {E : Value → Shared → Prop} {a : Addr} {vs : List V} {d : V} {ud : Value} {Q : VK} (hc : X.calm = true)
    (F : FnOk X.prog X.w X.K X.mg X.base CX0 k f fd ps sp) (hr : Room (k + 1) X.A) (hb : Binds X.K fd ps []) (I : Inv X pins σ H s) (hq : SqL X.K H a vs) (rd : RelV d ud) (h : MmW false X.K sp a vs d H Q) :
    wpAny (model X.prog X.w) X.A (call (.builtin "min") [.ref a] [(Str.ofString "key", .ref f), (Str.ofString "default", ud)]) (EP X pins σ Q) E s := by
  have hname : (toString "min" ++ toString ".loop" : String) = "min.loop" := by decide
  obtain ⟨W, w0, w1, w2, w3⟩ := h
  obtain ⟨us, rv, pl, hz⟩ := I.list hq
  have ha : a < s.heap.objs.size := let ⟨_, e, _⟩ := pl.isList; Heap.lt_size e
  refine kmk_tree PySem.F.kind_min PySem.F.plain_min PySem.F.entry_min (args_min_kd _ _ _) ?_
  show wpAny _ X.A.in1 (Builtin.Builtins.bindParams "min" ["key", "default"] 0 ⟨[], [(Str.ofString "key", .ref f), (Str.ofString "default", ud)]⟩ >>= _) _ _ s
  refine wpAny_bind (wpAny_of_eq (show Builtin.Builtins.bindParams "min" ["key", "default"] 0 ⟨[], [(Str.ofString "key", .ref f), (Str.ofString "default", ud)]⟩ = pure [some (.ref f), some ud] from rfl) ?_)
  refine wpAny_bind (wpAny_pure ?_)
  refine wpAny_bind (wpAny_pyIter_list pl.isList ?_)
  refine wpAny_bind (wpAny_newList ?_ (Nat.zero_le _))
  rw [hname]
  refine wpAny_pure ⟨plainId_quiet PySem.F.plain_min_loop _, ?_⟩
  generalize hh1 : s.heap.push { cls := .type "list_iterator", data := .fields #[.ref a, .int 0 0] } = h1
  have e1 : h1.objs.size = s.heap.objs.size + 1 := by rw [← hh1, Heap.size_push]
  have I1 : Inv X pins σ H { s with heap := h1.push { cls := .type "list", data := .seq ([] : List Value).toArray } } := I.kept (t' := s.toks) fun b o e => Heap.get?_push_of_some _ (by rw [← hh1]; exact Heap.get?_push_of_some _ e)
  have lo : ∀ b o, s.heap.get? b = some o → b ≠ s.heap.objs.size ∧ b ≠ h1.objs.size := fun b o e => by have := Heap.lt_size e; rw [e1]; exact ⟨Nat.ne_of_lt this, Nat.ne_of_lt (Nat.lt_succ_of_lt this)⟩
  have fJ := I.fpOk (b := s.heap.objs.size) (Nat.le_refl _) (I.hok.fresh (Nat.le_refl _))
  have fS := I.fpOk (b := h1.objs.size) (by rw [e1]; exact Nat.le_succ _) (I.hok.fresh (by rw [e1]; exact Nat.le_succ _))
  have gJ : (h1.push { cls := .type "list", data := .seq ([] : List Value).toArray }).get? s.heap.objs.size = some { cls := .type "list_iterator", data := .fields #[.ref a, .int 0 0] } := Heap.get?_push_of_some _ (by rw [← hh1]; exact Heap.get?_push_size _ rfl)
  have gS : (h1.push { cls := .type "list", data := .seq ([] : List Value).toArray }).get? h1.objs.size = some { cls := .type "list", data := .seq ([] : List Value).toArray } := Heap.get?_push_size _ rfl
  refine min_loop (S := h1.objs.size) (J := s.heap.objs.size) (d := d) hc F hr hb rd (by rw [e1]; exact Nat.le_succ_of_le I.sz) I.sz (by rw [e1]; exact Nat.ne_of_gt (Nat.lt_succ_self _)) (Nat.ne_of_lt ha)
    (fun p hp => let ⟨x, y⟩ := lo _ _ (I.pin p hp).1; ⟨y, x⟩) W w1 w2 w3 _ 0 none [] 0 { cls := .type "list_iterator", data := .fields #[.ref a, .int 0 0] } H _ rfl (Nat.zero_le _) rfl w0 (I1.pins_of fun p hpp => ?_) ⟨_, gJ, rfl, rfl⟩
  rcases List.mem_append.mp hpp with z | z
  · exact I1.pin p (List.mem_append_right _ z)
  · rcases List.mem_cons.mp z with rfl | z
    · exact ⟨gS, fS.1, fS.2.1, fS.2.2.1, fun v z => by cases z⟩
    · rw [List.mem_singleton.mp z]
      exact ⟨gJ, fJ.1, fJ.2.1, fJ.2.2.1, fun v z => by cases z⟩
end
section
variable {X : Cx}
theorem args_max_kd (a v d : Value) : argsOk "max" ⟨[a], [(Str.ofString "key", v), (Str.ofString "default", d)]⟩ := by unfold argsOk; kernel_rfl
theorem max_loop {k : Nat} {f : Addr} {fd : FuncData} {ps : List Str} {sp : Sp} {pins : List (Addr × Obj)} {σ : St} {E : Value → Shared → Prop} {a S J : Addr} {vs : List V} {d : V} {ud : Value} {Q : VK} (hc : X.calm = true)
    (F : FnOk X.prog X.w X.K X.mg X.base CX0 k f fd ps sp) (hr : Room (k + 1) X.A) (hb : Binds X.K fd ps []) (rd : RelV d ud) (hS : X.s₀.heap.objs.size ≤ S) (hJ : X.s₀.heap.objs.size ≤ J) (hSJ : S ≠ J) (haJ : a ≠ J)
    (hp : ∀ p ∈ X.pn ++ pins, p.1 ≠ S ∧ p.1 ≠ J)
    (W : Nat → Option (V × V) → Hp → Prop) (w1 : ∀ i best H, W i best H → SqL X.K H a vs)
    (w2 : ∀ i x best H, vs[i]? = some x → W i best H → sp [x] H (fun kv H1 => match best with
      | none => W (i + 1) (some (x, kv)) H1
      | some (bx, bk) => ∃ dk db r, Tr H1 dk kv ∧ Tr H1 db bk ∧ Flat dk ∧ Flat db ∧ cmpT true dk db = some r ∧ W (i + 1) (if r = true then some (x, kv) else some (bx, bk)) H1) E0)
    (w3 : ∀ best H, W vs.length best H → Q (match best with | some (x, _) => x | none => d) H) :
    ∀ (r i : Nat) (best : Option (V × V)) (its : List Value) (n : Nat) (oJ : Obj) (H : Hp) (s : Shared), vs.length - i = r → i ≤ vs.length → bestA best its → W i best H →
      Inv X (pins ++ [(S, { cls := .type "list", data := .seq its.toArray n }), (J, oJ)]) σ H s → s.heap.IsListIter J a i →
      codeAny (model X.prog X.w) X.A (.builtin "max.loop" ⟨[.ref J, .ref f, .ref S], [(Str.ofString "default", ud)]⟩) (fun r s' => match r with | .ok (.ret v) => EP X pins σ Q v s' | .ok _ => False | .error e => E e s') s := by
  have hname : (toString "max" ++ toString ".loop" : String) = "max.loop" := by decide
  have hu : X.A.units + 100 < cLine := by have := hr.un; omega
  intro r
  induction r with
  | zero =>
    intro i best its n oJ H s hri hi hbest hw I hit
    have e : i = vs.length := by omega
    subst e
    obtain ⟨ps1, ps2, ps3, ps4, ps5⟩ := I.pin (S, { cls := .type "list", data := .seq its.toArray n }) (List.mem_append_right _ (List.mem_append_right _ List.mem_cons_self))
    obtain ⟨pj1, pj2, pj3, pj4, pj5⟩ := I.pin (J, oJ) (List.mem_append_right _ (List.mem_append_right _ (List.mem_cons_of_mem _ List.mem_cons_self)))
    obtain ⟨us, rv, pl, hz⟩ := I.list (w1 _ _ _ hw)
    have hlen := rv.length
    have I0 : Inv X pins σ H s := I.pins_of fun p hp => I.pin p (List.mem_append_right _ (List.mem_append_left _ hp))
    refine codeAny_builtin PySem.F.entry_max_loop ?_
    rw [Around.under_plainId PySem.F.plain_max_loop _]
    show wpAny _ X.A.in1 (seqItems? (.ref S) >>= _) _ _ _
    refine wpAny_bind (wpAny_seqItems ps1 rfl ?_)
    show wpAny _ X.A.in1 (tryCatch (pyNext (.ref J)) _ >>= _) _ _ _
    refine wpAny_bind (wpAny_tryCatch (wpAny_pyNext_list_end (A := X.A.in1) (I.ok.hd hc) hit pl.isList (by simp; omega) fun h' eb => ?_))
    have I1 : Inv X pins σ H { s with heap := h' } := I0.turned (t' := s.toks) (fun b o hb e => eb b o hb e) pj2 pj3 (.inr hJ) (fun x c e z => by
      obtain ⟨v, ob, ho, hdc⟩ := I.cell x c e
      rw [z, pj1] at ho; cases ho; exact pj5 v hdc) (fun p hp' => (hp p hp').2)
    cases best with
    | none =>
      cases (show its = [] from hbest)
      show wpAny _ X.A.in1 (rule _ >>= _) _ _ _
      refine wpAny_bind (wpAny_rule (wpAny_pure ?_))
      exact ⟨d, H, I1, rd, w3 none H hw⟩
    | some b =>
      obtain ⟨bx, bk⟩ := b
      obtain ⟨u, t, rfl, ru, rt⟩ := hbest
      have ps1' := eb S _ hSJ ps1
      show wpAny _ X.A.in1 (updateSeq S (fun _ => #[]) >>= _) _ _ _
      refine wpAny_bind (wpAny_updateSeq ps1' rfl (wpAny_bind (wpAny_letGo (wpAny_pure ?_))))
      refine ⟨bx, H, I1.turned (t' := s.toks) (fun b o hb e => (Heap.get?_update_other h' _ (Ne.symm hb)).trans e) ps2 ps3 (.inr hS) (fun x c e z => ?_) (fun p hp' => (hp p hp').1), ru, w3 (some (bx, bk)) H hw⟩
      obtain ⟨v, ob, ho, hdc⟩ := I.cell x c e
      rw [z, ps1] at ho; cases ho; exact ps5 v hdc
  | succ r ih =>
    intro i best its n oJ H s hri hi hbest hw I hit
    have hlt : i < vs.length := by omega
    obtain ⟨ps1, ps2, ps3, ps4, ps5⟩ := I.pin (S, { cls := .type "list", data := .seq its.toArray n }) (List.mem_append_right _ (List.mem_append_right _ List.mem_cons_self))
    obtain ⟨pj1, pj2, pj3, pj4, pj5⟩ := I.pin (J, oJ) (List.mem_append_right _ (List.mem_append_right _ (List.mem_cons_of_mem _ List.mem_cons_self)))
    obtain ⟨us, rv, pl, hz⟩ := I.list (w1 _ _ _ hw)
    have hlen := rv.length
    obtain ⟨u, hu1, ru⟩ := rv.get (i := i) (x := vs[i]) (by simp [hlt])
    have I0 : Inv X pins σ H s := I.pins_of fun p hp => I.pin p (List.mem_append_right _ (List.mem_append_left _ hp))
    refine codeAny_builtin PySem.F.entry_max_loop ?_
    rw [Around.under_plainId PySem.F.plain_max_loop _]
    show wpAny _ X.A.in1 (seqItems? (.ref S) >>= _) _ _ _
    refine wpAny_bind (wpAny_seqItems ps1 rfl ?_)
    show wpAny _ X.A.in1 (tryCatch (pyNext (.ref J)) _ >>= _) _ _ _
    refine wpAny_bind (wpAny_tryCatch (wpAny_pyNext_list_item (A := X.A.in1) hit pl.isList (x := u) (by simpa using hu1) fun h' hit' sb => ?_))
    have I1 : Inv X pins σ H { s with heap := h' } := I0.turned (t' := s.toks) (fun b o hb e => (sb.2 b hb).trans e) pj2 pj3 (.inr hJ) (fun x c e z => by
      obtain ⟨v, ob, ho, hdc⟩ := I.cell x c e
      rw [z, pj1] at ho; cases ho; exact pj5 v hdc) (fun p hp' => (hp p hp').2)
    obtain ⟨oJ', hoJ', hoc, hod⟩ := id hit'
    have I2 : Inv X (pins ++ [(S, { cls := .type "list", data := .seq its.toArray n }), (J, oJ')]) σ H { s with heap := h' } := I1.pins_of fun p hpp => by
      rcases List.mem_append.mp hpp with z | z
      · exact I1.pin p (List.mem_append_right _ z)
      · rcases List.mem_cons.mp z with rfl | z
        · exact ⟨(sb.2 S hSJ).trans ps1, ps2, ps3, ps4, ps5⟩
        · rw [List.mem_singleton.mp z]
          exact ⟨hoJ', pj2, pj3, pj4, fun v q => by rw [hod] at q; cases q⟩
    show wpAny _ X.A.in1 (tryCatch (holding [u] (call (.ref f) [u])) _ >>= _) _ _ _
    refine wpAny_bind (wpAny_tryCatch (wpAny_holding (wpAny_mono (run_in1 (E := fun _ _ => False) F hr hb I2 (.cons ru .nil) (w2 i vs[i] best H (by simp [hlt]) hw)) (fun kv s3 h3 => ?_) fun _ _ z => z.elim)))
    obtain ⟨kx, H3, I3, rk, q3⟩ := h3
    obtain ⟨t1, t2, t3, t4, t5⟩ := I3.pin (S, { cls := .type "list", data := .seq its.toArray n }) (List.mem_append_right _ (List.mem_append_right _ List.mem_cons_self))
    obtain ⟨j1, j2, j3, j4, j5⟩ := I3.pin (J, oJ') (List.mem_append_right _ (List.mem_append_right _ (List.mem_cons_of_mem _ List.mem_cons_self)))
    have hit3 : s3.heap.IsListIter J a (i + 1) := ⟨oJ', j1, hoc, hod⟩
    have upd1 : ∀ (arr : List Value), ∃ n', Inv X (pins ++ [(S, { cls := .type "list", data := .seq arr.toArray n' }), (J, oJ')]) σ H3 { s3 with heap := s3.heap.update S (Obj.mapSeq fun _ => arr.toArray) } := fun arr => by
      have q := PySem.IsL.update t1 (fun _ => arr.toArray)
      refine ⟨_, I3.recS hS (fun p hpp => ?_) (fun p hpp => (hp p (List.mem_append_left _ hpp)).1) q fun v z => by cases z⟩
      rcases List.mem_append.mp hpp with z | z
      · exact (hp p (List.mem_append_right _ z)).1
      · rw [List.mem_singleton.mp z]; exact Ne.symm hSJ
    have hitU : ∀ arr : List Value, (s3.heap.update S (Obj.mapSeq fun _ => arr.toArray)).IsListIter J a (i + 1) := fun arr => ⟨oJ', (Heap.get?_update_other s3.heap _ hSJ).trans j1, hoc, hod⟩
    cases best with
    | none =>
      cases (show its = [] from hbest)
      obtain ⟨n', I4⟩ := upd1 [u, kv]
      show wpAny _ X.A.in1 (updateSeq S (fun _ => #[u, kv]) >>= _) _ _ _
      refine wpAny_bind (wpAny_updateSeq t1 rfl ?_)
      rw [hname]
      exact wpAny_pure ⟨plainId_quiet PySem.F.plain_max_loop _, ih (i + 1) (some (vs[i], kx)) [u, kv] n' oJ' H3 _ (by omega) hlt ⟨u, kv, rfl, ru, rk⟩ q3 I4 (hitU [u, kv])⟩
    | some b =>
      obtain ⟨bx, bk⟩ := b
      obtain ⟨ub, tb, rfl, rub, rtb⟩ := hbest
      obtain ⟨dk, db, r', tk, tdb, fk, fb, ecmp, wn⟩ := q3
      obtain ⟨as, rdk⟩ := tk.reads I3 rk
      obtain ⟨bs, rdb⟩ := tdb.reads I3 rtb
      show wpAny _ X.A.in1 (tryCatch (holding [u, kv] (richCompare .Gt kv tb >>= _)) _ >>= _) _ _ _
      refine wpAny_bind (wpAny_tryCatch (wpAny_holding (wpAny_bind (rl_reads true dk db X.A.in1 s3 kv tb as bs r' rdk rdb fk.1 fb.1 (by show X.A.units + 1 + dk.depth < cLine; have := fk.2; omega) ecmp X.prog X.w _ _ ?_))))
      refine wpAny_bind (wpAny_holding (wpAny_truthy_bool ?_))
      refine wpAny_bind (wpAny_letGo (wpAny_pure ?_))
      cases r' with
      | true =>
        obtain ⟨n', I4⟩ := upd1 [u, kv]
        simp only [if_true]
        refine wpAny_bind (wpAny_updateSeq t1 rfl (wpAny_bind (wpAny_letGo ?_)))
        rw [hname]
        exact wpAny_pure ⟨plainId_quiet PySem.F.plain_max_loop _, ih (i + 1) (some (vs[i], kx)) [u, kv] n' oJ' H3 _ (by omega) hlt ⟨u, kv, rfl, ru, rk⟩ wn I4 (hitU [u, kv])⟩
      | false =>
        simp only [Bool.false_eq_true, if_false]
        refine wpAny_bind (wpAny_letGo ?_)
        rw [hname]
        exact wpAny_pure ⟨plainId_quiet PySem.F.plain_max_loop _, ih (i + 1) (some (bx, bk)) [ub, tb] n oJ' H3 _ (by omega) hlt ⟨ub, tb, rfl, rub, rtb⟩ (by simpa using wn) I3 hit3⟩
theorem call_maxkd {k : Nat} {f : Addr} {fd : FuncData} {ps : List Str} {sp : Sp} {pins : List (Addr × Obj)} {σ : St} {H : Hp} {s : Shared} {E : Value → Shared → Prop} {a : Addr} {vs : List V} {d : V} {ud : Value} {Q : VK} (hc : X.calm = true)
    (F : FnOk X.prog X.w X.K X.mg X.base CX0 k f fd ps sp) (hr : Room (k + 1) X.A) (hb : Binds X.K fd ps []) (I : Inv X pins σ H s) (hq : SqL X.K H a vs) (rd : RelV d ud) (h : MmW true X.K sp a vs d H Q) :
    wpAny (model X.prog X.w) X.A (call (.builtin "max") [.ref a] [(Str.ofString "key", .ref f), (Str.ofString "default", ud)]) (EP X pins σ Q) E s := by
  have hname : (toString "max" ++ toString ".loop" : String) = "max.loop" := by decide
  obtain ⟨W, w0, w1, w2, w3⟩ := h
  obtain ⟨us, rv, pl, hz⟩ := I.list hq
  have ha : a < s.heap.objs.size := let ⟨_, e, _⟩ := pl.isList; Heap.lt_size e
  refine kmk_tree PySem.F.kind_max PySem.F.plain_max PySem.F.entry_max (args_max_kd _ _ _) ?_
  show wpAny _ X.A.in1 (Builtin.Builtins.bindParams "max" ["key", "default"] 0 ⟨[], [(Str.ofString "key", .ref f), (Str.ofString "default", ud)]⟩ >>= _) _ _ s
  refine wpAny_bind (wpAny_of_eq (show Builtin.Builtins.bindParams "max" ["key", "default"] 0 ⟨[], [(Str.ofString "key", .ref f), (Str.ofString "default", ud)]⟩ = pure [some (.ref f), some ud] from rfl) ?_)
  refine wpAny_bind (wpAny_pure ?_)
  refine wpAny_bind (wpAny_pyIter_list pl.isList ?_)
  refine wpAny_bind (wpAny_newList ?_ (Nat.zero_le _))
  rw [hname]
  refine wpAny_pure ⟨plainId_quiet PySem.F.plain_max_loop _, ?_⟩
  generalize hh1 : s.heap.push { cls := .type "list_iterator", data := .fields #[.ref a, .int 0 0] } = h1
  have e1 : h1.objs.size = s.heap.objs.size + 1 := by rw [← hh1, Heap.size_push]
  have I1 : Inv X pins σ H { s with heap := h1.push { cls := .type "list", data := .seq ([] : List Value).toArray } } := I.kept (t' := s.toks) fun b o e => Heap.get?_push_of_some _ (by rw [← hh1]; exact Heap.get?_push_of_some _ e)
  have lo : ∀ b o, s.heap.get? b = some o → b ≠ s.heap.objs.size ∧ b ≠ h1.objs.size := fun b o e => by have := Heap.lt_size e; rw [e1]; exact ⟨Nat.ne_of_lt this, Nat.ne_of_lt (Nat.lt_succ_of_lt this)⟩
  have fJ := I.fpOk (b := s.heap.objs.size) (Nat.le_refl _) (I.hok.fresh (Nat.le_refl _))
  have fS := I.fpOk (b := h1.objs.size) (by rw [e1]; exact Nat.le_succ _) (I.hok.fresh (by rw [e1]; exact Nat.le_succ _))
  have gJ : (h1.push { cls := .type "list", data := .seq ([] : List Value).toArray }).get? s.heap.objs.size = some { cls := .type "list_iterator", data := .fields #[.ref a, .int 0 0] } := Heap.get?_push_of_some _ (by rw [← hh1]; exact Heap.get?_push_size _ rfl)
  have gS : (h1.push { cls := .type "list", data := .seq ([] : List Value).toArray }).get? h1.objs.size = some { cls := .type "list", data := .seq ([] : List Value).toArray } := Heap.get?_push_size _ rfl
  refine max_loop (S := h1.objs.size) (J := s.heap.objs.size) (d := d) hc F hr hb rd (by rw [e1]; exact Nat.le_succ_of_le I.sz) I.sz (by rw [e1]; exact Nat.ne_of_gt (Nat.lt_succ_self _)) (Nat.ne_of_lt ha)
    (fun p hp => let ⟨x, y⟩ := lo _ _ (I.pin p hp).1; ⟨y, x⟩) W w1 w2 w3 _ 0 none [] 0 { cls := .type "list_iterator", data := .fields #[.ref a, .int 0 0] } H _ rfl (Nat.zero_le _) rfl w0 (I1.pins_of fun p hpp => ?_) ⟨_, gJ, rfl, rfl⟩
  rcases List.mem_append.mp hpp with z | z
  · exact I1.pin p (List.mem_append_right _ z)
  · rcases List.mem_cons.mp z with rfl | z
    · exact ⟨gS, fS.1, fS.2.1, fS.2.2.1, fun v z => by cases z⟩
    · rw [List.mem_singleton.mp z]
      exact ⟨gJ, fJ.1, fJ.2.1, fJ.2.2.1, fun v z => by cases z⟩
end
section
variable {X : Cx} {x : Str} {p pos : Pos} {e : Expr} {t tk : TA} {kws : List Keyword}
def tMM (gt : Bool) (K : PySem.W.Frag) (f : Addr) (sp : Sp) (t tk : TA) : TE := fun σ H Q => t σ H fun vs H1 => tk σ H1 fun zs H2 => ∃ a xs d, vs = [.ref a] ∧ zs = [.ref f, d] ∧ SqL K H2 a xs ∧ MmW gt K sp a xs d H2 Q
theorem pe_minkd {k : Nat} {f : Addr} {fd : FuncData} {ps : List Str} {sp : Sp} (hc : X.calm = true) (F : FnOk X.prog X.w X.K X.mg X.base CX0 k f fd ps sp) (hr : Room (k + 1) X.A) (hb : Binds X.K fd ps []) (hg : Gl X "min") (hm : X.mg "min" = none)
    (ha : PA X [e] t) (hkw : PK X kws tk) (hall : (backToKw pos (keywordEach kws X.env)).all (·.1.isSome) = true := by rfl) (hks : (backToKw pos (keywordEach kws X.env)).filterMap (·.1) = [Str.ofString "key", Str.ofString "default"] := by rfl)
    (he : backTo pos (starEach [e] X.env) = (false, eval e X.env) :: backTo pos (starEach [] X.env) := by rfl) (hpl : (backTo pos (starEach [e] X.env)).any (·.1) = false := by rfl) (hno : (backToKw pos (keywordEach kws X.env)).any (·.1.isNone) = false := by rfl) :
    PE X (.Call (.Name "min" p) [e] kws pos) (tMM false X.K f sp t tk) := by
  intro pins s σ H Q I h
  refine wpAny_Call_Name_kw (ld_blt I hg hm boot_min ?_ (by decide) (by decide))
  refine PyProof.Rows.callWith_kw (thn (ha pos pins s σ H _ I h) fun us s1 ⟨vs, H1, I1, r, q⟩ => ?_) he hpl hall hno
  refine thn (hkw pos pins s1 σ H1 _ I1 q) fun ws s2 ⟨zs, H2, I2, rz, q2⟩ => ?_
  obtain ⟨a, xs, d, rfl, rfl, hq, hw⟩ := q2
  obtain ⟨u, rfl, ru⟩ := vals1 r
  cases (show u = Value.ref a from ru)
  obtain ⟨uf, ud, rfl, rf, rd⟩ := Vals.two rz
  cases (show uf = Value.ref f from rf)
  rw [hks]
  exact call_minkd hc F hr hb I2 hq rd hw
theorem pe_maxkd {k : Nat} {f : Addr} {fd : FuncData} {ps : List Str} {sp : Sp} (hc : X.calm = true) (F : FnOk X.prog X.w X.K X.mg X.base CX0 k f fd ps sp) (hr : Room (k + 1) X.A) (hb : Binds X.K fd ps []) (hg : Gl X "max") (hm : X.mg "max" = none)
    (ha : PA X [e] t) (hkw : PK X kws tk) (hall : (backToKw pos (keywordEach kws X.env)).all (·.1.isSome) = true := by rfl) (hks : (backToKw pos (keywordEach kws X.env)).filterMap (·.1) = [Str.ofString "key", Str.ofString "default"] := by rfl)
    (he : backTo pos (starEach [e] X.env) = (false, eval e X.env) :: backTo pos (starEach [] X.env) := by rfl) (hpl : (backTo pos (starEach [e] X.env)).any (·.1) = false := by rfl) (hno : (backToKw pos (keywordEach kws X.env)).any (·.1.isNone) = false := by rfl) :
    PE X (.Call (.Name "max" p) [e] kws pos) (tMM true X.K f sp t tk) := by
  intro pins s σ H Q I h
  refine wpAny_Call_Name_kw (ld_blt I hg hm boot_max ?_ (by decide) (by decide))
  refine PyProof.Rows.callWith_kw (thn (ha pos pins s σ H _ I h) fun us s1 ⟨vs, H1, I1, r, q⟩ => ?_) he hpl hall hno
  refine thn (hkw pos pins s1 σ H1 _ I1 q) fun ws s2 ⟨zs, H2, I2, rz, q2⟩ => ?_
  obtain ⟨a, xs, d, rfl, rfl, hq, hw⟩ := q2
  obtain ⟨u, rfl, ru⟩ := vals1 r
  cases (show u = Value.ref a from ru)
  obtain ⟨uf, ud, rfl, rf, rd⟩ := Vals.two rz
  cases (show uf = Value.ref f from rf)
  rw [hks]
  exact call_maxkd hc F hr hb I2 hq rd hw
end
end L2
namespace L2
open PySem PySem.Spec PyProof.Rows
def ixF (H : Hp) : V → V → Option V
  | .ref p, .int i => match H p with
    | some (.lst xs) => atI xs i
    | some (.tup xs) => atI xs i
    | _ => none
  | .str z, .int i => if z.length ≤ sizeLine then (atI z.cps.toList i).map fun c => .str ⟨#[c]⟩ else none
  | _, _ => none
def rIxF : R2 := fun x y H Q => ∃ v, ixF H x y = some v ∧ Q v H
def lenF (H : Hp) : V → Option Nat
  | .ref p => match H p with
    | some (.lst xs) => some xs.length
    | some (.tup xs) => some xs.length
    | _ => none
  | .str z => if z.length ≤ sizeLine then some z.length else none
  | _ => none
def rAppF : V → List V → Hp → VK → Prop := fun x vs H Q => ∃ l y xs, x = .ref l ∧ vs = [y] ∧ H l = some (.lst xs) ∧ xs.length < sizeLine ∧ Q .non (upd H l (.lst (xs ++ [y])))
def iSeq (K : PySem.W.Frag) (tl : TE) : TI := fun σ H R => tl σ H fun x H1 => ∃ a, x = .ref a ∧ ((∃ xs, H1 a = some (.lst xs) ∧ R (Itl K a) H1) ∨ (∃ xs, H1 a = some (.tup xs) ∧ R (Itt K a) H1))
section
variable {X : Cx}
theorem ix_F : IxR X rIxF := by
  intro value slice pins s σ H x y v u Q I rx ry h hsl
  obtain ⟨z, e, q⟩ := h
  cases x with
  | ref p =>
    cases y with
    | int i =>
      have e : (match H p with | some (.lst xs) => atI xs i | some (.tup xs) => atI xs i | _ => none) = some z := e
      cases hp : H p with
      | none => rw [hp] at e; cases e
      | some o =>
        rw [hp] at e
        cases o with
        | lst xs => exact ix_list value slice pins s σ H _ _ v u Q I rx ry ⟨p, xs, i, z, rfl, rfl, SqL.of hp, e, q⟩ hsl
        | tup xs => exact ix_tup value slice pins s σ H _ _ v u Q I rx ry ⟨p, xs, i, z, rfl, rfl, SqT.of hp, e, q⟩ hsl
        | _ => cases e
    | _ => cases e
  | str t =>
    cases y with
    | int i =>
      have e : (if t.length ≤ sizeLine then (atI t.cps.toList i).map fun c => V.str ⟨#[c]⟩ else none) = some z := e
      split at e
      · rename_i hz
        cases hc : atI t.cps.toList i with
        | none => rw [hc] at e; cases e
        | some c =>
          rw [hc] at e
          cases e
          exact ix_str value slice pins s σ H _ _ v u Q I rx ry ⟨t, i, c, rfl, rfl, hz, hc, q⟩ hsl
      · cases e
    | _ => cases e
  | _ => cases y <;> cases e
theorem call_lenF : CallR X (.builtin "len") (fun xs H Q => ∃ x n, xs = [x] ∧ lenF H x = some n ∧ Q (.int (n : Nat)) H) := by
  intro pins s σ H xs us Q I r h
  obtain ⟨x, n, rfl, e, q⟩ := h
  refine call_len pins s σ H [x] us Q I r ⟨x, n, rfl, ?_, q⟩
  cases x with
  | ref p =>
    have e : (match H p with | some (.lst xs) => some xs.length | some (.tup xs) => some xs.length | _ => none) = some n := e
    cases hp : H p with
    | none => rw [hp] at e; cases e
    | some o =>
      rw [hp] at e
      cases o with
      | lst xs => cases e; exact .inl ⟨xs, SqL.of hp, rfl⟩
      | tup xs => cases e; exact .inr ⟨xs, SqT.of hp, rfl⟩
      | _ => cases e
  | str z =>
    have e : (if z.length ≤ sizeLine then some z.length else none) = some n := e
    split at e
    · cases e; exact ⟨by assumption, rfl⟩
    · cases e
  | _ => cases e
theorem mt_appF : MtM X "list.append" rAppF := by
  intro pins s σ H x vs v us Q I rx rv h
  obtain ⟨l, y, xs, e1, e2, h1, h2, q⟩ := h
  exact mt_append pins s σ H x vs v us Q I rx rv ⟨l, xs, y, e1, e2, h1, h2, q⟩
theorem pi_seq {tg l : Expr} {tl : TE} (hl : PE X l tl) : PI X tg l (iSeq X.K tl) := by
  intro pins s σ H R I h
  refine thn (hl pins s σ H _ I h) fun v s1 ⟨x, H1, I1, r1, q1⟩ => ?_
  obtain ⟨a, e, q1⟩ := q1
  subst e
  cases r1
  rcases q1 with ⟨xs, hq, q⟩ | ⟨xs, hq, q⟩
  · obtain ⟨its, rv, p, hz⟩ := I1.list (SqL.of hq)
    refine wpAny_pyIter_list p.isList ?_
    refine ⟨s1.heap.objs.size, [s1.heap.objs.size], _, _, H1, rfl, I1.kept (t' := s1.toks) fun b o e => Heap.get?_push_of_some _ e, turn_list a _, ⟨_, Heap.get?_push_size _ rfl, rfl, rfl⟩, fun b hb => ?_, q⟩
    have e : b = s1.heap.objs.size := by simpa using hb
    subst e
    exact I1.fpOk (Nat.le_refl _) (I1.hok.fresh (Nat.le_refl _))
  · obtain ⟨its, rv, p, hz⟩ := I1.tuple (SqT.of hq)
    refine wpAny_pyIter_tuple (show s1.heap.IsTuple a its.toArray from p) ?_
    refine ⟨s1.heap.objs.size, [s1.heap.objs.size], _, _, H1, rfl, I1.kept (t' := s1.toks) fun b o e => Heap.get?_push_of_some _ e, turn_tuple a _, ⟨_, Heap.get?_push_size _ rfl, rfl, rfl⟩, fun b hb => ?_, q⟩
    have e : b = s1.heap.objs.size := by simpa using hb
    subst e
    exact I1.fpOk (Nat.le_refl _) (I1.hok.fresh (Nat.le_refl _))
def subAny (t : String) : List String → Option Bool
  | [] => some false
  | T :: r => match subK t T with
    | some true => some true
    | some false => subAny t r
    | none => none
theorem subAny_kit {K : PySem.W.Frag} {t : String} : ∀ {Ts : List String} {b : Bool}, subAny t Ts = some b → PySem.W.kitAny K (.type t) (Ts.map Value.type) = some b
  | [], b, h => h
  | T :: r, b, h => by
    have h : (match subK t T with | some true => some true | some false => subAny t r | none => none) = some b := h
    show (match PySem.W.kitOne K (.type t) (.type T) with | some true => some true | some false => PySem.W.kitAny K (.type t) (r.map Value.type) | none => none) = some b
    cases e : subK t T with
    | none => rw [e] at h; cases h
    | some k =>
      rw [e] at h
      rw [subK_kit e]
      cases k with
      | true => exact h
      | false => exact subAny_kit h
theorem tys_vals : ∀ {Ts : List String} {us : List Value}, Vals (Ts.map V.ty) us → us = Ts.map Value.type
  | [], _, .nil => rfl
  | T :: r, _, .cons h t => by
    cases (show _ = Value.type T from h)
    rw [tys_vals t]
    rfl
theorem call_isi2 : CallR X (.builtin "isinstance") (fun xs H Q => ∃ x p Ts t b, xs = [x, .ref p] ∧ H p = some (.tup (Ts.map V.ty)) ∧ kindV H x = some t ∧ subAny t Ts = some b ∧ Q (.bl b) H) := by
  intro pins s σ H xs us Q I r h
  obtain ⟨x, p, Ts, t, b, rfl, hp, hk, hs, q⟩ := h
  obtain ⟨u, v, rfl, ru, rv⟩ := Vals.two r
  cases (show v = Value.ref p from rv)
  obtain ⟨z, its, rt, o, ho, hc, n, hd⟩ := I.hok p _ hp
  have ei := tys_vals rt
  subst ei
  obtain ⟨cls, dd, data, sl⟩ := o
  simp only at hc hd
  subst hc hd
  have fin : ∀ tk, EP X pins σ Q (.bool b) { s with toks := tk } := fun tk => ⟨.bl b, H, I.tok _, rfl, q⟩
  have kk := subAny_kit (K := X.K) hs
  cases x with
  | non => cases hk; cases (show u = Value.none from ru); exact PySem.W.kia_tup PySem.W.kitx_none I.kIn True.intro ho kk (fun z => nomatch z) fin
  | bl y => cases hk; cases (show u = Value.bool y from ru); exact PySem.W.kia_tup PySem.W.kitx_bool I.kIn True.intro ho kk (fun z => nomatch z) fin
  | int i => cases hk; obtain ⟨t, q⟩ := (show ∃ t, u = Value.int i t from ru); cases q; exact PySem.W.kia_tup PySem.W.kitx_int I.kIn True.intro ho kk (fun z => nomatch z) fin
  | str y => cases hk; obtain ⟨t, q⟩ := (show ∃ t, u = Value.str y t from ru); cases q; exact PySem.W.kia_tup PySem.W.kitx_str I.kIn True.intro ho kk (fun z => nomatch z) fin
  | ref a =>
    cases (show u = Value.ref a from ru)
    have hk : (match H a with | some (.lst _) => some "list" | some (.tup _) => some "tuple" | some (.dK _) => some "dict" | some (.dT _) => some "dict" | _ => none) = some t := hk
    cases ea : H a with
    | none => rw [ea] at hk; cases hk
    | some oo =>
      rw [ea] at hk
      cases oo with
      | lst xs =>
        cases hk
        obtain ⟨_, _, n, _, h1⟩ := (show ObjOk X.prog X.w H s.heap a (.lst xs) from I.hok a _ ea)
        exact PySem.W.kia_tup PySem.W.kitx_list I.kIn ⟨_, h1, rfl⟩ ho kk (fun z => nomatch z) fin
      | tup xs =>
        cases hk
        obtain ⟨_, _, _, pp⟩ := (show ObjOk X.prog X.w H s.heap a (.tup xs) from I.hok a _ ea)
        obtain ⟨o, h1, h2, _⟩ := pp
        exact PySem.W.kia_tup PySem.W.kitx_tuple I.kIn ⟨o, h1, h2⟩ ho kk (fun z => nomatch z) fin
      | dK kvs =>
        cases hk
        obtain ⟨_, _, vs, _, pp⟩ := (show ObjOk X.prog X.w H s.heap a (.dK kvs) from I.hok a _ ea)
        obtain ⟨o, es, ep, h1, h2, _⟩ := pp
        exact PySem.W.kia_tup PySem.W.kitx_dict I.kIn ⟨o, h1, h2.1⟩ ho kk (fun z => nomatch z) fin
      | dT kvs =>
        cases hk
        obtain ⟨_, _, xs, _, o, es, ep, h1, h2, _⟩ := (show ObjOk X.prog X.w H s.heap a (.dT kvs) from I.hok a _ ea)
        exact PySem.W.kia_tup PySem.W.kitx_dict I.kIn ⟨o, h1, h2.1⟩ ho kk (fun z => nomatch z) fin
      | _ => cases hk
  | byt b => cases hk
  | flt b => cases hk
  | ty n => cases hk
theorem op_le_str : OpR X (compareOp .LtE) (fun x y H Q => ∃ i j, x = .str i ∧ y = .str j ∧ Q (.bl (!decide (j.cps.toList < i.cps.toList))) H) := by
  intro pins s σ H x y v u Q I rx ry h
  obtain ⟨i, j, rfl, rfl, q⟩ := h
  obtain ⟨t, rfl⟩ := rx
  obtain ⟨t', rfl⟩ := ry
  exact PySem.P.le_str (fin_bl I q (by simp))
end
theorem bt_len : bootBuiltins "len" = some (.builtin "len") := by decide +kernel
theorem bt_abs : bootBuiltins "abs" = some (.builtin "abs") := by decide +kernel
theorem bt_isinstance : bootBuiltins "isinstance" = some (.builtin "isinstance") := by decide +kernel
theorem bt_any : bootBuiltins "any" = some (.builtin "any") := by decide +kernel
theorem bt_all : bootBuiltins "all" = some (.builtin "all") := by decide +kernel
theorem bt_sum : bootBuiltins "sum" = some (.builtin "sum") := by decide +kernel
theorem bt_min : bootBuiltins "min" = some (.builtin "min") := by decide +kernel
theorem bt_max : bootBuiltins "max" = some (.builtin "max") := by decide +kernel
theorem bt_ord : bootBuiltins "ord" = some (.builtin "ord") := by decide +kernel
theorem bt_sorted : bootBuiltins "sorted" = some (.builtin "sorted") := by decide +kernel
theorem bt_int : bootBuiltins "int" = some (.type "int") := by decide +kernel
theorem bt_str : bootBuiltins "str" = some (.type "str") := by decide +kernel
theorem bt_bool : bootBuiltins "bool" = some (.type "bool") := by decide +kernel
theorem bt_list : bootBuiltins "list" = some (.type "list") := by decide +kernel
theorem bt_tuple : bootBuiltins "tuple" = some (.type "tuple") := by decide +kernel
theorem bt_dict : bootBuiltins "dict" = some (.type "dict") := by decide +kernel
theorem bt_set : bootBuiltins "set" = some (.type "set") := by decide +kernel
theorem bt_range : bootBuiltins "range" = some (.type "range") := by decide +kernel
theorem lcs_of {X : Cx} {N' : List Str} {idx : List (Option Nat)} {scope : Scope} (h1 : scope.kind = .function) (h2 : (scope.names.all fun y => decide (y.2 ≠ .cell)) = true) (h3 : (scope.names.map (·.1)).Nodup)
    (h4 : (scope.names.all fun y => decide (y.2 ≠ .free) || decide (X.env.kindOf y.1 = some .cell) || decide (X.env.kindOf y.1 = some .free)) = true) (h5 : idx.length = N'.length)
    (h6 : ((idx.zip N').all fun p => match p.1 with | none => true | some i => decide (X.N[i]? = some p.2) && decide (scope.names.lookup p.2 = some .free)) = true) : LcScope X N' idx scope where
  kind := h1
  cell := fun y hy => of_decide_eq_true (List.all_eq_true.mp h2 y hy)
  nod := h3
  free := fun y hy hf => by
    have h := List.all_eq_true.mp h4 y hy
    simp only [Bool.or_eq_true, decide_eq_true_eq] at h
    rcases h with (h | h) | h
    · exact absurd hf h
    · exact .inl h
    · exact .inr h
  len := h5
  at' := fun j i x e1 e2 => by
    have hz : (some i, x) ∈ idx.zip N' := by
      have : (idx.zip N')[j]? = some (some i, x) := by simp [List.getElem?_zip_eq_some, e1, e2]
      exact List.mem_of_getElem? this
    have h := List.all_eq_true.mp h6 _ hz
    simp only [Bool.and_eq_true, decide_eq_true_eq] at h
    exact h
end L2
namespace L2
open PySem PySem.Spec PyProof.Rows
def constV : Expr → Option V
  | .Constant (.int i) _ _ => some (.int i)
  | .Constant (.str x) _ _ => some (.str x)
  | .Constant (.bool b) _ _ => some (.bl b)
  | .Constant .none _ _ => some .non
  | _ => none
def constVs : List Expr → Option (List V)
  | [] => some []
  | e :: es => match constV e, constVs es with
    | some v, some vs => some (v :: vs)
    | _, _ => none
def tK (vs : List V) : TA := fun _ H Q => Q vs H
theorem pe_const {X : Cx} {e : Expr} {v : V} (h : constV e = some v) : PE X e (tC v) ∧ ∀ es, starEach (e :: es) X.env = (false, eval e X.env) :: starEach es X.env := by
  unfold constV at h
  split at h <;> first
    | (cases h; exact ⟨pe_int, fun _ => rfl⟩)
    | (cases h; exact ⟨pe_str, fun _ => rfl⟩)
    | (cases h; exact ⟨pe_bl, fun _ => rfl⟩)
    | (cases h; exact ⟨pe_non, fun _ => rfl⟩)
    | cases h
theorem pa_consts {X : Cx} : ∀ {es : List Expr} {vs : List V}, constVs es = some vs → PA X es (tK vs)
  | [], vs, h => by cases h; exact pa_nil
  | e :: es, vs, h => by
    have h : (match constV e, constVs es with | some v, some vs => some (v :: vs) | _, _ => none) = some vs := h
    cases e1 : constV e with
    | none => rw [e1] at h; cases h
    | some v =>
      cases e2 : constVs es with
      | none => rw [e1, e2] at h; cases h
      | some r =>
        rw [e1, e2] at h
        cases h
        obtain ⟨p1, p2⟩ := pe_const (X := X) e1
        exact pa_cons p1 (pa_consts e2) (p2 es)
end L2
namespace L2
open PySem PySem.Spec PyProof.Rows
def isStar : Expr → Bool
  | .Starred .. => true
  | _ => false
def noStar : List Expr → Bool
  | [] => true
  | e :: es => !isStar e && noStar es
theorem star_of {e : Expr} {es : List Expr} {env : Env} (h : isStar e = false) : starEach (e :: es) env = (false, eval e env) :: starEach es env := by
  cases e <;> first | rfl | cases h
theorem noStar_any {pos : Pos} {env : Env} : ∀ {es : List Expr}, noStar es = true → (backTo pos (starEach es env)).any (·.1) = false
  | [], _ => rfl
  | e :: es, h => by
    obtain ⟨h1, h2⟩ := Bool.and_eq_true_iff.mp h
    rw [star_of (by simpa using h1)]
    show (false || (backTo pos (starEach es env)).any (·.1)) = false
    rw [noStar_any h2]
    rfl
theorem noStar_head {e : Expr} {es : List Expr} (h : noStar (e :: es) = true) : isStar e = false ∧ noStar es = true := by
  obtain ⟨h1, h2⟩ := Bool.and_eq_true_iff.mp h
  exact ⟨by simpa using h1, h2⟩
section
variable {X : Cx} {CX : CXT} {k : Nat} {f : Addr} {fd : FuncData} {ps : List Str} {sp : Sp} {dvs : List V} {ds : List Value} {E : XK} {x : Str} {p pos : Pos} {e : Expr} {es : List Expr} {te : TE} {t : TA} {id T : String} {r : List V → Hp → VK → Prop}
theorem pa_c (ha : PE X e te) (hr : PA X es t) (hs : isStar e = false := by rfl) : PA X (e :: es) (tCons te t) := pa_cons ha hr (star_of hs)
theorem pe_callU (F : FnOk X.prog X.w X.K X.mg X.base CX k f fd ps sp) (hr : Room k X.A) (hg : Gl X x) (hm : X.mg x = some (.ref f)) (hk : PySem.W.keepIn X.K (.ref f) = true) (hb : Binds X.K fd ps ds) (hd : Vals dvs ds) (hx : Passes CX X E)
    (ha : PA X (e :: es) t) (hdb : (x == ("__debug__" : Str)) = false := by decide) (hn : noStar (e :: es) = true := by rfl) : PE X (.Call (.Name x p) (e :: es) [] pos) (tCall sp dvs E t) :=
  pe_call F hr hg hm hk hb hd hx ha hdb (star_of (noStar_head hn).1) (noStar_any (noStar_head hn).2)
theorem pe_callBU (hc : CallR X (.builtin id) r) (hg : Gl X x) (hm : X.mg x = none) (hv : bootBuiltins x = some (.builtin id)) (ha : PA X (e :: es) t) (hn : x ≠ "__name__" := by decide) (hdb : (x == ("__debug__" : Str)) = false := by decide)
    (hns : noStar (e :: es) = true := by rfl) : PE X (.Call (.Name x p) (e :: es) [] pos) (tCB r t) := pe_callB hc hg hm hv ha hn hdb (star_of (noStar_head hns).1) (noStar_any (noStar_head hns).2)
theorem pe_callTyU (hc : CallR X (.type T) r) (hg : Gl X x) (hm : X.mg x = none) (hv : bootBuiltins x = some (.type T)) (ha : PA X (e :: es) t) (hn : x ≠ "__name__" := by decide) (hdb : (x == ("__debug__" : Str)) = false := by decide)
    (hns : noStar (e :: es) = true := by rfl) : PE X (.Call (.Name x p) (e :: es) [] pos) (tCB r t) := pe_callTy hc hg hm hv ha hn hdb (star_of (noStar_head hns).1) (noStar_any (noStar_head hns).2)
end
end L2
namespace L2
open PySem PySem.Spec PyProof.Rows
section
variable {X : Cx} {a b e : Expr} {es : List Expr} {ta tb te : TE} {t : TA} {p pos apos cpos : Pos} {p2 : Pos}
theorem plain_call {f : Expr} {args : List Expr} {kws : List Keyword} {pos : Pos} : PlainIx (.Call f args kws pos) := fun _ _ => rfl
theorem plain_name {x : Str} {pos : Pos} : PlainIx (.Name x pos) := fun _ _ => rfl
theorem plain_int {i : Int} {j} {pos : Pos} : PlainIx (.Constant (.int i) j pos) := fun _ _ => rfl
theorem plain_bin {a b : Expr} {op} {pos : Pos} : PlainIx (.BinOp a op b pos) := fun _ _ => rfl
theorem plain_sub {a b : Expr} {pos : Pos} : PlainIx (.Subscript a b pos) := fun _ _ => rfl
theorem plain_un {a : Expr} {op} {pos : Pos} : PlainIx (.UnaryOp op a pos) := fun _ _ => rfl
theorem pe_op_add (ha : PE X a ta) (hb : PE X b tb) : PE X (.BinOp a .Add b pos) (tOp (rI0 fun i j => .int (i + j)) ta tb) := pe_op op_add ha hb
theorem pe_op_sub (ha : PE X a ta) (hb : PE X b tb) : PE X (.BinOp a .Sub b pos) (tOp (rI0 fun i j => .int (i - j)) ta tb) := pe_op op_sub ha hb
theorem pe_op_mul (ha : PE X a ta) (hb : PE X b tb) : PE X (.BinOp a .Mult b pos) (tOp (rI CMul fun i j => .int (i * j)) ta tb) := pe_op op_mul ha hb
theorem pe_op_fdiv (ha : PE X a ta) (hb : PE X b tb) : PE X (.BinOp a .FloorDiv b pos) (tOp (rI CDiv fun i j => .int (i / j)) ta tb) := pe_op op_fdiv ha hb
theorem pe_op_mod (ha : PE X a ta) (hb : PE X b tb) : PE X (.BinOp a .Mod b pos) (tOp (rI (fun _ j => 0 < j) fun i j => .int (i % j)) ta tb) := pe_op op_mod ha hb
theorem pe_op_pow (ha : PE X a ta) (hb : PE X b tb) : PE X (.BinOp a .Pow b pos) (tOp (rI CPow fun i j => .int (i ^ j.toNat)) ta tb) := pe_op op_pow ha hb
theorem pe_op_cat (ha : PE X a ta) (hb : PE X b tb) : PE X (.BinOp a .Add b pos) (tOp (rCat) ta tb) := pe_op op_cat ha hb
theorem pe_op_catT (ha : PE X a ta) (hb : PE X b tb) : PE X (.BinOp a .Add b pos) (tOp (rCatT X.K) ta tb) := pe_op op_catT ha hb
theorem pe_op_rep (ha : PE X a ta) (hb : PE X b tb) : PE X (.BinOp a .Mult b pos) (tOp (rRep) ta tb) := pe_op op_rep ha hb
theorem pe_op_add_str (ha : PE X a ta) (hb : PE X b tb) : PE X (.BinOp a .Add b pos) (tOp (fun x y H Q => ∃ i j, x = .str i ∧ y = .str j ∧ i.length + j.length ≤ sizeLine ∧ Q (.str (i ++ j)) H) ta tb) := pe_op op_add_str ha hb
def rEqD : R2 := fun x y H Q => ∃ da db, Tr H da x ∧ Tr H db y ∧ Flat da ∧ Flat db ∧ Q (.bl (PyData.eqv da db)) H
def rNeD : R2 := fun x y H Q => ∃ da db, Tr H da x ∧ Tr H db y ∧ Flat da ∧ Flat db ∧ Q (.bl (!PyData.eqv da db)) H
def rLtD : R2 := fun x y H Q => ∃ da db r, Tr H da x ∧ Tr H db y ∧ Flat da ∧ Flat db ∧ cmpT false da db = some r ∧ Q (.bl r) H
theorem pe_op_eq (ha : PE X a ta) (hb : PE X b tb) : PE X (.Compare a [.Eq] [b] pos) (tOp (rEq) ta tb) := pe_cmpR (op_eq) ha hb (nomark _)
theorem pt_op_eq (ha : PE X a ta) (hb : PE X b tb) : PT X (.Compare a [.Eq] [b] pos) (tTest (tOp (rEq) ta tb)) := pt_cmpR (op_eq) ha hb (nomark _)
theorem pe_op_ne (ha : PE X a ta) (hb : PE X b tb) : PE X (.Compare a [.NotEq] [b] pos) (tOp (rNe) ta tb) := pe_cmpR (op_ne) ha hb (nomark _)
theorem pt_op_ne (ha : PE X a ta) (hb : PE X b tb) : PT X (.Compare a [.NotEq] [b] pos) (tTest (tOp (rNe) ta tb)) := pt_cmpR (op_ne) ha hb (nomark _)
theorem pe_op_lt (ha : PE X a ta) (hb : PE X b tb) : PE X (.Compare a [.Lt] [b] pos) (tOp (rI0 fun i j => .bl (decide (i < j))) ta tb) := pe_cmpR (op_lt) ha hb (nomark _)
theorem pt_op_lt (ha : PE X a ta) (hb : PE X b tb) : PT X (.Compare a [.Lt] [b] pos) (tTest (tOp (rI0 fun i j => .bl (decide (i < j))) ta tb)) := pt_cmpR (op_lt) ha hb (nomark _)
theorem pe_op_le (ha : PE X a ta) (hb : PE X b tb) : PE X (.Compare a [.LtE] [b] pos) (tOp (rI0 fun i j => .bl (decide (i ≤ j))) ta tb) := pe_cmpR (op_le) ha hb (nomark _)
theorem pt_op_le (ha : PE X a ta) (hb : PE X b tb) : PT X (.Compare a [.LtE] [b] pos) (tTest (tOp (rI0 fun i j => .bl (decide (i ≤ j))) ta tb)) := pt_cmpR (op_le) ha hb (nomark _)
theorem pe_op_gt (ha : PE X a ta) (hb : PE X b tb) : PE X (.Compare a [.Gt] [b] pos) (tOp (rI0 fun i j => .bl (decide (j < i))) ta tb) := pe_cmpR (op_gt) ha hb (nomark _)
theorem pt_op_gt (ha : PE X a ta) (hb : PE X b tb) : PT X (.Compare a [.Gt] [b] pos) (tTest (tOp (rI0 fun i j => .bl (decide (j < i))) ta tb)) := pt_cmpR (op_gt) ha hb (nomark _)
theorem pe_op_ge (ha : PE X a ta) (hb : PE X b tb) : PE X (.Compare a [.GtE] [b] pos) (tOp (rI0 fun i j => .bl (decide (j ≤ i))) ta tb) := pe_cmpR (op_ge) ha hb (nomark _)
theorem pt_op_ge (ha : PE X a ta) (hb : PE X b tb) : PT X (.Compare a [.GtE] [b] pos) (tTest (tOp (rI0 fun i j => .bl (decide (j ≤ i))) ta tb)) := pt_cmpR (op_ge) ha hb (nomark _)
theorem pe_op_isN (ha : PE X a ta) (hb : PE X b tb) : PE X (.Compare a [.Is] [b] pos) (tOp (fun x y H Q => y = .non ∧ Q (.bl (decide (x = .non))) H) ta tb) := pe_cmpR (op_isN) ha hb (nomark _)
theorem pt_op_isN (ha : PE X a ta) (hb : PE X b tb) : PT X (.Compare a [.Is] [b] pos) (tTest (tOp (fun x y H Q => y = .non ∧ Q (.bl (decide (x = .non))) H) ta tb)) := pt_cmpR (op_isN) ha hb (nomark _)
theorem pe_op_notN (ha : PE X a ta) (hb : PE X b tb) : PE X (.Compare a [.IsNot] [b] pos) (tOp (fun x y H Q => y = .non ∧ Q (.bl (!decide (x = .non))) H) ta tb) := pe_cmpR (op_notN) ha hb (nomark _)
theorem pt_op_notN (ha : PE X a ta) (hb : PE X b tb) : PT X (.Compare a [.IsNot] [b] pos) (tTest (tOp (fun x y H Q => y = .non ∧ Q (.bl (!decide (x = .non))) H) ta tb)) := pt_cmpR (op_notN) ha hb (nomark _)
theorem pe_op_eqD (hu : X.A.units + 64 < cLine) (ha : PE X a ta) (hb : PE X b tb) : PE X (.Compare a [.Eq] [b] pos) (tOp (rEqD) ta tb) := pe_cmpR (op_eqD hu) ha hb (nomark _)
theorem pt_op_eqD (hu : X.A.units + 64 < cLine) (ha : PE X a ta) (hb : PE X b tb) : PT X (.Compare a [.Eq] [b] pos) (tTest (tOp (rEqD) ta tb)) := pt_cmpR (op_eqD hu) ha hb (nomark _)
theorem pe_op_neD (hu : X.A.units + 64 < cLine) (ha : PE X a ta) (hb : PE X b tb) : PE X (.Compare a [.NotEq] [b] pos) (tOp (rNeD) ta tb) := pe_cmpR (op_neD hu) ha hb (nomark _)
theorem pt_op_neD (hu : X.A.units + 64 < cLine) (ha : PE X a ta) (hb : PE X b tb) : PT X (.Compare a [.NotEq] [b] pos) (tTest (tOp (rNeD) ta tb)) := pt_cmpR (op_neD hu) ha hb (nomark _)
theorem pe_op_ltD (hu : X.A.units + 64 < cLine) (ha : PE X a ta) (hb : PE X b tb) : PE X (.Compare a [.Lt] [b] pos) (tOp (rLtD) ta tb) := pe_cmpR (op_ltD hu) ha hb (nomark _)
theorem pt_op_ltD (hu : X.A.units + 64 < cLine) (ha : PE X a ta) (hb : PE X b tb) : PT X (.Compare a [.Lt] [b] pos) (tTest (tOp (rLtD) ta tb)) := pt_cmpR (op_ltD hu) ha hb (nomark _)
theorem pe_op_le_str (ha : PE X a ta) (hb : PE X b tb) : PE X (.Compare a [.LtE] [b] pos) (tOp (fun x y H Q => ∃ i j, x = .str i ∧ y = .str j ∧ Q (.bl (!decide (j.cps.toList < i.cps.toList))) H) ta tb) := pe_cmpR (op_le_str) ha hb (nomark _)
theorem pt_op_le_str (ha : PE X a ta) (hb : PE X b tb) : PT X (.Compare a [.LtE] [b] pos) (tTest (tOp (fun x y H Q => ∃ i j, x = .str i ∧ y = .str j ∧ Q (.bl (!decide (j.cps.toList < i.cps.toList))) H) ta tb)) := pt_cmpR (op_le_str) ha hb (nomark _)
theorem pe_op_in_seq (ha : PE X a ta) (hb : PE X b tb) (hm : behindInMarks .In b = false) : PE X (.Compare a [.In] [b] pos) (tOp (rIn X.K false) ta tb) := pe_cmpR op_in_seq ha hb hm
theorem pt_op_in_seq (ha : PE X a ta) (hb : PE X b tb) (hm : behindInMarks .In b = false) : PT X (.Compare a [.In] [b] pos) (tTest (tOp (rIn X.K false) ta tb)) := pt_cmpR op_in_seq ha hb hm
theorem pe_op_notIn_seq (ha : PE X a ta) (hb : PE X b tb) (hm : behindInMarks .NotIn b = false) : PE X (.Compare a [.NotIn] [b] pos) (tOp (rIn X.K true) ta tb) := pe_cmpR op_notIn_seq ha hb hm
theorem pt_op_notIn_seq (ha : PE X a ta) (hb : PE X b tb) (hm : behindInMarks .NotIn b = false) : PT X (.Compare a [.NotIn] [b] pos) (tTest (tOp (rIn X.K true) ta tb)) := pt_cmpR op_notIn_seq ha hb hm
theorem pe_ixF (ha : PE X a ta) (hb : PE X b tb) (hs : PlainIx b) : PE X (.Subscript a b pos) (tOp rIxF ta tb) := pe_ix ix_F ha hb hs
theorem pe_neg (ha : PE X a ta) : PE X (.UnaryOp .USub a pos) (tUn (rU fun i => .int (-i)) ta) := pe_un un_neg ha
def r_call_lenF (K : PySem.W.Frag) : List V → Hp → VK → Prop := fun xs H Q => ∃ x n, xs = [x] ∧ lenF H x = some n ∧ Q (.int (n : Nat)) H
theorem pe_call_lenF (hgl : Gl X "len") (hm : X.mg "len" = none) (ha : PA X (e :: es) t) (hns : noStar (e :: es) = true := by rfl) : PE X (.Call (.Name "len" p) (e :: es) [] pos) (tCB (r_call_lenF X.K) t) := pe_callBU (call_lenF) hgl hm bt_len ha (by decide) (by decide) hns
def r_call_len (K : PySem.W.Frag) : List V → Hp → VK → Prop := fun xs H Q => ∃ x n, xs = [x] ∧ LenV K x H n ∧ Q (.int n) H
theorem pe_call_len (hgl : Gl X "len") (hm : X.mg "len" = none) (ha : PA X (e :: es) t) (hns : noStar (e :: es) = true := by rfl) : PE X (.Call (.Name "len" p) (e :: es) [] pos) (tCB (r_call_len X.K) t) := pe_callBU (call_len) hgl hm bt_len ha (by decide) (by decide) hns
def r_call_abs (K : PySem.W.Frag) : List V → Hp → VK → Prop := fun xs H Q => ∃ i, xs = [.int i] ∧ Q (.int (if i < 0 then -i else i)) H
theorem pe_call_abs (hgl : Gl X "abs") (hm : X.mg "abs" = none) (ha : PA X (e :: es) t) (hns : noStar (e :: es) = true := by rfl) : PE X (.Call (.Name "abs" p) (e :: es) [] pos) (tCB (r_call_abs X.K) t) := pe_callBU (call_abs) hgl hm bt_abs ha (by decide) (by decide) hns
def r_call_isi (K : PySem.W.Frag) : List V → Hp → VK → Prop := fun xs H Q => ∃ x T t b, xs = [x, .ty T] ∧ kindV H x = some t ∧ subK t T = some b ∧ Q (.bl b) H
theorem pe_call_isi (hgl : Gl X "isinstance") (hm : X.mg "isinstance" = none) (ha : PA X (e :: es) t) (hns : noStar (e :: es) = true := by rfl) : PE X (.Call (.Name "isinstance" p) (e :: es) [] pos) (tCB (r_call_isi X.K) t) := pe_callBU (call_isi) hgl hm bt_isinstance ha (by decide) (by decide) hns
def r_call_isi2 (K : PySem.W.Frag) : List V → Hp → VK → Prop := fun xs H Q => ∃ x p Ts t b, xs = [x, .ref p] ∧ H p = some (.tup (Ts.map V.ty)) ∧ kindV H x = some t ∧ subAny t Ts = some b ∧ Q (.bl b) H
theorem pe_call_isi2 (hgl : Gl X "isinstance") (hm : X.mg "isinstance" = none) (ha : PA X (e :: es) t) (hns : noStar (e :: es) = true := by rfl) : PE X (.Call (.Name "isinstance" p) (e :: es) [] pos) (tCB (r_call_isi2 X.K) t) := pe_callBU (call_isi2) hgl hm bt_isinstance ha (by decide) (by decide) hns
def r_call_anyL (K : PySem.W.Frag) : List V → Hp → VK → Prop := fun xs H Q => ∃ (a : Addr) (bs : List Bool), xs = [.ref a] ∧ SqL K H a (bs.map V.bl) ∧ Q (.bl (bs.any id)) H
theorem pe_call_anyL (hc : X.calm = true) (hgl : Gl X "any") (hm : X.mg "any" = none) (ha : PA X (e :: es) t) (hns : noStar (e :: es) = true := by rfl) : PE X (.Call (.Name "any" p) (e :: es) [] pos) (tCB (r_call_anyL X.K) t) := pe_callBU (call_anyL hc) hgl hm bt_any ha (by decide) (by decide) hns
def r_call_allL (K : PySem.W.Frag) : List V → Hp → VK → Prop := fun xs H Q => ∃ (a : Addr) (bs : List Bool), xs = [.ref a] ∧ SqL K H a (bs.map V.bl) ∧ Q (.bl (bs.all id)) H
theorem pe_call_allL (hc : X.calm = true) (hgl : Gl X "all") (hm : X.mg "all" = none) (ha : PA X (e :: es) t) (hns : noStar (e :: es) = true := by rfl) : PE X (.Call (.Name "all" p) (e :: es) [] pos) (tCB (r_call_allL X.K) t) := pe_callBU (call_allL hc) hgl hm bt_all ha (by decide) (by decide) hns
def r_call_sumL (K : PySem.W.Frag) : List V → Hp → VK → Prop := fun xs H Q => ∃ (a : Addr) (ns : List Int), xs = [.ref a] ∧ SqL K H a (ns.map V.int) ∧ Q (.int ns.sum) H
theorem pe_call_sumL (hc : X.calm = true) (hgl : Gl X "sum") (hm : X.mg "sum" = none) (ha : PA X (e :: es) t) (hns : noStar (e :: es) = true := by rfl) : PE X (.Call (.Name "sum" p) (e :: es) [] pos) (tCB (r_call_sumL X.K) t) := pe_callBU (call_sumL hc) hgl hm bt_sum ha (by decide) (by decide) hns
def r_call_int1 (K : PySem.W.Frag) : List V → Hp → VK → Prop := fun xs H Q => (∃ i, xs = [.int i] ∧ Q (.int i) H) ∨ ∃ k, xs = [.bl k] ∧ Q (.int (if k then 1 else 0)) H
theorem pe_call_int1 (hgl : Gl X "int") (hm : X.mg "int" = none) (ha : PA X (e :: es) t) (hns : noStar (e :: es) = true := by rfl) : PE X (.Call (.Name "int" p) (e :: es) [] pos) (tCB (r_call_int1 X.K) t) := pe_callTyU (call_int1) hgl hm bt_int ha (by decide) (by decide) hns
def r_call_str_int (K : PySem.W.Frag) : List V → Hp → VK → Prop := fun xs H Q => ∃ i : Int, xs = [.int i] ∧ i.natAbs.log2 < 1920 ∧ Q (.str (toString i)) H
theorem pe_call_str_int (hgl : Gl X "str") (hm : X.mg "str" = none) (ha : PA X (e :: es) t) (hns : noStar (e :: es) = true := by rfl) : PE X (.Call (.Name "str" p) (e :: es) [] pos) (tCB (r_call_str_int X.K) t) := pe_callTyU (call_str_int) hgl hm bt_str ha (by decide) (by decide) hns
def r_call_strD (K : PySem.W.Frag) : List V → Hp → VK → Prop := fun xs H Q => ∃ a d, xs = [.ref a] ∧ Tr H d (.ref a) ∧ d.showable = true ∧ d.hasDict = false ∧ d.depth ≤ 40 ∧ d.shown.length ≤ sizeLine ∧ Q (.str d.shown) H
theorem pe_call_strD (hu : X.A.units + 64 < cLine) (hg : X.A.guards = some []) (hgl : Gl X "str") (hm : X.mg "str" = none) (ha : PA X (e :: es) t) (hns : noStar (e :: es) = true := by rfl) : PE X (.Call (.Name "str" p) (e :: es) [] pos) (tCB (r_call_strD X.K) t) := pe_callTyU (call_strD hu hg) hgl hm bt_str ha (by decide) (by decide) hns
def r_call_tuple_of (K : PySem.W.Frag) : List V → Hp → VK → Prop := fun xs H Q => ∃ p ys, xs = [.ref p] ∧ ((SqL K H p ys ∧ ∀ l, H l = none → Q (.ref l) (upd H l (.tup ys))) ∨ (SqT K H p ys ∧ Q (.ref p) H))
theorem pe_call_tuple_of (hgl : Gl X "tuple") (hm : X.mg "tuple" = none) (ha : PA X (e :: es) t) (hns : noStar (e :: es) = true := by rfl) : PE X (.Call (.Name "tuple" p) (e :: es) [] pos) (tCB (r_call_tuple_of X.K) t) := pe_callTyU (call_tuple_of) hgl hm bt_tuple ha (by decide) (by decide) hns
def r_call_list_of (K : PySem.W.Frag) : List V → Hp → VK → Prop := fun xs H Q => ∃ p ys, xs = [.ref p] ∧ (SqL K H p ys ∨ SqT K H p ys) ∧ ∀ l, H l = none → Q (.ref l) (upd H l (.lst ys))
theorem pe_call_list_of (hgl : Gl X "list") (hm : X.mg "list" = none) (ha : PA X (e :: es) t) (hns : noStar (e :: es) = true := by rfl) : PE X (.Call (.Name "list" p) (e :: es) [] pos) (tCB (r_call_list_of X.K) t) := pe_callTyU (call_list_of) hgl hm bt_list ha (by decide) (by decide) hns
def r_call_min2 (K : PySem.W.Frag) : List V → Hp → VK → Prop := fun xs H Q => ∃ i j, xs = [.int i, .int j] ∧ Q (.int (if j < i then j else i)) H
theorem pe_call_min2 (hc : X.calm = true) (hgl : Gl X "min") (hm : X.mg "min" = none) (ha : PA X (e :: es) t) (hns : noStar (e :: es) = true := by rfl) : PE X (.Call (.Name "min" p) (e :: es) [] pos) (tCB (r_call_min2 X.K) t) := pe_callBU (call_min2 hc) hgl hm bt_min ha (by decide) (by decide) hns
def r_call_ord (K : PySem.W.Frag) : List V → Hp → VK → Prop := fun xs H Q => ∃ x, xs = [.str x] ∧ x.length = 1 ∧ Q (.int (x.cps.getD 0 0 : Nat)) H
theorem pe_call_ord (hgl : Gl X "ord") (hm : X.mg "ord" = none) (ha : PA X (e :: es) t) (hns : noStar (e :: es) = true := by rfl) : PE X (.Call (.Name "ord" p) (e :: es) [] pos) (tCB (r_call_ord X.K) t) := pe_callBU (call_ord) hgl hm bt_ord ha (by decide) (by decide) hns
theorem pe_append (ho : PE X a ta) (hv : PE X e te) (hbase : attributeBase a "append" X.env (eval a X.env) = eval a X.env := by rfl)
    (hfew : ((backTo cpos (starEach [e] X.env)).all (fun x => !x.1) && (backToKw cpos (keywordEach [] X.env)).all (fun x => x.1.isSome)
      && decide ([e].length + ([] : List Keyword).length + (if ([] : List Keyword).isEmpty then 0 else 1) < 30)) = true := by rfl)
    (hline : (apos.endLine == cpos.line) = true := by rfl) (hns : isStar e = false := by rfl) :
    PE X (.Call (.Attribute a "append" apos) [e] [] cpos) (tBM X.K "list" rAppF ta (tCons te tNil)) :=
  pe_bm PySem.F.plainAttrs_list PySem.F.slot_list_append PySem.F.type_list_append mt_appF ho (pa_c hv pa_nil hns) hbase hfew hline (star_of hns) rfl
theorem tyV_list {K : PySem.W.Frag} {H : Hp} {l : Addr} {xs : List V} (h : H l = some (.lst xs)) : tyV K "list" (.ref l) H := .inl ⟨rfl, _, SqL.of h⟩
end
end L2
namespace L2
open PySem PySem.Spec PyProof.Rows
def memB {α : Type} [DecidableEq α] (ks : List α) (k : α) : Bool := ks.any fun x => decide (x = k)
theorem memB_iff {α : Type} [DecidableEq α] {ks : List α} {k : α} : memB ks k = true ↔ k ∈ ks := by simp [memB]
theorem memB_snoc {α : Type} [DecidableEq α] {ks : List α} {k k' : α} : memB (ks ++ [k]) k' = (memB ks k' || decide (k' = k)) := by
  unfold memB
  rw [List.any_append]
  by_cases e : k = k'
  · subst e; simp
  · have : ¬ k' = k := fun h => e h.symm
    simp [e, this]
def dstep {α : Type} [DecidableEq α] (acc : List α) (x : α) : List α := if memB acc x = true then acc else acc ++ [x]
def dst {α : Type} [DecidableEq α] (xs : List α) : List α := xs.foldl dstep []
theorem dst_snoc {α : Type} [DecidableEq α] (xs : List α) (x : α) : dst (xs ++ [x]) = dstep (dst xs) x := by
  unfold dst; rw [List.foldl_append]; rfl
theorem dst_len {α : Type} [DecidableEq α] : ∀ (n : Nat) (xs : List α), xs.length = n → (dst xs).length ≤ n
  | 0, xs, h => by cases xs with | nil => exact Nat.le_refl _ | cons a r => cases h
  | n + 1, xs, h => by
    rcases List.eq_nil_or_concat xs with rfl | ⟨ys, y, rfl⟩
    · cases h
    · rw [List.concat_eq_append] at h ⊢
      have hy : ys.length = n := by simpa using h
      have ih := dst_len n ys hy
      rw [dst_snoc]; unfold dstep; split
      · omega
      · simp; omega
def keyV : V → Option Key
  | .int i => some (.inl i)
  | .str x => some (.inr x)
  | _ => none
theorem keyV_is {v : V} {k : Key} {u : Value} (h : keyV v = some k) (r : RelV v u) : keyIs k u = true ∧ u.scannable = true := by
  cases v with
  | int i => cases h; obtain ⟨t, rfl⟩ := r; exact ⟨keyIs_int i t, rfl⟩
  | str x => cases h; obtain ⟨t, rfl⟩ := r; exact ⟨keyIs_str x t, rfl⟩
  | _ => cases h
def setH (P : Program) (w : World) (a : Addr) (ks : List Key) (h : Heap) : Prop := h.SetOf (mixKind P w) a (memB ks) ks.length
def setO (P : Program) (w : World) (a : Addr) (ks : List Key) : HO := .ext (setH P w a ks)
theorem setH_stay {P : Program} {w : World} {a : Addr} {ks : List Key} {h h' : Heap} (hs : setH P w a ks h) (k : ∀ o, h.get? a = some o → h'.get? a = some o) : setH P w a ks h' := by
  obtain ⟨o, es, ep, t, ho, more⟩ := hs
  exact ⟨o, es, ep, t, k o ho, more⟩
theorem setH_step {P : Program} {w : World} {a : Addr} {ks : List Key} {k : Key} {h : Heap}
    (x : h.SetOf (mixKind P w) a (fun k' => memB ks k' || decide (k' = k)) (if memB ks k then ks.length else ks.length + 1)) : setH P w a (dstep ks k) h := by
  unfold setH dstep
  by_cases hk : memB ks k = true
  · rw [if_pos hk]
    have e : (fun k' => memB ks k' || decide (k' = k)) = memB ks := by
      funext k'
      by_cases e : k' = k
      · subst e; simp [hk]
      · simp [e]
    rw [e, if_pos hk] at x
    exact x
  · rw [if_neg hk]
    have e : (fun k' => memB ks k' || decide (k' = k)) = memB (ks ++ [k]) := by
      funext k'
      exact memB_snoc.symm
    rw [e, if_neg hk] at x
    simpa using x
section
variable {P : Program} {w : World} {A : Around}
theorem fill {J S : Addr} {fp wr : List Addr} {Gn : Array GenState → Array GenState → Prop} {n : Nat} {Pv : Nat → Value → Prop} {St : Nat → Shared → Prop} {R : Result → Shared → Prop} (W : WalksS P w A.in1 J fp wr Gn n Pv St) (off : S ∉ fp)
    (ks : List Key) (hlen : ks.length = n) (is : ∀ i v, Pv i v → ∃ k, ks[i]? = some k ∧ keyIs k v = true ∧ v.scannable = true) (few : n + 1 < scanBound) (z : Shared)
    (fin : ∀ s, Moved (S :: wr) Gn z s → setH P w S (dst ks) s.heap → R (.ok (.ret .none)) s) :
    ∀ (m i : Nat) (s : Shared), i + m = n → St i s → Moved (S :: wr) Gn z s → setH P w S (dst (ks.take i)) s.heap → codeAny (model P w) A (.builtin "set.update.loop" ⟨[.ref S, .ref J], []⟩) R s := by
  have offw : S ∉ wr := fun q => off (W.sub S q)
  have more : ∀ b, b ∈ wr → b ∈ S :: wr := fun b q => .tail _ q
  intro m
  induction m with
  | zero =>
    intro i s e st mv sh
    have e : i = n := e
    subst e
    apply codeAny_builtin PyProof.Rows.F.entry_set_update_loop
    rw [Around.under_plainId PyProof.Rows.F.plain_set_update_loop _]
    apply wpAny_bind (m := pyNext (.ref J))
    apply W.done s _ _ st
    intro s1 mv1
    apply wpAny_pure
    refine fin s1 (Moved.trans W.gtrans mv (mv1.mono more)) ?_
    have t : ks.take i = ks := by rw [← hlen]; exact List.take_length
    rw [t] at sh
    exact setH_stay sh fun o q => mv1.heap S o offw q
  | succ m ih =>
    intro i s e st mv sh
    have hi : i < n := by omega
    apply codeAny_builtin PyProof.Rows.F.entry_set_update_loop
    rw [Around.under_plainId PyProof.Rows.F.plain_set_update_loop _]
    apply wpAny_bind (m := pyNext (.ref J))
    apply W.item i s _ _ hi st
    intro v s1 pv st1 mv1
    obtain ⟨k, hk, kv, sc⟩ := is i v pv
    have sh1 := setH_stay sh fun o q => mv1.heap S o offw q
    have mv2 : Moved (S :: wr) Gn z s1 := Moved.trans W.gtrans mv (mv1.mono more)
    show wpAny _ A.in1 (holding [v] (setAdd S v) >>= _) _ _ s1
    apply wpAny_bind
    apply wpAny_holding
    unfold setAdd
    apply wpAny_holding
    apply wpAny_bind
    refine (mixKind P w).pyHash (k := k) kv ?_
    have room : (dst (ks.take i)).length + 1 < scanBound := by
      have := dst_len _ (ks.take i) rfl
      have : (ks.take i).length ≤ n := by rw [← hlen]; exact List.length_take_le' _ _
      omega
    have tk : ks.take (i + 1) = ks.take i ++ [k] := by rw [List.take_add_one, hk]; rfl
    have go : ∀ (tt : Nat), s1.toks ≤ tt → wpAny (model P w) A.in1 (setAddHashed S v ((mixKind P w).hash k)) (fun _ s2 => Moved (S :: wr) Gn z s2 ∧ setH P w S (dst (ks.take (i + 1))) s2.heap ∧ St (i + 1) s2) (fun _ _ => False) { s1 with toks := tt } := by
      intro tt ht
      refine wpAny_setAddHashed_of (knd := mixKind P w) (s := { s1 with toks := tt }) kv sc sh1 room fun h2 sb so => ?_
      refine ⟨Moved.then_heap mv2 ht fun b o q x => ?_, ?_, W.frame (i + 1) s1 h2 tt st1 ht fun b q o x => ?_⟩
      · rw [sb.2 b fun y => q (y ▸ .head _)]; exact x
      · rw [tk, dst_snoc]; exact setH_step so
      · rw [sb.2 b fun y => off (y ▸ q)]; exact x
    refine wpAny_mono (go _ (Nat.le_succ _)) (fun b s2 y => ?_) fun _ _ q => q.elim
    obtain ⟨mv3, sh3, st3⟩ := y
    exact wpAny_pure ⟨plainId_quiet PyProof.Rows.F.plain_set_update_loop _, ih (i + 1) s2 (by omega) st3 mv3 sh3⟩
abbrev bare (led : Bool) : Obj := { cls := .type "set", dict := none, data := .set #[] 0 (.fresh 0 0 led) }
abbrev withNew (s : Shared) (led : Bool) : Shared := { s with heap := s.heap.push (bare led) }
theorem withNew_at (s : Shared) (led : Bool) : (withNew s led).heap.get? s.heap.objs.size = some (bare led) := Heap.get?_push_size _ rfl
abbrev InitEnds (P : Program) (w : World) (A : Around) (R : Result → Shared → Prop) (f : Fin) (z : Shared) : Prop := match f with
  | .done f => R (.ok f) z
  | .again c => c.quiet = true ∧ codeAny (model P w) A c R z
theorem set_made {a : Value} {s : Shared} {Q : Value → Shared → Prop} {E : Value → Shared → Prop} (Z : Shared → Prop) (hZ : ∀ z, Z z → Q (.ref s.heap.objs.size) z)
    (body : ∀ led : Bool, wpAny (model P w) A.in1.in1 (Builtin.«set.__init__» ⟨[.ref s.heap.objs.size, a], []⟩) (InitEnds P w A.in1 (wants (fun r z => r = .none ∧ Z z) E)) (fun e z => wants (fun r z => r = .none ∧ Z z) E (.error e) z) (withNew s led)) :
    wpAny (model P w) A (call (.type "set") [a]) Q E s := by
  have tc := F.called_set
  obtain ⟨c0, cs, mro⟩ := tc.mro
  have f1 := tc.made
  have f2 := tc.sub
  have f3 := tc.notType
  have f4 := tc.canCreate
  have f5 := F.typeCall_set_1 a
  apply wpAny_call
  apply codeAny_of_tree
  show wpAny _ _ (callAny (.type "set") ⟨[a], []⟩) _ _ _
  refine wpAny_pure (And.intro (Code.quiet_builtin _ (by decide +kernel)) (codeAny_builtin F.entry_type_call ?_))
  rw [Around.under_plain (weight_type_call_type "set" [a] []) rfl]
  repeat any_goals first | wp_step | assumption
  have made := code_set_new_1 (prog := P) (w := w) (A := A.in1) (E := E) (s := s) a (Q₁ := fun o z => ∃ led, o = .ref s.heap.objs.size ∧ z = withNew s led) fun led => ⟨led, rfl, rfl⟩
  refine codeAny_mono made fun r z hz => ?_
  rcases r with (_ | f)
  · exact hz
  cases f with
  | ret o =>
    obtain ⟨led, rfl, rfl⟩ := hz
    have ty : Shared.TypeIs (withNew s led) (.ref s.heap.objs.size) "set" := ⟨_, withNew_at s led, rfl⟩
    have f6 := tc.init.lookup
    have f7 := tc.init.bind (.ref s.heap.objs.size)
    repeat any_goals first | wp_step | assumption
    have run := codeAny_call_builtin (R := wants (fun r z => r = .none ∧ Z z) E) tc.init.plain F.entry_set_init (check_set_init_1 (a := a) ty (body led))
    refine codeAny_mono run fun r z hz => ?_
    rcases r with (_ | f)
    · exact hz
    cases f with
    | ret o =>
      obtain ⟨rfl, hz⟩ := hz
      repeat any_goals first | wp_step | assumption
      exact hZ _ hz
    | _ => exact hz.elim
  | _ => exact hz.elim
theorem set_filled {s : Shared} {l : Addr} {its : List Value} {ks : List Key} {Q : Value → Shared → Prop} {E : Value → Shared → Prop} (quiet : A.handled = none) (hl : s.heap.IsList l its.toArray)
    (is : ∀ (i : Nat) (v : Value), its[i]? = some v → ∃ k, ks[i]? = some k ∧ keyIs k v = true ∧ v.scannable = true) (hlen : ks.length = its.length) (few : its.length + 1 < scanBound)
    (fin : ∀ h' tk, setH P w s.heap.objs.size (dst ks) h' → (∀ b o, s.heap.get? b = some o → h'.get? b = some o) → Q (.ref s.heap.objs.size) { s with heap := h', toks := tk }) :
    wpAny (model P w) A (call (.type "set") [.ref l]) Q E s := by
  refine set_made (fun z => ∃ h' tk, z = { s with heap := h', toks := tk } ∧ setH P w s.heap.objs.size (dst ks) h' ∧ ∀ b o, s.heap.get? b = some o → h'.get? b = some o) ?_ fun led => ?_
  · rintro z ⟨h', tk, rfl, q1, q2⟩
    exact fin h' tk q1 q2
  have here := withNew_at s led
  have hl2 : (withNew s led).heap.IsList l its.toArray := hl.push _
  obtain ⟨ob, g1, g2, n, g3⟩ := hl2
  obtain ⟨_, dct, _, sls⟩ := ob
  dsimp only at g2 g3
  subst g2 g3
  have w1 := F.sub_list_set
  have w2 := F.sub_list_frozenset
  have w3 : (Value.type "list" == Value.type "dict") = false := by decide
  have hl3 : (withNew s led).heap.IsList l its.toArray := ⟨_, g1, rfl, n, rfl⟩
  unfold Builtin.«set.__init__» Builtin.Frozenset.updateFrom noKeywords
  generalize walk : pyIter = itr
  wp_walk
  subst walk
  apply wpAny_pyIter_list hl3
  apply wpAny_bind
  apply wpAny_runValue
  have lt : l < s.heap.objs.size := by obtain ⟨o, e, _⟩ := hl; exact Heap.lt_size e
  have sz : (withNew s led).heap.objs.size = s.heap.objs.size + 1 := Heap.size_push _ _
  have quiet3 : A.in1.in1.in1.handled = none := by simp [quiet]
  have apart : l ≠ (withNew s led).heap.objs.size := by rw [sz]; exact Nat.ne_of_lt (Nat.lt_succ_of_lt lt)
  have wk := (Walks.list (prog := P) (w := w) quiet3 _ l apart its.toArray).toS
  refine fill wk (S := s.heap.objs.size) ?_ ks (by simpa using hlen) (fun i v p => is i v (by simpa using p)) (by simpa using few) _ ?_ its.length 0 _ (by simp) ⟨⟨_, Heap.get?_push_size _ rfl, rfl, rfl⟩, hl3.push _⟩ (Moved.refl wk.grefl) ?_
  · rw [sz]
    intro q
    rcases List.mem_cons.mp q with q | q
    · exact Nat.ne_of_lt (Nat.lt_succ_self _) q
    · exact Nat.ne_of_gt lt (List.mem_singleton.mp q)
  · intro z mv sh
    obtain ⟨h', g', d', t', o'⟩ := z
    have e1 : g' = s.gens := mv.gens
    have e2 : d' = s.drawn := mv.drawn
    have e3 : o' = s.os := mv.os
    subst e1 e2 e3
    apply wpAny_pure
    show wpAny _ _ (ret Value.none) _ _ _
    refine wpAny_pure ⟨rfl, h', t', rfl, sh, fun b o q => mv.heap b o ?_ (Heap.get?_push_of_some _ (Heap.get?_push_of_some _ q))⟩
    have bl := Heap.lt_size q
    intro m
    rcases List.mem_cons.mp m with m | m
    · exact Nat.ne_of_lt bl m
    · have m := List.mem_singleton.mp m
      rw [sz] at m
      exact Nat.ne_of_lt (Nat.lt_succ_of_lt bl) m
  · have new : ((withNew s led).heap.push { cls := .type "list_iterator", data := .fields #[.ref l, .int 0 0] }).get? s.heap.objs.size = some (bare led) := Heap.get?_push_of_some _ here
    have e : memB ([] : List Key) = fun _ => false := rfl
    show Heap.SetOf (mixKind P w) _ _ (memB []) 0
    rw [e]
    exact ⟨_, _, _, _, new, ⟨rfl, rfl, rfl⟩, rfl, fun x m => by simp at m, fun k => by simp, by decide, by cases led <;> rfl, rfl⟩
end
section
variable {X : Cx}
def rSetK (P : Program) (w : World) (K : PySem.W.Frag) : List V → Hp → VK → Prop := fun xs H Q => ∃ (a : Addr) (vs : List V) (ks : List Key), xs = [.ref a] ∧ SqL K H a vs ∧ vs.map keyV = ks.map some ∧ vs.length < 1000 ∧ ∀ p, H p = none → Q (.ref p) (upd H p (setO P w p (dst ks)))
def rLenSet (P : Program) (w : World) : List V → Hp → VK → Prop := fun xs H Q => ∃ (p : Addr) (ks : List Key), xs = [.ref p] ∧ H p = some (setO P w p ks) ∧ ks.length < 1000 ∧ Q (.int (ks.length : Nat)) H
theorem call_setK (hc : X.calm = true) : CallR X (.type "set") (rSetK X.prog X.w X.K) := by
  intro pins s σ H xs us Q I r h
  obtain ⟨a, vs, ks, rfl, hq, hk, hv, q⟩ := h
  obtain ⟨u, rfl, ru⟩ := vals1 r
  cases (show u = Value.ref a from ru)
  obtain ⟨its, rv, pl, hz⟩ := I.list hq
  have len : ks.length = vs.length := by have := congrArg List.length hk; simpa using this.symm
  refine set_filled (ks := ks) (I.ok.hd hc) pl.isList (fun i v e => ?_) (by rw [len, rv.length]) (by rw [← rv.length]; unfold scanBound; omega) fun h' tk sh kp => ?_
  · have li : i < vs.length := by have := (List.getElem?_eq_some_iff.mp e).1; rw [rv.length]; exact this
    have li' : i < ks.length := by omega
    obtain ⟨u, hu, ru⟩ := rv.get (i := i) (x := vs[i]) (by simp [li])
    rw [e] at hu
    cases hu
    have ki : keyV vs[i] = some ks[i] := by
      have := congrArg (fun z => z[i]?) hk
      simpa [li, li'] using this
    exact ⟨ks[i], by simp [li'], keyV_is ki ru⟩
  · have new : ObjOk X.prog X.w (upd H s.heap.objs.size (setO X.prog X.w s.heap.objs.size (dst ks))) h' s.heap.objs.size (setO X.prog X.w s.heap.objs.size (dst ks)) :=
      ⟨sh, let ⟨o, _, _, _, e, _⟩ := sh; ⟨o, e⟩, fun h1 h2 x y => setH_stay x y⟩
    exact ⟨.ref s.heap.objs.size, _, I.laid (t' := tk) kp (Nat.le_refl _) new, rfl, q _ (I.hok.fresh (Nat.le_refl _))⟩
theorem call_lenSet : CallR X (.builtin "len") (rLenSet X.prog X.w) := by
  intro pins s σ H xs us Q I r h
  obtain ⟨p, ks, rfl, hp, hn, q⟩ := h
  obtain ⟨u, rfl, ru⟩ := vals1 r
  cases (show u = Value.ref p from ru)
  obtain ⟨⟨o, es, ep, t, e, x1, x2, x3, x4, x5, x6, x7⟩, _⟩ := I.hok p _ hp
  refine call_len_set e x1 x2 x6 (by omega) ?_
  rw [x7]
  exact ⟨.int (ks.length : Nat), H, I.tok _ |>.tok _, ⟨_, rfl⟩, q⟩
theorem pe_lenset {e : Expr} {te : TE} {p p2 pos pos2 : Pos} (hc : X.calm = true) (hgs : Gl X "set") (hms : X.mg "set" = none) (hgl : Gl X "len") (hml : X.mg "len" = none) (he : PE X e te) (hns : isStar e = false := by rfl) :
    PE X (.Call (.Name "len" p) [.Call (.Name "set" p2) [e] [] pos2] [] pos) (tCB (rLenSet X.prog X.w) (tCons (tCB (rSetK X.prog X.w X.K) (tCons te tNil)) tNil)) :=
  pe_callBU call_lenSet hgl hml bt_len (pa_c (pe_callTyU (call_setK hc) hgs hms bt_set (pa_c he pa_nil hns) (by decide) (by decide) (by show (!isStar e && true) = true; rw [hns]; rfl)) pa_nil rfl) (by decide) (by decide) rfl
end
end L2
namespace L2
open PySem PySem.Spec PyProof.Rows
section
variable {P : Program} {w : World} {A : Around} {E : Value → Shared → Prop} {s : Shared}
theorem nextT_shell {j u : Addr} {k : Nat} {Q : Value → Shared → Prop} (at' : s.heap.IsTupleIter j u k)
    (body : wpAny (model P w) A.in1 (Builtin.«tuple_iterator.__next__» ⟨[.ref j], []⟩) (fun f z => ∃ v, f = .done (.ret v) ∧ Q v z) E s) :
    wpAny (model P w) A (Builtin.SmallTypes.nextOf (.ref j)) Q E s := by
  unfold Builtin.SmallTypes.nextOf
  apply wpAny_bind
  refine wpAny_callSpecial?_slot (name := Str.ofString "__next__") at'.typeIs F.slot_tuple_iterator_next ?_
  refine wpAny_call_entry F.slot_tuple_iterator_next at'.typeIs F.entry_tuple_iterator_next ?_ (F.args_tuple_iterator_next_1 _)
  refine wpAny_mono body (fun f z hz => ?_) fun _ _ q => q
  obtain ⟨v, rfl, q⟩ := hz
  exact ⟨v, rfl, wpAny_pure q⟩
theorem nextT_item {j u : Addr} {k : Nat} {vs : Array Value} {x : Value} {Q : Value → Shared → Prop} (at' : s.heap.IsTupleIter j u k) (tu : s.heap.IsTuple u vs) (hx : vs[k]? = some x)
    (q : ∀ h', h'.IsTupleIter j u (k + 1) → Heap.SameBut j s.heap h' → Q x { s with heap := h' }) : wpAny (model P w) A (Builtin.SmallTypes.nextOf (.ref j)) Q E s := by
  refine nextT_shell at' ?_
  obtain ⟨o, e1, e2, e3⟩ := at'
  obtain ⟨o2, g1, _, n, g3⟩ := tu
  apply wpAny_bind (m := field (.ref j) 0)
  apply wpAny_field e1 e3 (x := .ref u) rfl
  have nn : ¬ ((Value.ref u == Value.none) = true) := Bool.false_ne_true
  show wpAny _ _ (if (Value.ref u == .none) = true then _ else _) _ _ _
  rw [if_neg nn]
  apply wpAny_bind (m := field (.ref j) 1)
  apply wpAny_field e1 e3 (x := .int k 0) rfl
  apply wpAny_bind (m := seqItems? (.ref u))
  apply wpAny_seqItems g1 g3
  simp only [hx, Int.toNat_natCast]
  apply wpAny_bind
  apply wpAny_setField e1 e3 (by simp)
  apply wpAny_pure
  have up := Heap.get?_update_self (Obj.mapFields fun a => a.setIfInBounds 1 (rawInt ((k : Int) + 1))) e1 (Obj.isFreed_of_fields (Obj.data_mapFields e3 _))
  refine ⟨x, rfl, q _ ⟨_, up, (Obj.cls_mapFields ..).trans e2, ?_⟩ (Heap.SameBut.update ..)⟩
  rw [Obj.data_mapFields e3]
  simp [rawInt]
theorem nextT_end {j u : Addr} {k : Nat} {vs : Array Value} {Q : Value → Shared → Prop} (quiet : A.handled = none) (at' : s.heap.IsTupleIter j u k) (tu : s.heap.IsTuple u vs) (hx : vs[k]? = none)
    (q : ∀ h' e, Heap.ExtBut j s.heap h' → (∃ o, h'.get? e = some o ∧ o.cls = .type "StopIteration") → E (.ref e) { s with heap := h' }) : wpAny (model P w) A (Builtin.SmallTypes.nextOf (.ref j)) Q E s := by
  refine nextT_shell at' ?_
  obtain ⟨o, e1, e2, e3⟩ := at'
  obtain ⟨o2, g1, _, n, g3⟩ := tu
  apply wpAny_bind (m := field (.ref j) 0)
  apply wpAny_field e1 e3 (x := .ref u) rfl
  have nn : ¬ ((Value.ref u == Value.none) = true) := Bool.false_ne_true
  show wpAny _ _ (if (Value.ref u == .none) = true then _ else _) _ _ _
  rw [if_neg nn]
  apply wpAny_bind (m := field (.ref j) 1)
  apply wpAny_field e1 e3 (x := .int k 0) rfl
  apply wpAny_bind (m := seqItems? (.ref u))
  apply wpAny_seqItems g1 g3
  simp only [hx, Int.toNat_natCast]
  apply wpAny_bind
  apply wpAny_rule
  apply wpAny_bind
  apply wpAny_setField e1 e3 (by simp)
  apply wpAny_bind (m := newExc (.type "StopIteration") [])
  unfold newExc newTuple
  apply wpAny_bind
  refine wpAny_newObj_type ?_ (by size_fits )
  apply wpAny_bind (m := firstArgMember _ _)
  refine wpAny_of_eq (a := Value.none) (by simp only [firstArgMember]; rfl) ?_
  refine wpAny_newObj_type ?_ (by size_fits )
  unfold raiseNew
  apply wpAny_bind
  apply wpAny_handled
  have quiet1 : A.in1.handled = none := quiet
  rw [quiet1]
  refine wpAny_bind (wpAny_pure ?_)
  apply wpAny_throw
  exact q _ _ ((((Heap.SameBut.update ..).extBut).push _).push _) ⟨_, Heap.get?_push_size _ rfl, rfl⟩
def ItAt (t : Bool) (h : Heap) (j u : Addr) (k : Nat) : Prop := match t with
  | true => h.IsTupleIter j u k
  | false => h.IsListIter j u k
def SqA (t : Bool) (h : Heap) (u : Addr) (vs : Array Value) : Prop := match t with
  | true => h.IsTuple u vs
  | false => h.IsList u vs
theorem ItAt.stay {t : Bool} {h h' : Heap} {j u : Addr} {k : Nat} (x : ItAt t h j u k) (q : ∀ o, h.get? j = some o → h'.get? j = some o) : ItAt t h' j u k := by
  cases t <;> (obtain ⟨o, e, r⟩ := x; exact ⟨o, q o e, r⟩)
theorem ItAt.obj {t : Bool} {h : Heap} {j u : Addr} {k : Nat} (x : ItAt t h j u k) : ∃ o, h.get? j = some o ∧ o.data = .fields #[.ref u, .int k 0] := by
  cases t <;> (obtain ⟨o, e, _, r⟩ := x; exact ⟨o, e, r⟩)
theorem SqA.stay {t : Bool} {h h' : Heap} {u : Addr} {vs : Array Value} (x : SqA t h u vs) (q : ∀ o, h.get? u = some o → h'.get? u = some o) : SqA t h' u vs := by
  cases t <;> (obtain ⟨o, e, r⟩ := x; exact ⟨o, q o e, r⟩)
theorem next_item {t : Bool} {j u : Addr} {k : Nat} {vs : Array Value} {x : Value} {Q : Value → Shared → Prop} (a : ItAt t s.heap j u k) (b : SqA t s.heap u vs) (hx : vs[k]? = some x)
    (q : ∀ h', ItAt t h' j u (k + 1) → Heap.SameBut j s.heap h' → Q x { s with heap := h' }) : wpAny (model P w) A (Builtin.SmallTypes.nextOf (.ref j)) Q E s := by
  cases t
  · exact wpAny_nextOf_list_item a b hx q
  · exact nextT_item a b hx q
theorem next_end {t : Bool} {j u : Addr} {k : Nat} {vs : Array Value} {Q : Value → Shared → Prop} (quiet : A.handled = none) (a : ItAt t s.heap j u k) (b : SqA t s.heap u vs) (hx : vs[k]? = none)
    (q : ∀ h' e, Heap.ExtBut j s.heap h' → (∃ o, h'.get? e = some o ∧ o.cls = .type "StopIteration") → E (.ref e) { s with heap := h' }) : wpAny (model P w) A (Builtin.SmallTypes.nextOf (.ref j)) Q E s := by
  cases t
  · exact wpAny_nextOf_list_end quiet a b hx q
  · exact nextT_end quiet a b hx q
structure ZipAt (h : Heap) (t1 t2 : Bool) (z ti to i1 i2 a b : Addr) (f0 : Value) (k : Nat) : Prop where
  zip : IsZip h z ti to f0
  ins : IsPair h ti (.ref i1) (.ref i2)
  outs : ∃ u v, IsPair h to u v
  one : ItAt t1 h i1 a k
  two : ItAt t2 h i2 b k
structure ZipOff (z ti to i1 i2 a b : Addr) : Prop where
  nd : [z, ti, to, i1, i2].Nodup
  na : a ∉ [z, ti, to, i1, i2]
  nb : b ∉ [z, ti, to, i1, i2]
theorem ZipOff.z_ti (x : ZipOff z ti to i1 i2 a b) : ti ≠ z := by have := x.nd; simp at this; exact fun e => this.1.1 e.symm
theorem ZipOff.z_to (x : ZipOff z ti to i1 i2 a b) : to ≠ z := by have := x.nd; simp at this; exact fun e => this.1.2.1 e.symm
theorem ZipOff.z_i1 (x : ZipOff z ti to i1 i2 a b) : i1 ≠ z := by have := x.nd; simp at this; exact fun e => this.1.2.2.1 e.symm
theorem ZipOff.z_i2 (x : ZipOff z ti to i1 i2 a b) : i2 ≠ z := by have := x.nd; simp at this; exact fun e => this.1.2.2.2 e.symm
theorem ZipOff.to_i1 (x : ZipOff z ti to i1 i2 a b) : to ≠ i1 := by have := x.nd; simp at this; exact this.2.2.1.1
theorem ZipOff.to_i2 (x : ZipOff z ti to i1 i2 a b) : to ≠ i2 := by have := x.nd; simp at this; exact this.2.2.1.2
theorem ZipOff.i1_i2 (x : ZipOff z ti to i1 i2 a b) : i1 ≠ i2 := by have := x.nd; simp at this; exact this.2.2.2
theorem ZipOff.ti_to (x : ZipOff z ti to i1 i2 a b) : ti ≠ to := by have := x.nd; simp at this; exact this.2.1.1
theorem ZipOff.ti_i1 (x : ZipOff z ti to i1 i2 a b) : ti ≠ i1 := by have := x.nd; simp at this; exact this.2.1.2.1
theorem ZipOff.ti_i2 (x : ZipOff z ti to i1 i2 a b) : ti ≠ i2 := by have := x.nd; simp at this; exact this.2.1.2.2
theorem zip_turn {t1 t2 : Bool} {z ti to i1 i2 a b : Addr} {k : Nat} {xs ys : Array Value} {x x' : Value} {Q : Value → Shared → Prop} (d : ZipOff z ti to i1 i2 a b) (y : ZipAt s.heap t1 t2 z ti to i1 i2 a b .none k)
    (ha : SqA t1 s.heap a xs) (hb : SqA t2 s.heap b ys) (hx : xs[k]? = some x) (hx' : ys[k]? = some x')
    (q : ∀ h', ZipAt h' t1 t2 z ti to i1 i2 a b (rawInt s.heap.objs.size) (k + 1) → IsPair h' s.heap.objs.size x x' → (∀ c o, c ∉ [z, ti, to, i1, i2] → s.heap.get? c = some o → h'.get? c = some o) → Q (.ref s.heap.objs.size) { s with heap := h' }) :
    wpAny (model P w) A (Builtin.«zip.__next__» ⟨[.ref z], []⟩) (fun f z => ∃ v, f = .done (.ret v) ∧ Q v z) E s := by
  obtain ⟨u0, v0, o0⟩ := y.outs
  have na := d.na
  have nb := d.nb
  simp only [List.mem_cons, List.not_mem_nil, or_false, not_or] at na nb
  apply wpAny_bind (m := field (.ref z) 2)
  apply wpAny_field y.zip rfl (x := .bool false) rfl
  apply wpAny_bind (m := field (.ref z) 3)
  apply wpAny_field y.zip rfl (x := .ref ti) rfl
  apply wpAny_bind
  apply wpAny_seqItems y.ins rfl
  apply wpAny_bind (m := Builtin.SmallTypes.ownedTupleIsFree (.ref z))
  unfold Builtin.SmallTypes.ownedTupleIsFree
  apply wpAny_bind
  apply wpAny_field y.zip rfl (x := .none) rfl
  apply wpAny_pure
  simp only [if_true]
  apply wpAny_bind
  apply wpAny_rule
  apply wpAny_bind
  apply wpAny_field y.zip rfl (x := .ref to) rfl
  apply wpAny_bind
  apply wpAny_setField_rec y.zip (by simp)
  intro g1 z1 c1
  have z1 : IsZip g1 z ti to .ellipsis := z1
  apply wpAny_bind
  simp only [List.zipIdx_cons, List.zipIdx_nil, List.forIn_cons, List.forIn_nil]
  apply wpAny_bind
  apply wpAny_bind
  apply wpAny_onRaise
  apply wpAny_bind (m := Builtin.SmallTypes.nextOf (.ref i1))
  refine next_item (y.one.stay fun o e => c1.extBut _ _ d.z_i1 e) (ha.stay fun o e => c1.extBut _ _ na.1 e) hx fun g2 n1 c2 => ?_
  apply wpAny_pure
  have o2 : IsPair g2 to u0 v0 := c2.extBut _ _ d.to_i1 (c1.extBut _ _ d.z_to o0)
  apply wpAny_bind
  apply wpAny_seqItems o2 rfl
  apply wpAny_bind
  apply wpAny_updateSeq_pair o2
  intro g3 o3 c3
  have o3 : IsPair g3 to x v0 := o3
  apply wpAny_bind
  apply wpAny_letGo
  apply wpAny_pure
  apply wpAny_bind
  apply wpAny_bind
  apply wpAny_onRaise
  apply wpAny_bind (m := Builtin.SmallTypes.nextOf (.ref i2))
  refine next_item (y.two.stay fun o e => c3.extBut _ _ d.to_i2.symm (c2.extBut _ _ d.i1_i2.symm (c1.extBut _ _ d.z_i2 e))) (hb.stay fun o e => c3.extBut _ _ nb.2.2.1 (c2.extBut _ _ nb.2.2.2.1 (c1.extBut _ _ nb.1 e))) hx' fun g4 n2 c4 => ?_
  apply wpAny_pure
  have o4 : IsPair g4 to x v0 := c4.extBut _ _ d.to_i2 o3
  apply wpAny_bind
  apply wpAny_seqItems o4 rfl
  apply wpAny_bind
  apply wpAny_updateSeq_pair o4
  intro g5 o5 c5
  have o5 : IsPair g5 to x x' := o5
  apply wpAny_bind
  apply wpAny_letGo
  apply wpAny_pure
  apply wpAny_pure
  apply wpAny_bind
  apply wpAny_seqItems o5 rfl
  apply wpAny_bind
  refine wpAny_newTuple ?_
  have sz : g5.objs.size = s.heap.objs.size := by rw [c5.1, c4.1, c3.1, c2.1, c1.1]
  have all5 : ∀ c o, c ≠ z → c ≠ to → c ≠ i1 → c ≠ i2 → s.heap.get? c = some o → g5.get? c = some o := fun c o p1 p2 p3 p4 e => c5.extBut _ _ p2 (c4.extBut _ _ p4 (c3.extBut _ _ p2 (c2.extBut _ _ p3 (c1.extBut _ _ p1 e))))
  have z5 : IsZip g5 z ti to .ellipsis := c5.extBut _ _ d.z_to.symm (c4.extBut _ _ d.z_i2.symm (c3.extBut _ _ d.z_to.symm (c2.extBut _ _ d.z_i1.symm z1)))
  have m1 : ItAt t1 g5 i1 a (k + 1) := n1.stay fun o e => c5.extBut _ _ d.to_i1.symm (c4.extBut _ _ d.i1_i2 (c3.extBut _ _ d.to_i1.symm e))
  have m2 : ItAt t2 g5 i2 b (k + 1) := n2.stay fun o e => c5.extBut _ _ d.to_i2.symm e
  apply wpAny_bind (m := Builtin.SmallTypes.ownedTupleHandOut (.ref z) (.ref g5.objs.size))
  unfold Builtin.SmallTypes.ownedTupleHandOut
  have z6 : IsZip (g5.push { cls := .type "tuple", data := .seq #[x, x'] }) z ti to .ellipsis := Heap.get?_push_of_some _ z5
  apply wpAny_bind
  apply wpAny_setField_rec z6 (by simp)
  intro g7 z7 c7
  have z7 : IsZip g7 z ti to (rawInt g5.objs.size) := z7
  apply wpAny_setField_rec z7 (by simp)
  intro g8 z8 c8
  have z8 : IsZip g8 z ti to (rawInt g5.objs.size) := z8
  have all8 : ∀ c o, c ≠ z → g5.get? c = some o → g8.get? c = some o := fun c o p e => c8.extBut _ _ p (c7.extBut _ _ p (Heap.get?_push_of_some _ e))
  have zlt : z < g5.objs.size := Heap.lt_size z5
  have new : IsPair g8 g5.objs.size x x' := c8.extBut _ _ (Nat.ne_of_gt zlt) (c7.extBut _ _ (Nat.ne_of_gt zlt) (Heap.get?_push_size _ rfl))
  rw [sz] at z8 new
  apply wpAny_pure
  refine ⟨_, rfl, ?_⟩
  show Q (.ref g5.objs.size) _
  rw [sz]
  refine q g8 ⟨z8, all8 _ _ d.z_ti (all5 _ _ d.z_ti d.ti_to d.ti_i1 d.ti_i2 y.ins), ⟨x, x', all8 _ _ d.z_to o5⟩, m1.stay fun o e => all8 _ _ d.z_i1 e, m2.stay fun o e => all8 _ _ d.z_i2 e⟩ new fun c o p e => ?_
  simp only [List.mem_cons, List.not_mem_nil, or_false, not_or] at p
  exact all8 c o p.1 (all5 c o p.1 p.2.2.1 p.2.2.2.1 p.2.2.2.2 e)
theorem zip_stop {t1 t2 : Bool} {z ti to i1 i2 a b : Addr} {k : Nat} {xs ys : Array Value} {F : Fin → Shared → Prop} (quiet : A.handled = none) (d : ZipOff z ti to i1 i2 a b) (y : ZipAt s.heap t1 t2 z ti to i1 i2 a b .none k)
    (ha : SqA t1 s.heap a xs) (hb : SqA t2 s.heap b ys) (hx : xs[k]? = none ∨ ys[k]? = none)
    (q : ∀ h' e, (∀ c o, c ∉ [z, ti, to, i1, i2] → s.heap.get? c = some o → h'.get? c = some o) → (∃ o, h'.get? e = some o ∧ o.cls = .type "StopIteration") → E (.ref e) { s with heap := h' }) :
    wpAny (model P w) A (Builtin.«zip.__next__» ⟨[.ref z], []⟩) F E s := by
  obtain ⟨u0, v0, o0⟩ := y.outs
  have na := d.na
  have nb := d.nb
  simp only [List.mem_cons, List.not_mem_nil, or_false, not_or] at na nb
  apply wpAny_bind (m := field (.ref z) 2)
  apply wpAny_field y.zip rfl (x := .bool false) rfl
  apply wpAny_bind (m := field (.ref z) 3)
  apply wpAny_field y.zip rfl (x := .ref ti) rfl
  apply wpAny_bind
  apply wpAny_seqItems y.ins rfl
  apply wpAny_bind (m := Builtin.SmallTypes.ownedTupleIsFree (.ref z))
  unfold Builtin.SmallTypes.ownedTupleIsFree
  apply wpAny_bind
  apply wpAny_field y.zip rfl (x := .none) rfl
  apply wpAny_pure
  simp only [if_true]
  apply wpAny_bind
  apply wpAny_rule
  apply wpAny_bind
  apply wpAny_field y.zip rfl (x := .ref to) rfl
  apply wpAny_bind
  apply wpAny_setField_rec y.zip (by simp)
  intro g1 z1 c1
  have z1 : IsZip g1 z ti to .ellipsis := z1
  apply wpAny_bind
  simp only [List.zipIdx_cons, List.zipIdx_nil, List.forIn_cons, List.forIn_nil]
  apply wpAny_bind
  apply wpAny_bind
  apply wpAny_onRaise
  apply wpAny_bind (m := Builtin.SmallTypes.nextOf (.ref i1))
  cases e1 : xs[k]? with
  | none =>
    refine next_end quiet (y.one.stay fun o e => c1.extBut _ _ d.z_i1 e) (ha.stay fun o e => c1.extBut _ _ na.1 e) e1 fun g2 x c2 hx2 => ?_
    obtain ⟨ox, f1, f2⟩ := hx2
    have z2 : IsZip g2 z ti to .ellipsis := c2 _ _ d.z_i1.symm z1
    have nz : x ≠ z := fun e => by subst e; rw [z2] at f1; cases f1; simp at f2
    apply wpAny_setField_rec z2 (by simp)
    intro g3 _ c3
    refine q g3 x (fun c o p e => ?_) ⟨ox, c3.extBut _ _ nz f1, f2⟩
    simp only [List.mem_cons, List.not_mem_nil, or_false, not_or] at p
    exact c3.extBut _ _ p.1 (c2 _ _ p.2.2.2.1 (c1.extBut _ _ p.1 e))
  | some x =>
    have e2 : ys[k]? = none := by
      rcases hx with h | h
      · rw [e1] at h; cases h
      · exact h
    refine next_item (y.one.stay fun o e => c1.extBut _ _ d.z_i1 e) (ha.stay fun o e => c1.extBut _ _ na.1 e) e1 fun g2 n1 c2 => ?_
    apply wpAny_pure
    have o2 : IsPair g2 to u0 v0 := c2.extBut _ _ d.to_i1 (c1.extBut _ _ d.z_to o0)
    apply wpAny_bind
    apply wpAny_seqItems o2 rfl
    apply wpAny_bind
    apply wpAny_updateSeq_pair o2
    intro g3 o3 c3
    apply wpAny_bind
    apply wpAny_letGo
    apply wpAny_pure
    apply wpAny_bind
    apply wpAny_bind
    apply wpAny_onRaise
    apply wpAny_bind (m := Builtin.SmallTypes.nextOf (.ref i2))
    refine next_end quiet (y.two.stay fun o e => c3.extBut _ _ d.to_i2.symm (c2.extBut _ _ d.i1_i2.symm (c1.extBut _ _ d.z_i2 e))) (hb.stay fun o e => c3.extBut _ _ nb.2.2.1 (c2.extBut _ _ nb.2.2.2.1 (c1.extBut _ _ nb.1 e))) e2 fun g4 x c4 hx4 => ?_
    obtain ⟨ox, f1, f2⟩ := hx4
    have z4 : IsZip g4 z ti to .ellipsis := c4 _ _ d.z_i2.symm (c3.extBut _ _ d.z_to.symm (c2.extBut _ _ d.z_i1.symm z1))
    have nz : x ≠ z := fun e => by subst e; rw [z4] at f1; cases f1; simp at f2
    apply wpAny_setField_rec z4 (by simp)
    intro g5 _ c5
    refine q g5 x (fun c o p e => ?_) ⟨ox, c5.extBut _ _ nz f1, f2⟩
    simp only [List.mem_cons, List.not_mem_nil, or_false, not_or] at p
    exact c5.extBut _ _ p.1 (c4 _ _ p.2.2.2.2 (c3.extBut _ _ p.2.2.1 (c2.extBut _ _ p.2.2.2.1 (c1.extBut _ _ p.1 e))))
end
end L2
namespace L2
open PySem PySem.Spec PyProof.Rows
section
variable {X : Cx} {pins : List (Addr × Obj)} {σ : St} {H : Hp} {s : Shared} {h' : Heap}
theorem Inv.turnLay {ch : List Addr} {p : Addr} {o : HO} {t' : Nat} (I : Inv X pins σ H s) (hf : ∀ b ∈ ch, FpOk X pins H b) (k : ∀ b u, b ∉ ch → s.heap.get? b = some u → h'.get? b = some u) (hp : s.heap.objs.size ≤ p) (new : ObjOk X.prog X.w (upd H p o) h' p o) :
    Inv X pins σ (upd H p o) { s with heap := h', toks := t' } := by
  have hpn : H p = none := I.hok.fresh hp
  have nch : ∀ b u, H b = some u → b ∉ ch := fun b u e z => by rw [(hf b z).1] at e; cases e
  have np : ∀ b u, H b = some u → b ≠ p := fun b u e => ne_of_none e hpn
  have npo : ∀ b u, s.heap.get? b = some u → b ≠ p := fun b u e z => absurd (Heap.lt_size e) (by rw [z]; exact Nat.not_lt.mpr hp)
  refine I.step (g' := s.gens) (d' := s.drawn) (ch := ch) (fun b hb => ?_) (fun b u _ _ hc e _ => k b u hc e) (fun b u _ _ hc e _ => ⟨u.slots, k b u hc e⟩) (fun b u _ e n => ?_) (fun b u hc e => ⟨u, k b u hc e⟩)
    (fun b xs e => ?_) (fun b o u e => ?_) (fun b ps e => ⟨#[], ?_⟩) (fun m hm => ?_) (fun b u e => ?_) I.bare
  · obtain ⟨f0, f1, f2, f3, f4, f5⟩ := hf b hb
    exact ⟨f3, f1, f4, f5⟩
  · rw [upd_ne (npo b u e)]; exact n
  · rw [upd_ne (np b _ e)]; exact e
  · rw [upd_ne (np b _ e)]; exact e
  · rw [upd_ne (np b _ e), e]; simp
  · obtain ⟨ob, es, ep, ho, r⟩ := hm
    exact ⟨ob, es, ep, k _ ob (fun z => (hf _ z).2.1 rfl) ho, r⟩
  · by_cases hb : b = p
    · subst hb; rw [upd_same] at e; cases e; exact new
    · rw [upd_ne hb] at e
      refine (I.hok b u e).stay (fun c v hc q => k c v ?_ q) (fun c q => by rw [upd_ne (np c _ q)]; exact q) fun c xs q => by rw [upd_ne (np c _ q)]; exact q
      rcases hc with z | z
      · rw [z]; exact nch b u e
      · exact nch c _ z
theorem Inv.turnL {ch : List Addr} {t' : Nat} (I : Inv X pins σ H s) (hf : ∀ b ∈ ch, FpOk X pins H b) (k : ∀ b u, b ∉ ch → s.heap.get? b = some u → h'.get? b = some u) : Inv X pins σ H { s with heap := h', toks := t' } := by
  have nch : ∀ b u, H b = some u → b ∉ ch := fun b u e z => by rw [(hf b z).1] at e; cases e
  refine I.step (g' := s.gens) (d' := s.drawn) (ch := ch) (fun b hb => ?_) (fun b u _ _ hc e _ => k b u hc e) (fun b u _ _ hc e _ => ⟨u.slots, k b u hc e⟩) (fun b u _ e n => n) (fun b u hc e => ⟨u, k b u hc e⟩)
    (fun b xs e => e) (fun b o u e => e) (fun b ps e => ⟨#[], by rw [e]; simp⟩) (fun m hm => ?_) (fun b u e => ?_) I.bare
  · obtain ⟨f0, f1, f2, f3, f4, f5⟩ := hf b hb
    exact ⟨f3, f1, f4, f5⟩
  · obtain ⟨ob, es, ep, ho, r⟩ := hm
    exact ⟨ob, es, ep, k _ ob (fun z => (hf _ z).2.1 rfl) ho, r⟩
  · refine (I.hok b u e).stay (fun c v hc q => k c v ?_ q) (fun c q => q) fun c xs q => q
    rcases hc with z | z
    · rw [z]; exact nch b u e
    · exact nch c _ z
end
def SqK (t : Bool) (H : Hp) (a : Addr) (xs : List V) : Prop := match t with
  | true => H a = some (.tup xs)
  | false => H a = some (.lst xs)
theorem SqK.one {t : Bool} {H : Hp} {a : Addr} {xs ys : List V} (x : SqK t H a xs) (y : SqK t H a ys) : xs = ys := by
  cases t
  · have x : H a = some (.lst xs) := x
    have y : H a = some (.lst ys) := y
    rw [x] at y; cases y; rfl
  · have x : H a = some (.tup xs) := x
    have y : H a = some (.tup ys) := y
    rw [x] at y; cases y; rfl
theorem SqK.some {t : Bool} {H : Hp} {a : Addr} {xs : List V} (x : SqK t H a xs) : ∃ o, H a = some o := by
  cases t
  · exact ⟨_, x⟩
  · exact ⟨_, x⟩
theorem SqK.its {X : Cx} {pins : List (Addr × Obj)} {σ : St} {H : Hp} {s : Shared} {t : Bool} {a : Addr} {xs : List V} (I : Inv X pins σ H s) (x : SqK t H a xs) : ∃ its : List Value, Vals xs its ∧ SqA t s.heap a its.toArray := by
  cases t
  · obtain ⟨its, rv, p, _⟩ := I.list (SqL.of x)
    exact ⟨its, rv, p.isList⟩
  · obtain ⟨its, rv, p, _⟩ := I.tuple (SqT.of x)
    exact ⟨its, rv, (show s.heap.IsTuple a its.toArray from p)⟩
def Itz (t1 t2 : Bool) (a b : Addr) : It :=
  ⟨fun i H => ∃ xs ys x y, SqK t1 H a xs ∧ SqK t2 H b ys ∧ xs[i]? = some x ∧ ys[i]? = some y,
   fun i H v H' => ∃ p x y, v = .ref p ∧ H p = none ∧ H' = upd H p (.tup [x, y]) ∧ (∀ xs, SqK t1 H a xs → xs[i]? = some x) ∧ ∀ ys, SqK t2 H b ys → ys[i]? = some y,
   fun i H => ∃ xs ys, SqK t1 H a xs ∧ SqK t2 H b ys ∧ (xs.length ≤ i ∨ ys.length ≤ i)⟩
theorem turn_zip {P : Program} {w : World} {K : PySem.W.Frag} {t1 t2 : Bool} {elts : List Expr} {kk : Nat} {pos : Pos} {z ti to i1 i2 a b : Addr} (nd : [z, ti, to, i1, i2].Nodup) :
    Turn P w K (.Tuple elts kk pos) (Itz t1 t2 a b) [z, ti, to, i1, i2] z (fun i h => ZipAt h t1 t2 z ti to i1 i2 a b .none i) where
  mem := by simp
  obj := fun i h st c hc => by
    simp only [List.mem_cons, List.not_mem_nil, or_false] at hc
    rcases hc with rfl | rfl | rfl | rfl | rfl
    · exact ⟨_, st.zip, fun v e => by cases e⟩
    · exact ⟨_, st.ins, fun v e => by cases e⟩
    · obtain ⟨u, v, e⟩ := st.outs; exact ⟨_, e, fun v e => by cases e⟩
    · obtain ⟨o, e, q⟩ := st.one.obj; exact ⟨o, e, fun v e => by rw [q] at e; cases e⟩
    · obtain ⟨o, e, q⟩ := st.two.obj; exact ⟨o, e, fun v e => by rw [q] at e; cases e⟩
  keep := fun i h h' st k => by
    obtain ⟨u, v, e⟩ := st.outs
    exact ⟨k z (by simp) _ st.zip, k ti (by simp) _ st.ins, ⟨u, v, k to (by simp) _ e⟩, st.one.stay fun o e => k i1 (by simp) o e, st.two.stay fun o e => k i2 (by simp) o e⟩
  item := by
    intro X hP hw hK hc i pins s σ H E I hf st hg
    subst hP hw hK
    obtain ⟨xs, ys, x, y, ha, hb, hx, hy⟩ := hg
    obtain ⟨its, rv, pa⟩ := ha.its I
    obtain ⟨jts, rw', pb⟩ := hb.its I
    obtain ⟨u, hu, ru⟩ := rv.get hx
    obtain ⟨v, hv, rv'⟩ := rw'.get hy
    have off : ZipOff z ti to i1 i2 a b := ⟨nd, fun m => by (obtain ⟨o, e⟩ := ha.some; rw [(hf a m).1] at e; cases e), fun m => by (obtain ⟨o, e⟩ := hb.some; rw [(hf b m).1] at e; cases e)⟩
    have ty : s.TypeIs (.ref z) "zip" := ⟨_, st.zip, rfl⟩
    unfold pyNext
    apply wpAny_bind
    apply wpAny_attempt
    refine wpAny_callSpecial?_slot (name := Str.ofString "__next__") ty F.slot_zip_next ?_
    refine wpAny_call_entry F.slot_zip_next ty F.entry_zip_next ?_ (F.args_zip_next_1 _)
    refine zip_turn off st pa pb (x := u) (x' := v) (by simpa using hu) (by simpa using hv) fun h1 z1 new kp => ?_
    refine wpAny_pure ⟨_, rfl, ?_⟩
    apply wpAny_letOwnedTupleGo_zip z1.zip
    intro h2 z2 sb
    have nz : s.heap.objs.size ≠ z := Nat.ne_of_gt (Heap.lt_size st.zip)
    have new2 : IsPair h2 s.heap.objs.size u v := sb.extBut _ _ nz new
    have ok : ObjOk X.prog X.w (upd H s.heap.objs.size (.tup [x, y])) h2 s.heap.objs.size (.tup [x, y]) := ⟨(show 2 ≤ sizeLine by decide), [u, v], .cons ru (.cons rv' .nil), ⟨_, new2, rfl, _, rfl⟩⟩
    have I2 := I.turnLay (t' := s.toks) hf (h' := h2) (fun c o m e => sb.extBut _ _ (fun e => m (by simp [e])) (kp c o m e)) (Nat.le_refl _) ok
    obtain ⟨u1, v1, e1⟩ := z1.outs
    have zf : H s.heap.objs.size = none := I.hok.fresh (Nat.le_refl _)
    refine ⟨.ref s.heap.objs.size, _, I2, rfl, ⟨_, x, y, rfl, zf, rfl, fun xs' h => ?_, fun ys' h => ?_⟩, ?_, fun c hc => ?_⟩
    · rw [h.one ha]; exact hx
    · rw [h.one hb]; exact hy
    · exact ⟨z2, sb.extBut _ _ off.z_ti z1.ins, ⟨u1, v1, sb.extBut _ _ off.z_to e1⟩, z1.one.stay fun o e => sb.extBut _ _ off.z_i1 e, z1.two.stay fun o e => sb.extBut _ _ off.z_i2 e⟩
    · have lt : c < s.heap.objs.size := by
        simp only [List.mem_cons, List.not_mem_nil, or_false] at hc
        rcases hc with rfl | rfl | rfl | rfl | rfl
        · exact Heap.lt_size st.zip
        · exact Heap.lt_size st.ins
        · obtain ⟨_, _, e⟩ := st.outs; exact Heap.lt_size e
        · obtain ⟨o, e, q⟩ := st.one.obj; exact Heap.lt_size e
        · obtain ⟨o, e, q⟩ := st.two.obj; exact Heap.lt_size e
      rw [upd_ne (Nat.ne_of_lt lt)]
      exact (hf c hc).1
  done := by
    intro X hP hw hK hc i pins s σ H E I hf st hg
    subst hP hw hK
    obtain ⟨xs, ys, ha, hb, hl⟩ := hg
    obtain ⟨its, rv, pa⟩ := ha.its I
    obtain ⟨jts, rw', pb⟩ := hb.its I
    have off : ZipOff z ti to i1 i2 a b := ⟨nd, fun m => by (obtain ⟨o, e⟩ := ha.some; rw [(hf a m).1] at e; cases e), fun m => by (obtain ⟨o, e⟩ := hb.some; rw [(hf b m).1] at e; cases e)⟩
    have ty : s.TypeIs (.ref z) "zip" := ⟨_, st.zip, rfl⟩
    have l1 := rv.length
    have l2 := rw'.length
    unfold pyNext
    apply wpAny_bind
    apply wpAny_attempt
    refine wpAny_callSpecial?_slot (name := Str.ofString "__next__") ty F.slot_zip_next ?_
    refine wpAny_call_entry F.slot_zip_next ty F.entry_zip_next ?_ (F.args_zip_next_1 _)
    refine zip_stop (I.ok.hd hc) off st pa pb (by simp; omega) fun h1 e kp he => ?_
    obtain ⟨o, e1, e2⟩ := he
    apply wpAny_bind
    refine wpAny_isInstance (T := "StopIteration") (b := true) ⟨o, e1, e2⟩ isSubtype_stop ?_
    exact wpAny_pure ⟨rfl, I.turnL (t' := s.toks) hf fun c o m e => kp c o m e⟩
  self := fun _ _ _ _ _ st h => wpAny_pyIter_zip st.zip h
section
variable {P : Program} {w : World} {A : Around} {E : Value → Shared → Prop} {s : Shared}
abbrev itO (t : Bool) (u : Addr) : Obj := { cls := .type (if t then "tuple_iterator" else "list_iterator"), data := .fields #[.ref u, .int 0 0] }
abbrev zh1 (h : Heap) (t1 : Bool) (a : Addr) : Heap := h.push (itO t1 a)
abbrev zh2 (h : Heap) (t1 t2 : Bool) (a b : Addr) : Heap := (zh1 h t1 a).push (itO t2 b)
abbrev zh3 (h : Heap) (t1 t2 : Bool) (a b : Addr) : Heap := (zh2 h t1 t2 a b).push { cls := .type "tuple", data := .seq #[.ref h.objs.size, .ref (zh1 h t1 a).objs.size] }
abbrev zh4 (h : Heap) (t1 t2 : Bool) (a b : Addr) : Heap := (zh3 h t1 t2 a b).push { cls := .type "tuple", data := .seq #[.none, .none] }
abbrev zh5 (h : Heap) (t1 t2 : Bool) (a b : Addr) : Heap := (zh4 h t1 t2 a b).push { cls := .type "zip", data := .fields #[.none, .bool false, .bool false, .ref (zh2 h t1 t2 a b).objs.size, .ref (zh3 h t1 t2 a b).objs.size] }
theorem zip_made (t1 t2 : Bool) (a b : Addr) (xs ys : Array Value) :
    Meets (Builtin.«zip.__new__» ⟨[.type "zip", .ref a, .ref b], []⟩) (fun _ R s => SqA t1 s.heap a xs ∧ SqA t2 s.heap b ys ∧ R (.ok (.ret (.ref (zh4 s.heap t1 t2 a b).objs.size))) { s with heap := zh5 s.heap t1 t2 a b }) :=
  .of_wp fun P w A R s h => by
    obtain ⟨hp, g, d, tk, os⟩ := s
    obtain ⟨p1, p2, h⟩ := h
    have sub := sub_zip
    cases t1 <;> cases t2
    · have q1 : Heap.IsList (Shared.heap ⟨hp, g, d, tk, os⟩) a xs := p1
      have q2 : Heap.IsList (Shared.heap ⟨hp.push { cls := .type "list_iterator", data := .fields #[.ref a, .int 0 0] }, g, d, tk, os⟩) b ys := Heap.IsList.push p2 _
      wp_walk using wpAny_pyIter_list q1, wpAny_pyIter_list q2
      exact ⟨_, rfl, h⟩
    · have q1 : Heap.IsList (Shared.heap ⟨hp, g, d, tk, os⟩) a xs := p1
      have q2 : Heap.IsTuple (Shared.heap ⟨hp.push { cls := .type "list_iterator", data := .fields #[.ref a, .int 0 0] }, g, d, tk, os⟩) b ys := Heap.IsTuple.push p2 _
      wp_walk using wpAny_pyIter_list q1, wpAny_pyIter_tuple q2
      exact ⟨_, rfl, h⟩
    · have q1 : Heap.IsTuple (Shared.heap ⟨hp, g, d, tk, os⟩) a xs := p1
      have q2 : Heap.IsList (Shared.heap ⟨hp.push { cls := .type "tuple_iterator", data := .fields #[.ref a, .int 0 0] }, g, d, tk, os⟩) b ys := Heap.IsList.push p2 _
      wp_walk using wpAny_pyIter_tuple q1, wpAny_pyIter_list q2
      exact ⟨_, rfl, h⟩
    · have q1 : Heap.IsTuple (Shared.heap ⟨hp, g, d, tk, os⟩) a xs := p1
      have q2 : Heap.IsTuple (Shared.heap ⟨hp.push { cls := .type "tuple_iterator", data := .fields #[.ref a, .int 0 0] }, g, d, tk, os⟩) b ys := Heap.IsTuple.push p2 _
      wp_walk using wpAny_pyIter_tuple q1, wpAny_pyIter_tuple q2
      exact ⟨_, rfl, h⟩
theorem itO_at {t : Bool} {h : Heap} {j u : Addr} (e : h.get? j = some (itO t u)) : ItAt t h j u 0 := by
  cases t
  · exact ⟨_, e, rfl, rfl⟩
  · exact ⟨_, e, rfl, rfl⟩
theorem zip_called {t1 t2 : Bool} {a b : Addr} {xs ys : Array Value} {Q : Value → Shared → Prop} (p1 : SqA t1 s.heap a xs) (p2 : SqA t2 s.heap b ys)
    (q : ∀ h', ZipAt h' t1 t2 (s.heap.objs.size + 4) (s.heap.objs.size + 2) (s.heap.objs.size + 3) s.heap.objs.size (s.heap.objs.size + 1) a b .none 0 → (∀ c o, s.heap.get? c = some o → h'.get? c = some o) → Q (.ref (s.heap.objs.size + 4)) { s with heap := h' }) :
    wpAny (model P w) A (call (.type "zip") [.ref a, .ref b]) Q E s := by
  apply callType_new F.called_zip (by decide) (F.typeCall_zip_2 _ _) (F.newCall_zip_2 _ _) (fun o => F.args_object_init_3 o _ _) F.entry_zip_new (zip_made t1 t2 a b xs ys)
  refine ⟨p1, p2, ?_⟩
  have s1 : (zh1 s.heap t1 a).objs.size = s.heap.objs.size + 1 := Heap.size_push ..
  have s2 : (zh2 s.heap t1 t2 a b).objs.size = s.heap.objs.size + 2 := by rw [Heap.size_push, s1]
  have s3 : (zh3 s.heap t1 t2 a b).objs.size = s.heap.objs.size + 3 := by rw [Heap.size_push, s2]
  have s4 : (zh4 s.heap t1 t2 a b).objs.size = s.heap.objs.size + 4 := by rw [Heap.size_push, s3]
  have up := fun {h : Heap} {c : Addr} {o : Obj} (n : Obj) (e : h.get? c = some o) => Heap.get?_push_of_some n e
  have e5 : (zh5 s.heap t1 t2 a b).get? (zh4 s.heap t1 t2 a b).objs.size = some _ := Heap.get?_push_size _ rfl
  have e4 : (zh5 s.heap t1 t2 a b).get? (zh3 s.heap t1 t2 a b).objs.size = some _ := up _ (Heap.get?_push_size _ rfl)
  have e3 : (zh5 s.heap t1 t2 a b).get? (zh2 s.heap t1 t2 a b).objs.size = some _ := up _ (up _ (Heap.get?_push_size _ rfl))
  have e2 : (zh5 s.heap t1 t2 a b).get? (zh1 s.heap t1 a).objs.size = some _ := up _ (up _ (up _ (Heap.get?_push_size _ rfl)))
  have e1 : (zh5 s.heap t1 t2 a b).get? s.heap.objs.size = some _ := up _ (up _ (up _ (up _ (Heap.get?_push_size _ rfl))))
  rw [s2, s3, s4] at e5
  rw [s1, s2] at e3
  rw [s3] at e4
  rw [s1] at e2
  show _ ∧ _
  rw [s4]
  exact ⟨⟨_, e5, rfl⟩, q _ ⟨e5, e3, ⟨_, _, e4⟩, itO_at e1, itO_at e2⟩ fun c o e => up _ (up _ (up _ (up _ (up _ e))))⟩
end
theorem boot_zip' : bootBuiltins "zip" = some (.type "zip") := by decide +kernel
section
variable {X : Cx}
def iZip (ta : TA) : TI := fun σ H R => ta σ H fun vs H1 => ∃ a b, vs = [.ref a, .ref b] ∧ ∃ t1 t2 xs ys, SqK t1 H1 a xs ∧ SqK t2 H1 b ys ∧ R (Itz t1 t2 a b) H1
theorem pi_zip {a b : Expr} {ta : TA} {p pos tpos : Pos} {elts : List Expr} {kk : Nat} (hg : Gl X "zip") (hm : X.mg "zip" = none) (ha : PA X [a, b] ta) (hs1 : isStar a = false := by rfl) (hs2 : isStar b = false := by rfl) :
    PI X (.Tuple elts kk tpos) (.Call (.Name "zip" p) [a, b] [] pos) (iZip ta) := by
  intro pins s σ H R I h
  have st1 := star_of (es := [b]) (env := X.env) hs1
  have st2 := star_of (es := []) (env := X.env) hs2
  refine Call_ (ld_blt I hg hm boot_zip' (PyProof.Rows.callWith_type1 (thn (ha pos pins s σ H _ I h) fun us s1 ⟨vs, H1, I1, r1, q1⟩ => ?_) st1 (by rw [st2]; rfl)))
  obtain ⟨a', b', rfl, t1, t2, xs, ys, h1, h2, q⟩ := q1
  obtain ⟨u1, u2, rfl, g1, g2⟩ := Vals.two r1
  cases (show u1 = Value.ref a' from g1)
  cases (show u2 = Value.ref b' from g2)
  obtain ⟨its, rv, pa⟩ := h1.its I1
  obtain ⟨jts, rw', pb⟩ := h2.its I1
  refine zip_called pa pb fun h' zz kp => ?_
  apply wpAny_pyIter_zip zz.zip
  have nd : [s1.heap.objs.size + 4, s1.heap.objs.size + 2, s1.heap.objs.size + 3, s1.heap.objs.size, s1.heap.objs.size + 1].Nodup := by simp
  refine ⟨_, _, _, _, H1, rfl, I1.kept (t' := s1.toks) kp, turn_zip nd, zz, fun c hc => ?_, q⟩
  have le : s1.heap.objs.size ≤ c := by
    simp only [List.mem_cons, List.not_mem_nil, or_false] at hc
    rcases hc with rfl | rfl | rfl | rfl | rfl <;> simp
  exact I1.fpOk le (I1.hok.fresh le)
end
end L2
namespace L2
open PySem PySem.Spec PyProof.Rows
def rCat2 : R2 := fun x y H Q => ∃ a b xs ys, x = .ref a ∧ y = .ref b ∧ H a = some (.tup xs) ∧ H b = some (.tup ys) ∧ xs.length + ys.length ≤ sizeLine ∧ ∀ p H', Same H H' → H' p = some (.tup (xs ++ ys)) → Q (.ref p) H'
section
variable {X : Cx}
theorem same_upd {H : Hp} {p : Addr} (h : H p = none) (o : HO) : Same H (upd H p o) := fun b u e => by rw [upd_ne (ne_of_none e h)]; exact e
theorem op_cat2 : OpR X (binaryOp .Add) rCat2 := by
  intro pins s σ H x y v u Q I rx ry h
  obtain ⟨a, b, xs, ys, rfl, rfl, ha, hb, hz, q⟩ := h
  by_cases e : xs = []
  · cases rx
    cases ry
    subst e
    obtain ⟨its, r1, p1, _⟩ := I.tuple (SqT.of ha)
    obtain ⟨jts, r2, p2, _⟩ := I.tuple (SqT.of hb)
    have e1 : its = [] := r1.nil_iff.mpr rfl
    subst e1
    obtain ⟨⟨c1, d1, dt1, s1⟩, o1, k1, n1, w1⟩ := id p1
    obtain ⟨⟨c2, d2, dt2, s2⟩, o2, k2, n2, w2⟩ := id p2
    simp only at k1 w1 k2 w2
    subst k1 w1 k2 w2
    exact concat_meets ⟨_, o1, rfl⟩ ⟨_, o2, rfl⟩ noFill_tuple_add seq_tuple_add PySem.F.slot_tuple_add PySem.F.entry_tuple_add (PySem.F.args_tuple_add_2 _ _)
      (tuple_addW0 a b #[] jts.toArray n1 n2 d1 d2 s1 s2 (by simp)) ⟨o1, o2, ⟨.ref b, H, I, rfl, q b H (fun _ _ e => e) hb⟩⟩
  · refine op_catT pins s σ H _ _ v u Q I rx ry ⟨a, b, xs, ys, rfl, rfl, SqT.of ha, SqT.of hb, e, hz, fun hy => ?_, fun hy p hp => ?_⟩
    · subst hy; exact q a H (fun _ _ e => e) (by simpa using ha)
    · exact q p _ (same_upd hp _) upd_same
theorem pe_op_cat2 {a b : Expr} {ta tb : TE} {pos : Pos} (ha : PE X a ta) (hb : PE X b tb) : PE X (.BinOp a .Add b pos) (tOp rCat2 ta tb) := pe_op op_cat2 ha hb
end
section
variable {P : Program} {w : World} {A : Around} {E : Value → Shared → Prop} {s : Shared}
theorem drawsK (quiet : A.handled = none) (t : Bool) (j u : Addr) (ne : u ≠ j) (vs : Array Value) : Draws P w A j [j, u] vs.size (fun i v => vs[i]? = some v) (fun i h => ItAt t h j u i ∧ SqA t h u vs) where
  live := fun i h x => let ⟨o, e, _⟩ := x.1.obj; ⟨o, e⟩
  frame := fun i h h' x k => ⟨x.1.stay fun o e => k j (by simp) o e, x.2.stay fun o e => k u (by simp) o e⟩
  item := fun i s Q E hi x q => next_item x.1 x.2 (x := vs[i]) (by simp [hi]) fun h' a b => q _ h' s.toks (by simp [hi]) ⟨a, x.2.stay fun o e => b.extBut _ _ ne e⟩ b
  done := fun s Q E x q => next_end quiet x.1 x.2 (by simp) q
theorem enum_madeT (u : Addr) (vs : Array Value) (n : Nat) (dct : Option Addr) (sl : Array (Option Value)) :
    Meets (Builtin.«enumerate.__new__» ⟨[.type "enumerate", .ref u], []⟩) (fun _ R s => s.heap.get? u = some { cls := .type "tuple", dict := dct, data := .seq vs n, slots := sl } ∧
      R (.ok (.ret (.ref (s.heap.push (itO true u)).objs.size))) { s with heap := (s.heap.push (itO true u)).push { cls := .type "enumerate", data := .fields #[.none, .bool false, .ref s.heap.objs.size, rawInt 0, .none, .none] } }) :=
  .of_wp fun P w A R s h => by
    obtain ⟨hp, g, d, tk, os⟩ := s
    obtain ⟨e, h⟩ := h
    have sub := sub_enumerate
    have tu : Heap.IsTuple (Shared.heap ⟨hp, g, d, tk, os⟩) u vs := ⟨_, e, rfl, n, rfl⟩
    wp_walk using AutoSeq1.wpAny_loadPart' e
    refine wpAny_stack_any fun st => wpAny_pure ?_
    split
    · rename_i c _ _ _ _ _
      cases (c == Value.type "enumerate")
      · wp_walk using AutoSeq1.wpAny_loadPart' e, wpAny_pyIter_tuple tu
        exact ⟨_, rfl, h⟩
      · wp_walk using AutoSeq1.wpAny_loadPart' e, wpAny_pyIter_tuple tu
        exact ⟨_, rfl, h⟩
    · wp_walk using AutoSeq1.wpAny_loadPart' e, wpAny_pyIter_tuple tu
      exact ⟨_, rfl, h⟩
theorem enum_called {t : Bool} {u : Addr} {vs : Array Value} {Q : Value → Shared → Prop} (p : SqA t s.heap u vs)
    (q : ∀ h', IsEnum h' (s.heap.objs.size + 1) s.heap.objs.size 0 .none → ItAt t h' s.heap.objs.size u 0 → (∀ c o, s.heap.get? c = some o → h'.get? c = some o) → Q (.ref (s.heap.objs.size + 1)) { s with heap := h' }) :
    wpAny (model P w) A (call (.type "enumerate") [.ref u]) Q E s := by
  cases t
  · exact call_enumerate_list p fun h' a b c d => q h' a b d
  · obtain ⟨⟨c, dct, dt, sl⟩, e, k, n, g⟩ := p
    simp only at k g
    subst k g
    apply callType_new F.called_enumerate (by decide) (F.typeCall_enumerate_1 _) (F.newCall_enumerate_1 _) (fun o => F.args_object_init_2 o _) F.entry_enumerate_new (enum_madeT u vs n dct sl)
    refine ⟨e, ?_⟩
    have z1 : (s.heap.push (itO true u)).objs.size = s.heap.objs.size + 1 := Heap.size_push ..
    have en : IsEnum ((s.heap.push (itO true u)).push { cls := .type "enumerate", data := .fields #[.none, .bool false, .ref s.heap.objs.size, rawInt 0, .none, .none] }) (s.heap.push (itO true u)).objs.size s.heap.objs.size 0 .none := Heap.get?_push_size _ rfl
    rw [z1] at en
    show _ ∧ _
    rw [z1]
    exact ⟨⟨_, en, rfl⟩, q _ en (itO_at (Heap.get?_push_of_some _ (Heap.get?_push_size _ rfl))) fun c o x => Heap.get?_push_of_some _ (Heap.get?_push_of_some _ x)⟩
end
def Ite (t : Bool) (a : Addr) : It :=
  ⟨fun i H => ∃ xs x, SqK t H a xs ∧ xs[i]? = some x,
   fun i H v H' => ∃ p x, v = .ref p ∧ H p = none ∧ H' = upd H p (.tup [.int i, x]) ∧ ∀ xs, SqK t H a xs → xs[i]? = some x,
   fun i H => ∃ xs, SqK t H a xs ∧ xs.length ≤ i⟩
theorem turn_enum {P : Program} {w : World} {K : PySem.W.Frag} {t : Bool} {elts : List Expr} {kk : Nat} {pos : Pos} {e j a : Addr} (ne : e ≠ j) :
    Turn P w K (.Tuple elts kk pos) (Ite t a) [e, j] e (fun i h => (∃ old, IsEnum h e j i old) ∧ ItAt t h j a i) where
  mem := by simp
  obj := fun i h st c hc => by
    simp only [List.mem_cons, List.not_mem_nil, or_false] at hc
    rcases hc with rfl | rfl
    · obtain ⟨old, q⟩ := st.1; exact ⟨_, q, fun v e => by cases e⟩
    · obtain ⟨o, e, q⟩ := st.2.obj; exact ⟨o, e, fun v e => by rw [q] at e; cases e⟩
  keep := fun i h h' st k => by
    obtain ⟨⟨old, q⟩, r⟩ := st
    exact ⟨⟨old, k e (by simp) _ q⟩, r.stay fun o e => k j (by simp) o e⟩
  item := by
    intro X hP hw hK hc i pins s σ H E I hf st hg
    subst hP hw hK
    obtain ⟨xs, x, ha, hx⟩ := hg
    obtain ⟨⟨old, en⟩, it⟩ := st
    obtain ⟨its, rv, pa⟩ := ha.its I
    obtain ⟨u, hu, ru⟩ := rv.get hx
    have off : ∀ c ∈ [e, j], a ≠ c := fun c m z => by obtain ⟨o, q⟩ := ha.some; rw [z, (hf c m).1] at q; cases q
    have dr := drawsK (P := X.prog) (w := X.w) (A := X.A.in1) (I.ok.hd hc) t j a (off j (by simp)) its.toArray
    have li : i < its.toArray.size := by simpa using (List.getElem?_eq_some_iff.mp hu).1
    refine wpAny_pyNext_enum_itemD dr en ⟨it, pa⟩ li ne (by simp; exact ⟨ne, fun z => off e (by simp) z.symm⟩) fun u' h1 tk pu ou st1 new _ kp => ?_
    have eu : u' = u := by
      have pu : its.toArray[i]? = some u' := pu
      rw [List.getElem?_toArray, hu] at pu; cases pu; rfl
    subst eu
    refine ⟨_, rfl, ?_⟩
    apply wpAny_letOwnedTupleGo_enum ou
    intro h2 en2 sb
    have lt : ∀ c ∈ [e, j], c < s.heap.objs.size := fun c m => by
      simp only [List.mem_cons, List.not_mem_nil, or_false] at m
      rcases m with rfl | rfl
      · exact Heap.lt_size en
      · obtain ⟨o, e, _⟩ := it.obj; exact Heap.lt_size e
    have new2 : h2.get? s.heap.objs.size = some { cls := .type "tuple", data := .seq #[.int i tk, u'] } := sb.extBut _ _ (Nat.ne_of_gt (lt e (by simp))) new
    have ok : ObjOk X.prog X.w (upd H s.heap.objs.size (.tup [.int i, x])) h2 s.heap.objs.size (.tup [.int i, x]) := ⟨(show 2 ≤ sizeLine by decide), [.int i tk, u'], .cons ⟨tk, rfl⟩ (.cons ru .nil), ⟨_, new2, rfl, _, rfl⟩⟩
    have I2 := I.turnLay (t' := tk + 1) hf (h' := h2) (fun c o m q => sb.extBut _ _ (fun z => m (by simp [z])) (kp c o (fun z => m (by simp [z])) (fun z => m (by simp [z])) q)) (Nat.le_refl _) ok
    refine ⟨.ref s.heap.objs.size, _, I2, rfl, ⟨_, x, rfl, I.hok.fresh (Nat.le_refl _), rfl, fun xs' h => ?_⟩, ⟨⟨u', ?_⟩, ?_⟩, fun c m => ?_⟩
    · rw [h.one ha]; exact hx
    · have : IsEnum h2 e j ((i : Int) + 1) u' := en2
      simpa using this
    · exact st1.1.stay fun o q => sb.extBut _ _ (Ne.symm ne) q
    · rw [upd_ne (Nat.ne_of_lt (lt c m))]
      exact (hf c m).1
  done := by
    intro X hP hw hK hc i pins s σ H E I hf st hg
    subst hP hw hK
    obtain ⟨xs, ha, hl⟩ := hg
    obtain ⟨⟨old, en⟩, it⟩ := st
    obtain ⟨its, rv, pa⟩ := ha.its I
    have off : ∀ c ∈ [e, j], a ≠ c := fun c m z => by obtain ⟨o, q⟩ := ha.some; rw [z, (hf c m).1] at q; cases q
    have ty : s.TypeIs (.ref e) "enumerate" := ⟨_, en, rfl⟩
    have ln := rv.length
    unfold pyNext
    apply wpAny_bind
    apply wpAny_attempt
    refine wpAny_callSpecial?_slot (name := Str.ofString "__next__") ty F.slot_enumerate_next ?_
    refine wpAny_call_entry F.slot_enumerate_next ty F.entry_enumerate_next ?_ (F.args_enumerate_next_1 _)
    apply wpAny_bind (m := field (.ref e) 2)
    apply wpAny_field en rfl (x := .ref j) rfl
    apply wpAny_bind
    refine next_end (I.ok.hd hc) it pa (by simp; omega) fun h1 x kp hx => ?_
    obtain ⟨o, e1, e2⟩ := hx
    apply wpAny_bind
    refine wpAny_isInstance (T := "StopIteration") (b := true) ⟨o, e1, e2⟩ isSubtype_stop ?_
    exact wpAny_pure ⟨rfl, I.turnL (t' := s.toks) hf fun c o m q => kp c o (fun z => m (by simp [z])) q⟩
  self := fun _ _ _ _ _ st h => let ⟨_, q⟩ := st.1; wpAny_pyIter_enum q h
theorem boot_enum' : bootBuiltins "enumerate" = some (.type "enumerate") := by decide +kernel
section
variable {X : Cx}
def iEnum (ta : TA) : TI := fun σ H R => ta σ H fun vs H1 => ∃ a, vs = [.ref a] ∧ ∃ t xs, SqK t H1 a xs ∧ R (Ite t a) H1
theorem pi_enum {a : Expr} {ta : TA} {p pos tpos : Pos} {elts : List Expr} {kk : Nat} (hg : Gl X "enumerate") (hm : X.mg "enumerate" = none) (ha : PA X [a] ta) (hs1 : isStar a = false := by rfl) :
    PI X (.Tuple elts kk tpos) (.Call (.Name "enumerate" p) [a] [] pos) (iEnum ta) := by
  intro pins s σ H R I h
  have st1 := star_of (es := []) (env := X.env) hs1
  refine Call_ (ld_blt I hg hm boot_enum' (PyProof.Rows.callWith_type1 (thn (ha pos pins s σ H _ I h) fun us s1 ⟨vs, H1, I1, r1, q1⟩ => ?_) st1 rfl))
  obtain ⟨a', rfl, t, xs, h1, q⟩ := q1
  obtain ⟨u1, rfl, g1⟩ := vals1 r1
  cases (show u1 = Value.ref a' from g1)
  obtain ⟨its, rv, pa⟩ := h1.its I1
  refine enum_called pa fun h' en it kp => ?_
  apply wpAny_pyIter_enum en
  refine ⟨_, _, _, _, H1, rfl, I1.kept (t' := s1.toks) kp, turn_enum (Nat.ne_of_gt (Nat.lt_succ_self _)), ⟨⟨_, en⟩, it⟩, fun c hc => ?_, q⟩
  have le : s1.heap.objs.size ≤ c := by
    simp only [List.mem_cons, List.not_mem_nil, or_false] at hc
    rcases hc with rfl | rfl <;> simp
  exact I1.fpOk le (I1.hok.fresh le)
end
section
variable {X : Cx}
def tPar3 (i j k : Nat) (ta : TA) : TS := fun D σ H => ta σ H fun vs H1 => ∃ v w y, vs = [v, w, y] ∧ D.nx (((σ.set i (some v)).set j (some w)).set k (some y)) H1
theorem ps_par3 {i j k : Nat} {x y z : Str} {a b c : Expr} {ta : TA} {px py pz pt : Pos} {kt k2 pt2} (hc : X.calm = true) (hN : X.N.Nodup) (hi : X.N[i]? = some x) (hj : X.N[j]? = some y) (hk : X.N[k]? = some z) (hij : i ≠ j) (hik : i ≠ k) (hjk : j ≠ k)
    (hx : X.env.scope.names.lookup x = some .local) (hy : X.env.scope.names.lookup y = some .local) (hz : X.env.scope.names.lookup z = some .local) (ha : PA X [a, b, c] ta)
    (hw : swappedStores [.Tuple [.Name x px, .Name y py, .Name z pz] kt pt] (.Tuple [a, b, c] k2 pt2) X.env = pure (some [x, y, z]))
    (hs : swapsWithSole [.Tuple [.Name x px, .Name y py, .Name z pz] kt pt] (.Tuple [a, b, c] k2 pt2) pos.line X.env = pure false := by rfl) :
    PS X (.Assign [.Tuple [.Name x px, .Name y py, .Name z pz] kt pt] (.Tuple [a, b, c] k2 pt2) pos) (tPar3 i j k ta) := by
  intro pins s σ H D I h
  rw [exec_Assign_arm]
  refine wpAny_bind (wpAny_standAt ?_)
  rw [hs]
  refine wpAny_bind (wpAny_pure ?_)
  rw [if_neg (by decide)]
  refine wpAny_bind (Tuple_ (thn (ha _ pins s σ H _ I h) fun us s1 ⟨vs, H1, I1, r1, q1⟩ => ?_))
  obtain ⟨v, w, y', e1, q1⟩ := q1
  subst e1
  obtain ⟨u1, u2, u3, rfl, rv, rw', ry⟩ : ∃ u1 u2 u3, us = [u1, u2, u3] ∧ RelV v u1 ∧ RelV w u2 ∧ RelV y' u3 := by
    cases r1 with
    | cons p q =>
      cases q with
      | cons p' q' =>
        cases q' with
        | cons p'' q'' =>
          cases q''
          exact ⟨_, _, _, rfl, p, p', p''⟩
  refine wpAny_newObj_type ?_ (by show 3 ≤ sizeLine; decide)
  have I2 : Inv X pins σ H1 { s1 with heap := s1.heap.push { cls := .type "tuple", data := .seq [u1, u2, u3].toArray } } := I1.kept (t' := s1.toks) fun b o e => Heap.get?_push_of_some _ e
  rw [hw]
  refine wpAny_bind (wpAny_pure ?_)
  show wpAny (model X.prog X.w) X.A (do rule "assign.swapped-stores"; let items ← unpackItems (.ref s1.heap.objs.size) 3 none; assignInOrder [fun v => bindName X.env z v, fun v => bindName X.env y v, fun v => bindName X.env x v] items.reverse; pure Flow.next) _ _ _
  refine wpAny_bind (wpAny_rule (wpAny_bind (unpackItems_tuple (items := #[u1, u2, u3]) (I.ok.hd hc) (IsTup.new s1.heap _) fun h' hx' => ?_)))
  have I3 := I2.kept (h' := h') (t' := s1.toks) fun b o e => hx' b o (Nat.ne_of_lt (Heap.lt_size e)) e
  show wpAny _ _ (assignInOrder [fun v => bindName X.env z v, fun v => bindName X.env y v, fun v => bindName X.env x v] [u3, u2, u1] >>= fun _ => pure Flow.next) _ _ _
  refine wpAny_bind (assignInOrder_cons (wpAny_bindName (store_ok I3 hN hk (.inl hz) ry (fun s2 I4 => ?_) (.inr hz))))
  refine assignInOrder_cons (wpAny_bindName (store_ok I4 hN hj (.inl hy) rw' (fun s3 I5 => ?_) (.inr hy)))
  refine assignInOrder_cons (wpAny_bindName (store_ok I5 hN hi (.inl hx) rv (fun s4 I6 => assignInOrder_nil (wpAny_pure ?_)) (.inr hx)))
  rw [List.set_comm _ _ (Ne.symm hij), List.set_comm _ _ (Ne.symm hik), List.set_comm _ _ (Ne.symm hjk)] at I6
  exact ⟨_, H1, I6, q1⟩
end
end L2
namespace L2
open PySem PySem.Spec PyProof.Rows
section
variable {X : Cx} {a b : Expr} {ta tb : TE} {pos : Pos}
def rInD (neg : Bool) : R2 := fun x y H Q => ∃ d ds, Tr H d x ∧ (Tr H (.list ds) y ∨ Tr H (.tuple ds) y) ∧ Flat d ∧ PyData.canLayAll0 ds = true ∧ Q (.bl (if neg then !ds.any (fun e => PyData.eqv e d) else ds.any fun e => PyData.eqv e d)) H
theorem pe_op_inD (hu : X.A.units + 64 < cLine) (ha : PE X a ta) (hb : PE X b tb) (hm : behindInMarks .In b = false) : PE X (.Compare a [.In] [b] pos) (tOp (rInD false) ta tb) := pe_cmpR (op_inD hu) ha hb hm
theorem pt_op_inD (hu : X.A.units + 64 < cLine) (ha : PE X a ta) (hb : PE X b tb) (hm : behindInMarks .In b = false) : PT X (.Compare a [.In] [b] pos) (tTest (tOp (rInD false) ta tb)) := pt_cmpR (op_inD hu) ha hb hm
theorem pe_op_notInD (hu : X.A.units + 64 < cLine) (ha : PE X a ta) (hb : PE X b tb) (hm : behindInMarks .NotIn b = false) : PE X (.Compare a [.NotIn] [b] pos) (tOp (rInD true) ta tb) := pe_cmpR (op_notInD hu) ha hb hm
theorem pt_op_notInD (hu : X.A.units + 64 < cLine) (ha : PE X a ta) (hb : PE X b tb) (hm : behindInMarks .NotIn b = false) : PT X (.Compare a [.NotIn] [b] pos) (tTest (tOp (rInD true) ta tb)) := pt_cmpR (op_notInD hu) ha hb hm
end
end L2
set_option autoImplicit true
namespace L2
open PySem PySem.Spec PyProof.Rows
structure QE (X : Cx) (e : Expr) (t : TE) : Prop where
  get : PE X e t
structure QT (X : Cx) (e : Expr) (t : TT) : Prop where
  get : PT X e t
structure QW (X : Cx) (e : Expr) (t : TT) : Prop where
  get : PW X e t
structure QA (X : Cx) (e : (List Expr)) (t : TA) : Prop where
  get : PA X e t
structure QS (X : Cx) (st : Stmt) (t : TS) : Prop where
  get : PS X st t
structure QSs (X : Cx) (st : (List Stmt)) (t : TS) : Prop where
  get : PSs X st t
structure QG (X : Cx) (e : Expr) (t : TG) : Prop where
  get : PG X e t
structure QGs (X : Cx) (e : (List Expr)) (t : TGs) : Prop where
  get : PGs X e t
structure QO (X : Cx) (e : (Option Expr)) (t : TO) : Prop where
  get : PO X e t
structure QK (X : Cx) (e : (List Keyword)) (t : TA) : Prop where
  get : PK X e t
structure QTs (X : Cx) (e : (List Expr)) (t : TT) : Prop where
  get : PTs X e t
structure QI (X : Cx) (tg iter : Expr) (wi : TI) : Prop where
  get : PI X tg iter wi
theorem qe_var {i : Nat} {x : Str} {pos : Pos} (hN : X.N[i]? = some x) (hv : Vis X.env.scope x) (hd : (x == ("__debug__" : Str)) = false := by decide) (hcd : (x == ("__classdict__" : Str)) = false := by decide) : QE X (.Name x pos) (tVar i) :=
  ⟨pe_var (hN := hN) (hv := hv) (hd := hd) (hcd := hcd)⟩
theorem qe_int {i j pos} : QE X (.Constant (.int i) j pos) (tC (.int i)) :=
  ⟨pe_int ⟩
theorem qe_bl {b j pos} : QE X (.Constant (.bool b) j pos) (tC (.bl b)) :=
  ⟨pe_bl ⟩
theorem qe_non {j pos} : QE X (.Constant .none j pos) (tC .non) :=
  ⟨pe_non ⟩
theorem qe_str {x j pos} : QE X (.Constant (.str x) j pos) (tC (.str x)) :=
  ⟨pe_str ⟩
theorem qe_glob {x : Str} {v : V} {u : Value} {pos : Pos} (hg : Gl X x) (hm : X.mg x = some u) (r : RelV v u) (hd : (x == ("__debug__" : Str)) = false := by decide) : QE X (.Name x pos) (tC v) :=
  ⟨pe_glob (hg := hg) (hm := hm) (r := r) (hd := hd)⟩
theorem qe_bltn {x : Str} {v : V} {u : Value} {pos : Pos} (hg : Gl X x) (hm : X.mg x = none) (hv : bootBuiltins x = some u) (r : RelV v u) (hn : x ≠ "__name__" := by decide) (hd : (x == ("__debug__" : Str)) = false := by decide) : QE X (.Name x pos) (tC v) :=
  ⟨pe_bltn (hg := hg) (hm := hm) (hv := hv) (r := r) (hn := hn) (hd := hd)⟩
theorem qw_and1 (ha : QT X a tA) : QW X (.BoolOp .And [a] pos) tA :=
  ⟨pw_and1 (ha := ha.get)⟩
theorem qw_or1 (ha : QT X a tA) : QW X (.BoolOp .Or [a] pos) tA :=
  ⟨pw_or1 (ha := ha.get)⟩
theorem qw_and (ha : QT X a tA) (hb : QW X (.BoolOp .And (b :: rst) pos) tB') : QW X (.BoolOp .And (a :: b :: rst) pos) (tAnd tA tB') :=
  ⟨pw_and (ha := ha.get) (hb := hb.get)⟩
theorem qw_or (ha : QT X a tA) (hb : QW X (.BoolOp .Or (b :: rst) pos) tB') : QW X (.BoolOp .Or (a :: b :: rst) pos) (tOr tA tB') :=
  ⟨pw_or (ha := ha.get) (hb := hb.get)⟩
theorem qt_not (ha : QT X a tA) : QT X (.UnaryOp .Not a pos) (tNot tA) :=
  ⟨pt_not (ha := ha.get)⟩
theorem qe_one {op} {t : TE} (h : QE X a t) : QE X (.BoolOp op [a] pos) t :=
  ⟨pe_one (h := h.get)⟩
theorem qe_and (ha : QE X a ta) (hb : QE X (.BoolOp .And (b :: rst) pos) tb) : QE X (.BoolOp .And (a :: b :: rst) pos) (tAndV ta tb) :=
  ⟨pe_and (ha := ha.get) (hb := hb.get)⟩
theorem qe_or (ha : QE X a ta) (hb : QE X (.BoolOp .Or (b :: rst) pos) tb) : QE X (.BoolOp .Or (a :: b :: rst) pos) (tOrV ta tb) :=
  ⟨pe_or (ha := ha.get) (hb := hb.get)⟩
theorem qe_not (ha : QE X a ta) : QE X (.UnaryOp .Not a pos) (tNotV ta) :=
  ⟨pe_not (ha := ha.get)⟩
theorem qe_ifExp {c : Expr} (hc : QT X c tA) (ha : QE X a ta) (hb : QE X b tb) : QE X (.IfExp c a b pos) (tIf tA ta tb) :=
  ⟨pe_ifExp (hc := hc.get) (ha := ha.get) (hb := hb.get)⟩
theorem qss_nil  : QSs X [] tNext :=
  ⟨pss_nil ⟩
theorem qss_cons (h1 : QS X stm t) (h2 : QSs X rst u) : QSs X (stm :: rst) (tSeq t u) :=
  ⟨pss_cons (h1 := h1.get) (h2 := h2.get)⟩
theorem qss_one (h1 : QS X stm t) : QSs X [stm] t :=
  ⟨pss_one (h1 := h1.get)⟩
theorem qs_pass  : QS X (.Pass pos) tNext :=
  ⟨ps_pass ⟩
theorem qs_break  : QS X (.Break pos) tBreak :=
  ⟨ps_break ⟩
theorem qs_continue  : QS X (.Continue pos) tCont :=
  ⟨ps_continue ⟩
theorem qs_doc {x j pos pos'} : QS X (.Expr (.Constant (.str x) j pos) pos') tNext :=
  ⟨ps_doc ⟩
theorem qs_expr (he : QE X e te) (hs : swapsWith e none pos.line X.env = pure false := by rfl) : QS X (.Expr e pos) (tDrop te) :=
  ⟨ps_expr (he := he.get) (hs := hs)⟩
theorem qs_ret (he : QE X e te) : QS X (.Return (some e) pos) (tRet te) :=
  ⟨ps_ret (he := he.get)⟩
theorem qs_retN  : QS X (.Return none pos) tRetN :=
  ⟨ps_retN ⟩
theorem qs_if {c : Expr} {a b : List Stmt} {tc : TT} (hc : QT X c tc) (ha : QSs X a t) (hb : QSs X b u) : QS X (.If c a b pos) (tIfS tc t u) :=
  ⟨ps_if (hc := hc.get) (ha := ha.get) (hb := hb.get)⟩
theorem qs_never  : QS X stm tNever :=
  ⟨ps_never ⟩
theorem qss_never {sts : List Stmt} : QSs X sts tNever :=
  ⟨pss_never ⟩
theorem qg_name {i : Nat} {x : Str} (hN : X.N.Nodup) (hi : X.N[i]? = some x) (hx : Loc X.env.scope x) (hf : X.fn x = true ∨ X.env.scope.names.lookup x = some .local := by first | exact .inl rfl | exact .inr rfl | assumption) : QG X (.Name x pos) (gName i) :=
  ⟨pg_name (hN := hN) (hi := hi) (hx := hx) (hf := hf)⟩
theorem qgs_nil  : QGs X [] gNil :=
  ⟨pgs_nil ⟩
theorem qgs_cons {e : Expr} {es : List Expr} {t : TG} {u : TGs} (h1 : QG X e t) (h2 : QGs X es u) (hs : (assignEach (e :: es) X.env).map (·.2) = assign e X.env :: (assignEach es X.env).map (·.2) := by rfl) : QGs X (e :: es) (gCons t u) :=
  ⟨pgs_cons (h1 := h1.get) (h2 := h2.get) (hs := hs)⟩
theorem qg_tup {Kq : PySem.W.Frag} (hKq : X.K = Kq) {es : List Expr} {k : Nat} {t : TGs} {n : Nat} (hc : X.calm = true) (h : QGs X es t) (hn : (assignEach es X.env).length = n := by rfl) (hst : (assignEach es X.env).findIdx? (·.1) = none := by rfl) : QG X (.Tuple es k pos) (gTup Kq n t) := by
  subst hKq
  exact ⟨pg_tup (hc := hc) (h := h.get) (hn := hn) (hst := hst)⟩
theorem qg_sub {o i : Expr} {to ti : TE} {t : TSet} (ho : QE X o to) (hi : QE X i ti) (hs : PSet X t) (ha : ∀ v, assign (.Subscript o i pos) X.env v = (do
      let ov ← holding [v] (eval o X.env)
      let iv ← holding [v, ov] (eval i X.env)
      standAt pos
      holding [v, ov, iv] (setItem ov iv v)
      release [v, ov, iv] []) := by intro _; rfl) : QG X (.Subscript o i pos) (gSub to ti t) :=
  ⟨pg_sub (ho := ho.get) (hi := hi.get) (hs := hs) (ha := ha)⟩
theorem qs_asg {tg e : Expr} {te : TE} {g : TG} (he : QE X e te) (hg : QG X tg g) (hs : swapsWithSole [tg] e pos.line X.env = pure false := by rfl) (hw : swappedStores [tg] e X.env = pure none := by rfl) (h1 : (assignEach [tg] X.env).map (·.2) = [assign tg X.env] := by rfl) : QS X (.Assign [tg] e pos) (tAsg te g) :=
  ⟨ps_asg (he := he.get) (hg := hg.get) (hs := hs) (hw := hw) (h1 := h1)⟩
theorem qs_set {i : Nat} {x : Str} {e : Expr} {te : TE} {pos' : Pos} (hN : X.N.Nodup) (hi : X.N[i]? = some x) (hx : Loc X.env.scope x) (he : QE X e te) (hs : swapsWith e (some (.Name x pos')) pos.line X.env = pure false := by rfl) (hf : X.fn x = true ∨ X.env.scope.names.lookup x = some .local := by first | exact .inl rfl | exact .inr rfl | assumption) : QS X (.Assign [.Name x pos'] e pos) (tAsg te (gName i)) :=
  ⟨ps_set (hN := hN) (hi := hi) (hx := hx) (he := he.get) (hs := hs) (hf := hf)⟩
theorem qs_par {i j : Nat} {x y : Str} {a b : Expr} {ta : TA} {px py pt : Pos} {kt k2 pt2} (hc : X.calm = true) (hN : X.N.Nodup) (hi : X.N[i]? = some x) (hj : X.N[j]? = some y) (hij : i ≠ j) (hx : X.env.scope.names.lookup x = some .local) (hy : X.env.scope.names.lookup y = some .local) (ha : QA X [a, b] ta) (hw : swappedStores [.Tuple [.Name x px, .Name y py] kt pt] (.Tuple [a, b] k2 pt2) X.env = pure (some [x, y])) (hs : swapsWithSole [.Tuple [.Name x px, .Name y py] kt pt] (.Tuple [a, b] k2 pt2) pos.line X.env = pure false := by rfl) : QS X (.Assign [.Tuple [.Name x px, .Name y py] kt pt] (.Tuple [a, b] k2 pt2) pos) (tPar i j ta) :=
  ⟨ps_par (hc := hc) (hN := hN) (hi := hi) (hj := hj) (hij := hij) (hx := hx) (hy := hy) (ha := ha.get) (hw := hw) (hs := hs)⟩
theorem qs_aug {i : Nat} {x : Str} {e : Expr} {te : TE} {op : Operator} {ti : TIp} {pos' : Pos} (hN : X.N.Nodup) (hi : X.N[i]? = some x) (hx : Loc X.env.scope x) (he : QE X e te) (ho : PIp X op ti) (hf : X.fn x = true ∨ X.env.scope.names.lookup x = some .local := by first | exact .inl rfl | exact .inr rfl | assumption) : QS X (.AugAssign (.Name x pos') op e pos) (tAug i te ti) :=
  ⟨ps_aug (hN := hN) (hi := hi) (hx := hx) (he := he.get) (ho := ho) (hf := hf)⟩
theorem qs_while {c : Expr} {body : List Stmt} {tc : TT} {tb : TS} (hp : PassesOwn (model X.prog X.w) X.A X.env X.xe) (hc : QT X c tc) (hb : QSs X body tb) : QS X (.While c body [] pos) (tWhile tc tb) :=
  ⟨ps_while (hp := hp) (hc := hc.get) (hb := hb.get)⟩
theorem qi_list {Kq : PySem.W.Frag} (hKq : X.K = Kq) {l : Expr} {tl : TE} (hl : QE X l tl) : QI X tg l (iList Kq tl) := by
  subst hKq
  exact ⟨pi_list (hl := hl.get)⟩
theorem qi_tup {Kq : PySem.W.Frag} (hKq : X.K = Kq) {l : Expr} {tl : TE} (hl : QE X l tl) : QI X tg l (iTup Kq tl) := by
  subst hKq
  exact ⟨pi_tup (hl := hl.get)⟩
theorem qi_seq {Kq : PySem.W.Frag} (hKq : X.K = Kq) {tg l : Expr} {tl : TE} (hl : QE X l tl) : QI X tg l (iSeq Kq tl) := by
  subst hKq
  exact ⟨pi_seq (hl := hl.get)⟩
theorem qi_range1 {a : Expr} {ta : TA} {p pos : Pos} (hg : Gl X "range") (hm : X.mg "range" = none) (ha : QA X [a] ta) (hs : starEach [a] X.env = [(false, eval a X.env)] := by rfl) : QI X tg (.Call (.Name "range" p) [a] [] pos) (iRng1 ta) :=
  ⟨pi_range1 (hg := hg) (hm := hm) (ha := ha.get) (hs := hs)⟩
theorem qi_range2 {a b : Expr} {ta : TA} {p pos : Pos} (hg : Gl X "range") (hm : X.mg "range" = none) (ha : QA X [a, b] ta) (hs : starEach [a, b] X.env = [(false, eval a X.env), (false, eval b X.env)] := by rfl) (hs2 : starEach [b] X.env = [(false, eval b X.env)] := by rfl) : QI X tg (.Call (.Name "range" p) [a, b] [] pos) (iRng2 ta) :=
  ⟨pi_range2 (hg := hg) (hm := hm) (ha := ha.get) (hs := hs) (hs2 := hs2)⟩
theorem qs_for {iter : Expr} {body : List Stmt} {wi : TI} {g : TG} {tb : TS} {pos : Pos} (hp : PassesOwn (model X.prog X.w) X.A X.env X.xe) (hc : X.calm = true) (hi : QI X tg iter wi) (hg : QG X tg g) (hb : QSs X body tb) (hs : ∀ x, foldedSetIterable iter X.env x = pure x := by intro _; rfl) : QS X (.For tg iter body [] pos) (tFor wi g tb) :=
  ⟨ps_for (hp := hp) (hc := hc) (hi := hi.get) (hg := hg.get) (hb := hb.get) (hs := hs)⟩
theorem qt_val {e : Expr} {t : TE} (h : QE X e t) (he : ∀ whole, isTrue e X.env whole = (do let v ← whole; standAt e.pos; holding [v] (truthy v)) := by intro _; rfl) : QT X e (tB t) :=
  ⟨pt_val (h := h.get) (he := he)⟩
theorem qe_chain {op op' : CmpOp} {r r' : R2} (ho : OpR X (compareOp op) r) (ho' : OpR X (compareOp op') r') (ha : QE X a ta) (hb : QE X b tb) (hc : QE X c tc) (hm : lastMarks [op, op'] [b, c] = false := by with_unfolding_all rfl) : QE X (.Compare a [op, op'] [b, c] pos) (tChain r r' ta tb tc) :=
  ⟨pe_chain (ho := ho) (ho' := ho') (ha := ha.get) (hb := hb.get) (hc := hc.get) (hm := hm)⟩
theorem qt_chain {op op' : CmpOp} {r r' : R2} (ho : OpR X (compareOp op) r) (ho' : OpR X (compareOp op') r') (ha : QE X a ta) (hb : QE X b tb) (hc : QE X c tc) (hm : lastMarks [op, op'] [b, c] = false := by with_unfolding_all rfl) : QT X (.Compare a [op, op'] [b, c] pos) (tTest (tChain r r' ta tb tc)) :=
  ⟨pt_chain (ho := ho) (ho' := ho') (ha := ha.get) (hb := hb.get) (hc := hc.get) (hm := hm)⟩
theorem qa_nil  : QA X [] tNil :=
  ⟨pa_nil ⟩
theorem qa_c (ha : QE X e te) (hr : QA X es t) (hs : isStar e = false := by rfl) : QA X (e :: es) (tCons te t) :=
  ⟨pa_c (ha := ha.get) (hr := hr.get) (hs := hs)⟩
theorem qe_tup {x1} (h : QA X es t) : QE X (.Tuple es x1 pos) (tTup t) :=
  ⟨pe_tup (h := h.get)⟩
theorem qe_lst (h : QA X es t) : QE X (.List es pos) (tLst t) :=
  ⟨pe_lst (h := h.get)⟩
theorem qe_callU (F : FnOk X.prog X.w X.K X.mg X.base CX k f fd ps sp) (hr : Room k X.A) (hg : Gl X x) (hm : X.mg x = some (.ref f)) (hk : PySem.W.keepIn X.K (.ref f) = true) (hb : Binds X.K fd ps ds) (hd : Vals dvs ds) (hx : Passes CX X E) (ha : QA X (e :: es) t) (hdb : (x == ("__debug__" : Str)) = false := by decide) (hn : noStar (e :: es) = true := by rfl) : QE X (.Call (.Name x p) (e :: es) [] pos) (tCall sp dvs E t) :=
  ⟨pe_callU (F := F) (hr := hr) (hg := hg) (hm := hm) (hk := hk) (hb := hb) (hd := hd) (hx := hx) (ha := ha.get) (hdb := hdb) (hn := hn)⟩
theorem qk_nil  : QK X [] tNil :=
  ⟨pk_nil ⟩
theorem qk_cons (ha : QE X e te) (hr : QK X kws t) : QK X (⟨nm, e, kpos⟩ :: kws) (tCons te t) :=
  ⟨pk_cons (ha := ha.get) (hr := hr.get)⟩
theorem qo_none  : QO X none tNoPart :=
  ⟨po_none ⟩
theorem qo_some (h : QE X e te) : QO X (some e) (tPart te) :=
  ⟨po_some (h := h.get)⟩
theorem qe_slice {r : V → Option Int → Option Int → Hp → VK → Prop} (hr : SlR X r) (he : QE X e te) (hl : QO X low tl) (hu : QO X hi th) : QE X (.Subscript e (.Slice low hi none p2) pos) (tSl r te tl th) :=
  ⟨pe_slice (hr := hr) (he := he.get) (hl := hl.get) (hu := hu.get)⟩
theorem qe_ix {r : R2} (hr : IxR X r) (ha : QE X a ta) (hb : QE X b tb) (hs : PlainIx b) : QE X (.Subscript a b pos) (tOp r ta tb) :=
  ⟨pe_ix (hr := hr) (ha := ha.get) (hb := hb.get) (hs := hs)⟩
theorem qe_ixF (ha : QE X a ta) (hb : QE X b tb) (hs : PlainIx b) : QE X (.Subscript a b pos) (tOp rIxF ta tb) :=
  ⟨pe_ixF (ha := ha.get) (hb := hb.get) (hs := hs)⟩
theorem qe_bm0 {Kq : PySem.W.Frag} (hKq : X.K = Kq) (pa : PlainAttrs T) (slot : Slot T name idn) (hty : typeOf (.builtin idn) = pure (.type "method_descriptor")) (hm : MtR X idn r) (ho : QE X o to) (hbase : attributeBase o name X.env (eval o X.env) = eval o X.env := by rfl) (hline : (apos.endLine == cpos.line) = true := by rfl) : QE X (.Call (.Attribute o name apos) [] [] cpos) (tBM0 Kq T r to) := by
  subst hKq
  exact ⟨pe_bm0 (pa := pa) (slot := slot) (hty := hty) (hm := hm) (ho := ho.get) (hbase := hbase) (hline := hline)⟩
theorem qe_bm {Kq : PySem.W.Frag} (hKq : X.K = Kq) (pa : PlainAttrs T) (slot : Slot T name idn) (hty : typeOf (.builtin idn) = pure (.type "method_descriptor")) (hm : MtR X idn r) (ho : QE X o to) (ha : QA X (e :: es) t) (hbase : attributeBase o name X.env (eval o X.env) = eval o X.env := by rfl) (hfew : ((backTo cpos (starEach (e :: es) X.env)).all (fun x => !x.1) && (backToKw cpos (keywordEach [] X.env)).all (fun x => x.1.isSome)
      && decide ((e :: es).length + ([] : List Keyword).length + (if ([] : List Keyword).isEmpty then 0 else 1) < 30)) = true := by rfl) (hline : (apos.endLine == cpos.line) = true := by rfl) (hs : starEach (e :: es) X.env = (false, eval e X.env) :: starEach es X.env := by rfl) (hplain : (backTo cpos (starEach es X.env)).any (·.1) = false := by rfl) : QE X (.Call (.Attribute o name apos) (e :: es) [] cpos) (tBM Kq T r to t) := by
  subst hKq
  exact ⟨pe_bm (pa := pa) (slot := slot) (hty := hty) (hm := hm) (ho := ho.get) (ha := ha.get) (hbase := hbase) (hfew := hfew) (hline := hline) (hs := hs) (hplain := hplain)⟩
theorem qe_append {Kq : PySem.W.Frag} (hKq : X.K = Kq) (ho : QE X a ta) (hv : QE X e te) (hbase : attributeBase a "append" X.env (eval a X.env) = eval a X.env := by rfl) (hfew : ((backTo cpos (starEach [e] X.env)).all (fun x => !x.1) && (backToKw cpos (keywordEach [] X.env)).all (fun x => x.1.isSome)
      && decide ([e].length + ([] : List Keyword).length + (if ([] : List Keyword).isEmpty then 0 else 1) < 30)) = true := by rfl) (hline : (apos.endLine == cpos.line) = true := by rfl) (hns : isStar e = false := by rfl) : QE X (.Call (.Attribute a "append" apos) [e] [] cpos) (tBM Kq "list" rAppF ta (tCons te tNil)) := by
  subst hKq
  exact ⟨pe_append (ho := ho.get) (hv := hv.get) (hbase := hbase) (hfew := hfew) (hline := hline) (hns := hns)⟩
theorem qts_nil {X : Cx} : QTs X [] tYes :=
  ⟨pts_nil ⟩
theorem qts_one {X : Cx} {c : Expr} {t : TT} (h : QT X c t) : QTs X [c] t :=
  ⟨pts_one (h := h.get)⟩
theorem qe_lc (L : LcScope X N' idx scope) (hc : X.calm = true) (hi : QI X tg iter wi) (hg : ∀ cl C s₀ H₀ ex, QG (cxComp X N' scope cl C s₀ H₀ ex) tg g) (ht : ∀ cl C s₀ H₀ ex, QTs (cxComp X N' scope cl C s₀ H₀ ex) ifs tc) (he : ∀ cl C s₀ H₀ ex, QE (cxComp X N' scope cl C s₀ H₀ ex) elt te) (hs : ∀ x, foldedSetIterable iter X.env x = pure x := by intro _; rfl) : QE X (.ListComp elt [⟨tg, iter, ifs, 0⟩] scope pos) (tLC idx wi g tc te) :=
  ⟨pe_lc (L := L) (hc := hc) (hi := hi.get) (hg := fun cl C s₀ H₀ ex => (hg cl C s₀ H₀ ex).get) (ht := fun cl C s₀ H₀ ex => (ht cl C s₀ H₀ ex).get) (he := fun cl C s₀ H₀ ex => (he cl C s₀ H₀ ex).get) (hs := hs)⟩
theorem qs_setLC {i : Nat} {y : Str} {py spos : Pos} (hN : X.N.Nodup) (hi' : X.N[i]? = some y) (hy : Loc X.env.scope y) (L : LcScope X N' idx scope) (hc : X.calm = true) (hi : QI X tg iter wi) (hg : ∀ cl C s₀ H₀ ex, QG (cxComp X N' scope cl C s₀ H₀ ex) tg g) (ht : ∀ cl C s₀ H₀ ex, QTs (cxComp X N' scope cl C s₀ H₀ ex) ifs tc) (he : ∀ cl C s₀ H₀ ex, QE (cxComp X N' scope cl C s₀ H₀ ex) elt te) (hsw : swapsWith (.ListComp elt [⟨tg, iter, ifs, 0⟩] scope pos) (some (.Name y py)) spos.line X.env = pure true := by rfl) (hf : X.fn y = true ∨ X.env.scope.names.lookup y = some .local := by first | exact .inl rfl | exact .inr rfl | assumption) (hs : ∀ x, foldedSetIterable iter X.env x = pure x := by intro _; rfl) : QS X (.Assign [.Name y py] (.ListComp elt [⟨tg, iter, ifs, 0⟩] scope pos) spos) (tAsg (tLC idx wi g tc te) (gName i)) :=
  ⟨ps_setLC (hN := hN) (hi' := hi') (hy := hy) (L := L) (hc := hc) (hi := hi.get) (hg := fun cl C s₀ H₀ ex => (hg cl C s₀ H₀ ex).get) (ht := fun cl C s₀ H₀ ex => (ht cl C s₀ H₀ ex).get) (he := fun cl C s₀ H₀ ex => (he cl C s₀ H₀ ex).get) (hsw := hsw) (hf := hf) (hs := hs)⟩
theorem qe_minkd {Kq : PySem.W.Frag} (hKq : X.K = Kq) {k : Nat} {f : Addr} {fd : FuncData} {ps : List Str} {sp : Sp} (hc : X.calm = true) (F : FnOk X.prog X.w X.K X.mg X.base CX0 k f fd ps sp) (hr : Room (k + 1) X.A) (hb : Binds X.K fd ps []) (hg : Gl X "min") (hm : X.mg "min" = none) (ha : QA X [e] t) (hkw : QK X kws tk) (hall : (backToKw pos (keywordEach kws X.env)).all (·.1.isSome) = true := by rfl) (hks : (backToKw pos (keywordEach kws X.env)).filterMap (·.1) = [Str.ofString "key", Str.ofString "default"] := by rfl) (he : backTo pos (starEach [e] X.env) = (false, eval e X.env) :: backTo pos (starEach [] X.env) := by rfl) (hpl : (backTo pos (starEach [e] X.env)).any (·.1) = false := by rfl) (hno : (backToKw pos (keywordEach kws X.env)).any (·.1.isNone) = false := by rfl) : QE X (.Call (.Name "min" p) [e] kws pos) (tMM false Kq f sp t tk) := by
  subst hKq
  exact ⟨pe_minkd (hc := hc) (F := F) (hr := hr) (hb := hb) (hg := hg) (hm := hm) (ha := ha.get) (hkw := hkw.get) (hall := hall) (hks := hks) (he := he) (hpl := hpl) (hno := hno)⟩
theorem qe_maxkd {Kq : PySem.W.Frag} (hKq : X.K = Kq) {k : Nat} {f : Addr} {fd : FuncData} {ps : List Str} {sp : Sp} (hc : X.calm = true) (F : FnOk X.prog X.w X.K X.mg X.base CX0 k f fd ps sp) (hr : Room (k + 1) X.A) (hb : Binds X.K fd ps []) (hg : Gl X "max") (hm : X.mg "max" = none) (ha : QA X [e] t) (hkw : QK X kws tk) (hall : (backToKw pos (keywordEach kws X.env)).all (·.1.isSome) = true := by rfl) (hks : (backToKw pos (keywordEach kws X.env)).filterMap (·.1) = [Str.ofString "key", Str.ofString "default"] := by rfl) (he : backTo pos (starEach [e] X.env) = (false, eval e X.env) :: backTo pos (starEach [] X.env) := by rfl) (hpl : (backTo pos (starEach [e] X.env)).any (·.1) = false := by rfl) (hno : (backToKw pos (keywordEach kws X.env)).any (·.1.isNone) = false := by rfl) : QE X (.Call (.Name "max" p) [e] kws pos) (tMM true Kq f sp t tk) := by
  subst hKq
  exact ⟨pe_maxkd (hc := hc) (F := F) (hr := hr) (hb := hb) (hg := hg) (hm := hm) (ha := ha.get) (hkw := hkw.get) (hall := hall) (hks := hks) (he := he) (hpl := hpl) (hno := hno)⟩
theorem qe_neg (ha : QE X a ta) : QE X (.UnaryOp .USub a pos) (tUn (rU fun i => .int (-i)) ta) :=
  ⟨pe_neg (ha := ha.get)⟩
theorem qe_op_add (ha : QE X a ta) (hb : QE X b tb) : QE X (.BinOp a .Add b pos) (tOp (rI0 fun i j => .int (i + j)) ta tb) :=
  ⟨pe_op_add (ha := ha.get) (hb := hb.get)⟩
theorem qe_op_sub (ha : QE X a ta) (hb : QE X b tb) : QE X (.BinOp a .Sub b pos) (tOp (rI0 fun i j => .int (i - j)) ta tb) :=
  ⟨pe_op_sub (ha := ha.get) (hb := hb.get)⟩
theorem qe_op_mul (ha : QE X a ta) (hb : QE X b tb) : QE X (.BinOp a .Mult b pos) (tOp (rI CMul fun i j => .int (i * j)) ta tb) :=
  ⟨pe_op_mul (ha := ha.get) (hb := hb.get)⟩
theorem qe_op_fdiv (ha : QE X a ta) (hb : QE X b tb) : QE X (.BinOp a .FloorDiv b pos) (tOp (rI CDiv fun i j => .int (i / j)) ta tb) :=
  ⟨pe_op_fdiv (ha := ha.get) (hb := hb.get)⟩
theorem qe_op_mod (ha : QE X a ta) (hb : QE X b tb) : QE X (.BinOp a .Mod b pos) (tOp (rI (fun _ j => 0 < j) fun i j => .int (i % j)) ta tb) :=
  ⟨pe_op_mod (ha := ha.get) (hb := hb.get)⟩
theorem qe_op_pow (ha : QE X a ta) (hb : QE X b tb) : QE X (.BinOp a .Pow b pos) (tOp (rI CPow fun i j => .int (i ^ j.toNat)) ta tb) :=
  ⟨pe_op_pow (ha := ha.get) (hb := hb.get)⟩
theorem qe_op_cat (ha : QE X a ta) (hb : QE X b tb) : QE X (.BinOp a .Add b pos) (tOp (rCat) ta tb) :=
  ⟨pe_op_cat (ha := ha.get) (hb := hb.get)⟩
theorem qe_op_catT {Kq : PySem.W.Frag} (hKq : X.K = Kq) (ha : QE X a ta) (hb : QE X b tb) : QE X (.BinOp a .Add b pos) (tOp (rCatT Kq) ta tb) := by
  subst hKq
  exact ⟨pe_op_catT (ha := ha.get) (hb := hb.get)⟩
theorem qe_op_rep (ha : QE X a ta) (hb : QE X b tb) : QE X (.BinOp a .Mult b pos) (tOp (rRep) ta tb) :=
  ⟨pe_op_rep (ha := ha.get) (hb := hb.get)⟩
theorem qe_op_add_str (ha : QE X a ta) (hb : QE X b tb) : QE X (.BinOp a .Add b pos) (tOp (fun x y H Q => ∃ i j, x = .str i ∧ y = .str j ∧ i.length + j.length ≤ sizeLine ∧ Q (.str (i ++ j)) H) ta tb) :=
  ⟨pe_op_add_str (ha := ha.get) (hb := hb.get)⟩
theorem qe_op_eq (ha : QE X a ta) (hb : QE X b tb) : QE X (.Compare a [.Eq] [b] pos) (tOp (rEq) ta tb) :=
  ⟨pe_op_eq (ha := ha.get) (hb := hb.get)⟩
theorem qt_op_eq (ha : QE X a ta) (hb : QE X b tb) : QT X (.Compare a [.Eq] [b] pos) (tTest (tOp (rEq) ta tb)) :=
  ⟨pt_op_eq (ha := ha.get) (hb := hb.get)⟩
theorem qe_op_ne (ha : QE X a ta) (hb : QE X b tb) : QE X (.Compare a [.NotEq] [b] pos) (tOp (rNe) ta tb) :=
  ⟨pe_op_ne (ha := ha.get) (hb := hb.get)⟩
theorem qt_op_ne (ha : QE X a ta) (hb : QE X b tb) : QT X (.Compare a [.NotEq] [b] pos) (tTest (tOp (rNe) ta tb)) :=
  ⟨pt_op_ne (ha := ha.get) (hb := hb.get)⟩
theorem qe_op_lt (ha : QE X a ta) (hb : QE X b tb) : QE X (.Compare a [.Lt] [b] pos) (tOp (rI0 fun i j => .bl (decide (i < j))) ta tb) :=
  ⟨pe_op_lt (ha := ha.get) (hb := hb.get)⟩
theorem qt_op_lt (ha : QE X a ta) (hb : QE X b tb) : QT X (.Compare a [.Lt] [b] pos) (tTest (tOp (rI0 fun i j => .bl (decide (i < j))) ta tb)) :=
  ⟨pt_op_lt (ha := ha.get) (hb := hb.get)⟩
theorem qe_op_le (ha : QE X a ta) (hb : QE X b tb) : QE X (.Compare a [.LtE] [b] pos) (tOp (rI0 fun i j => .bl (decide (i ≤ j))) ta tb) :=
  ⟨pe_op_le (ha := ha.get) (hb := hb.get)⟩
theorem qt_op_le (ha : QE X a ta) (hb : QE X b tb) : QT X (.Compare a [.LtE] [b] pos) (tTest (tOp (rI0 fun i j => .bl (decide (i ≤ j))) ta tb)) :=
  ⟨pt_op_le (ha := ha.get) (hb := hb.get)⟩
theorem qe_op_gt (ha : QE X a ta) (hb : QE X b tb) : QE X (.Compare a [.Gt] [b] pos) (tOp (rI0 fun i j => .bl (decide (j < i))) ta tb) :=
  ⟨pe_op_gt (ha := ha.get) (hb := hb.get)⟩
theorem qt_op_gt (ha : QE X a ta) (hb : QE X b tb) : QT X (.Compare a [.Gt] [b] pos) (tTest (tOp (rI0 fun i j => .bl (decide (j < i))) ta tb)) :=
  ⟨pt_op_gt (ha := ha.get) (hb := hb.get)⟩
theorem qe_op_ge (ha : QE X a ta) (hb : QE X b tb) : QE X (.Compare a [.GtE] [b] pos) (tOp (rI0 fun i j => .bl (decide (j ≤ i))) ta tb) :=
  ⟨pe_op_ge (ha := ha.get) (hb := hb.get)⟩
theorem qt_op_ge (ha : QE X a ta) (hb : QE X b tb) : QT X (.Compare a [.GtE] [b] pos) (tTest (tOp (rI0 fun i j => .bl (decide (j ≤ i))) ta tb)) :=
  ⟨pt_op_ge (ha := ha.get) (hb := hb.get)⟩
theorem qe_op_isN (ha : QE X a ta) (hb : QE X b tb) : QE X (.Compare a [.Is] [b] pos) (tOp (fun x y H Q => y = .non ∧ Q (.bl (decide (x = .non))) H) ta tb) :=
  ⟨pe_op_isN (ha := ha.get) (hb := hb.get)⟩
theorem qt_op_isN (ha : QE X a ta) (hb : QE X b tb) : QT X (.Compare a [.Is] [b] pos) (tTest (tOp (fun x y H Q => y = .non ∧ Q (.bl (decide (x = .non))) H) ta tb)) :=
  ⟨pt_op_isN (ha := ha.get) (hb := hb.get)⟩
theorem qe_op_notN (ha : QE X a ta) (hb : QE X b tb) : QE X (.Compare a [.IsNot] [b] pos) (tOp (fun x y H Q => y = .non ∧ Q (.bl (!decide (x = .non))) H) ta tb) :=
  ⟨pe_op_notN (ha := ha.get) (hb := hb.get)⟩
theorem qt_op_notN (ha : QE X a ta) (hb : QE X b tb) : QT X (.Compare a [.IsNot] [b] pos) (tTest (tOp (fun x y H Q => y = .non ∧ Q (.bl (!decide (x = .non))) H) ta tb)) :=
  ⟨pt_op_notN (ha := ha.get) (hb := hb.get)⟩
theorem qe_op_eqD (hu : X.A.units + 64 < cLine) (ha : QE X a ta) (hb : QE X b tb) : QE X (.Compare a [.Eq] [b] pos) (tOp (rEqD) ta tb) :=
  ⟨pe_op_eqD (hu := hu) (ha := ha.get) (hb := hb.get)⟩
theorem qt_op_eqD (hu : X.A.units + 64 < cLine) (ha : QE X a ta) (hb : QE X b tb) : QT X (.Compare a [.Eq] [b] pos) (tTest (tOp (rEqD) ta tb)) :=
  ⟨pt_op_eqD (hu := hu) (ha := ha.get) (hb := hb.get)⟩
theorem qe_op_neD (hu : X.A.units + 64 < cLine) (ha : QE X a ta) (hb : QE X b tb) : QE X (.Compare a [.NotEq] [b] pos) (tOp (rNeD) ta tb) :=
  ⟨pe_op_neD (hu := hu) (ha := ha.get) (hb := hb.get)⟩
theorem qt_op_neD (hu : X.A.units + 64 < cLine) (ha : QE X a ta) (hb : QE X b tb) : QT X (.Compare a [.NotEq] [b] pos) (tTest (tOp (rNeD) ta tb)) :=
  ⟨pt_op_neD (hu := hu) (ha := ha.get) (hb := hb.get)⟩
theorem qe_op_ltD (hu : X.A.units + 64 < cLine) (ha : QE X a ta) (hb : QE X b tb) : QE X (.Compare a [.Lt] [b] pos) (tOp (rLtD) ta tb) :=
  ⟨pe_op_ltD (hu := hu) (ha := ha.get) (hb := hb.get)⟩
theorem qt_op_ltD (hu : X.A.units + 64 < cLine) (ha : QE X a ta) (hb : QE X b tb) : QT X (.Compare a [.Lt] [b] pos) (tTest (tOp (rLtD) ta tb)) :=
  ⟨pt_op_ltD (hu := hu) (ha := ha.get) (hb := hb.get)⟩
theorem qe_op_le_str (ha : QE X a ta) (hb : QE X b tb) : QE X (.Compare a [.LtE] [b] pos) (tOp (fun x y H Q => ∃ i j, x = .str i ∧ y = .str j ∧ Q (.bl (!decide (j.cps.toList < i.cps.toList))) H) ta tb) :=
  ⟨pe_op_le_str (ha := ha.get) (hb := hb.get)⟩
theorem qt_op_le_str (ha : QE X a ta) (hb : QE X b tb) : QT X (.Compare a [.LtE] [b] pos) (tTest (tOp (fun x y H Q => ∃ i j, x = .str i ∧ y = .str j ∧ Q (.bl (!decide (j.cps.toList < i.cps.toList))) H) ta tb)) :=
  ⟨pt_op_le_str (ha := ha.get) (hb := hb.get)⟩
theorem qe_op_in_seq {Kq : PySem.W.Frag} (hKq : X.K = Kq) (ha : QE X a ta) (hb : QE X b tb) (hm : behindInMarks .In b = false) : QE X (.Compare a [.In] [b] pos) (tOp (rIn Kq false) ta tb) := by
  subst hKq
  exact ⟨pe_op_in_seq (ha := ha.get) (hb := hb.get) (hm := hm)⟩
theorem qt_op_in_seq {Kq : PySem.W.Frag} (hKq : X.K = Kq) (ha : QE X a ta) (hb : QE X b tb) (hm : behindInMarks .In b = false) : QT X (.Compare a [.In] [b] pos) (tTest (tOp (rIn Kq false) ta tb)) := by
  subst hKq
  exact ⟨pt_op_in_seq (ha := ha.get) (hb := hb.get) (hm := hm)⟩
theorem qe_op_notIn_seq {Kq : PySem.W.Frag} (hKq : X.K = Kq) (ha : QE X a ta) (hb : QE X b tb) (hm : behindInMarks .NotIn b = false) : QE X (.Compare a [.NotIn] [b] pos) (tOp (rIn Kq true) ta tb) := by
  subst hKq
  exact ⟨pe_op_notIn_seq (ha := ha.get) (hb := hb.get) (hm := hm)⟩
theorem qt_op_notIn_seq {Kq : PySem.W.Frag} (hKq : X.K = Kq) (ha : QE X a ta) (hb : QE X b tb) (hm : behindInMarks .NotIn b = false) : QT X (.Compare a [.NotIn] [b] pos) (tTest (tOp (rIn Kq true) ta tb)) := by
  subst hKq
  exact ⟨pt_op_notIn_seq (ha := ha.get) (hb := hb.get) (hm := hm)⟩
theorem qe_call_lenF {Kq : PySem.W.Frag} (hKq : X.K = Kq) (hgl : Gl X "len") (hm : X.mg "len" = none) (ha : QA X (e :: es) t) (hns : noStar (e :: es) = true := by rfl) : QE X (.Call (.Name "len" p) (e :: es) [] pos) (tCB (r_call_lenF Kq) t) := by
  subst hKq
  exact ⟨pe_call_lenF (hgl := hgl) (hm := hm) (ha := ha.get) (hns := hns)⟩
theorem qe_call_len {Kq : PySem.W.Frag} (hKq : X.K = Kq) (hgl : Gl X "len") (hm : X.mg "len" = none) (ha : QA X (e :: es) t) (hns : noStar (e :: es) = true := by rfl) : QE X (.Call (.Name "len" p) (e :: es) [] pos) (tCB (r_call_len Kq) t) := by
  subst hKq
  exact ⟨pe_call_len (hgl := hgl) (hm := hm) (ha := ha.get) (hns := hns)⟩
theorem qe_call_abs {Kq : PySem.W.Frag} (hKq : X.K = Kq) (hgl : Gl X "abs") (hm : X.mg "abs" = none) (ha : QA X (e :: es) t) (hns : noStar (e :: es) = true := by rfl) : QE X (.Call (.Name "abs" p) (e :: es) [] pos) (tCB (r_call_abs Kq) t) := by
  subst hKq
  exact ⟨pe_call_abs (hgl := hgl) (hm := hm) (ha := ha.get) (hns := hns)⟩
theorem qe_call_isi {Kq : PySem.W.Frag} (hKq : X.K = Kq) (hgl : Gl X "isinstance") (hm : X.mg "isinstance" = none) (ha : QA X (e :: es) t) (hns : noStar (e :: es) = true := by rfl) : QE X (.Call (.Name "isinstance" p) (e :: es) [] pos) (tCB (r_call_isi Kq) t) := by
  subst hKq
  exact ⟨pe_call_isi (hgl := hgl) (hm := hm) (ha := ha.get) (hns := hns)⟩
theorem qe_call_isi2 {Kq : PySem.W.Frag} (hKq : X.K = Kq) (hgl : Gl X "isinstance") (hm : X.mg "isinstance" = none) (ha : QA X (e :: es) t) (hns : noStar (e :: es) = true := by rfl) : QE X (.Call (.Name "isinstance" p) (e :: es) [] pos) (tCB (r_call_isi2 Kq) t) := by
  subst hKq
  exact ⟨pe_call_isi2 (hgl := hgl) (hm := hm) (ha := ha.get) (hns := hns)⟩
theorem qe_call_anyL {Kq : PySem.W.Frag} (hKq : X.K = Kq) (hc : X.calm = true) (hgl : Gl X "any") (hm : X.mg "any" = none) (ha : QA X (e :: es) t) (hns : noStar (e :: es) = true := by rfl) : QE X (.Call (.Name "any" p) (e :: es) [] pos) (tCB (r_call_anyL Kq) t) := by
  subst hKq
  exact ⟨pe_call_anyL (hc := hc) (hgl := hgl) (hm := hm) (ha := ha.get) (hns := hns)⟩
theorem qe_call_allL {Kq : PySem.W.Frag} (hKq : X.K = Kq) (hc : X.calm = true) (hgl : Gl X "all") (hm : X.mg "all" = none) (ha : QA X (e :: es) t) (hns : noStar (e :: es) = true := by rfl) : QE X (.Call (.Name "all" p) (e :: es) [] pos) (tCB (r_call_allL Kq) t) := by
  subst hKq
  exact ⟨pe_call_allL (hc := hc) (hgl := hgl) (hm := hm) (ha := ha.get) (hns := hns)⟩
theorem qe_call_sumL {Kq : PySem.W.Frag} (hKq : X.K = Kq) (hc : X.calm = true) (hgl : Gl X "sum") (hm : X.mg "sum" = none) (ha : QA X (e :: es) t) (hns : noStar (e :: es) = true := by rfl) : QE X (.Call (.Name "sum" p) (e :: es) [] pos) (tCB (r_call_sumL Kq) t) := by
  subst hKq
  exact ⟨pe_call_sumL (hc := hc) (hgl := hgl) (hm := hm) (ha := ha.get) (hns := hns)⟩
theorem qe_call_int1 {Kq : PySem.W.Frag} (hKq : X.K = Kq) (hgl : Gl X "int") (hm : X.mg "int" = none) (ha : QA X (e :: es) t) (hns : noStar (e :: es) = true := by rfl) : QE X (.Call (.Name "int" p) (e :: es) [] pos) (tCB (r_call_int1 Kq) t) := by
  subst hKq
  exact ⟨pe_call_int1 (hgl := hgl) (hm := hm) (ha := ha.get) (hns := hns)⟩
theorem qe_call_str_int {Kq : PySem.W.Frag} (hKq : X.K = Kq) (hgl : Gl X "str") (hm : X.mg "str" = none) (ha : QA X (e :: es) t) (hns : noStar (e :: es) = true := by rfl) : QE X (.Call (.Name "str" p) (e :: es) [] pos) (tCB (r_call_str_int Kq) t) := by
  subst hKq
  exact ⟨pe_call_str_int (hgl := hgl) (hm := hm) (ha := ha.get) (hns := hns)⟩
theorem qe_call_strD {Kq : PySem.W.Frag} (hKq : X.K = Kq) (hu : X.A.units + 64 < cLine) (hg : X.A.guards = some []) (hgl : Gl X "str") (hm : X.mg "str" = none) (ha : QA X (e :: es) t) (hns : noStar (e :: es) = true := by rfl) : QE X (.Call (.Name "str" p) (e :: es) [] pos) (tCB (r_call_strD Kq) t) := by
  subst hKq
  exact ⟨pe_call_strD (hu := hu) (hg := hg) (hgl := hgl) (hm := hm) (ha := ha.get) (hns := hns)⟩
theorem qe_call_tuple_of {Kq : PySem.W.Frag} (hKq : X.K = Kq) (hgl : Gl X "tuple") (hm : X.mg "tuple" = none) (ha : QA X (e :: es) t) (hns : noStar (e :: es) = true := by rfl) : QE X (.Call (.Name "tuple" p) (e :: es) [] pos) (tCB (r_call_tuple_of Kq) t) := by
  subst hKq
  exact ⟨pe_call_tuple_of (hgl := hgl) (hm := hm) (ha := ha.get) (hns := hns)⟩
theorem qe_call_list_of {Kq : PySem.W.Frag} (hKq : X.K = Kq) (hgl : Gl X "list") (hm : X.mg "list" = none) (ha : QA X (e :: es) t) (hns : noStar (e :: es) = true := by rfl) : QE X (.Call (.Name "list" p) (e :: es) [] pos) (tCB (r_call_list_of Kq) t) := by
  subst hKq
  exact ⟨pe_call_list_of (hgl := hgl) (hm := hm) (ha := ha.get) (hns := hns)⟩
theorem qe_call_min2 {Kq : PySem.W.Frag} (hKq : X.K = Kq) (hc : X.calm = true) (hgl : Gl X "min") (hm : X.mg "min" = none) (ha : QA X (e :: es) t) (hns : noStar (e :: es) = true := by rfl) : QE X (.Call (.Name "min" p) (e :: es) [] pos) (tCB (r_call_min2 Kq) t) := by
  subst hKq
  exact ⟨pe_call_min2 (hc := hc) (hgl := hgl) (hm := hm) (ha := ha.get) (hns := hns)⟩
theorem qe_call_ord {Kq : PySem.W.Frag} (hKq : X.K = Kq) (hgl : Gl X "ord") (hm : X.mg "ord" = none) (ha : QA X (e :: es) t) (hns : noStar (e :: es) = true := by rfl) : QE X (.Call (.Name "ord" p) (e :: es) [] pos) (tCB (r_call_ord Kq) t) := by
  subst hKq
  exact ⟨pe_call_ord (hgl := hgl) (hm := hm) (ha := ha.get) (hns := hns)⟩
theorem qe_lenset {Kq : PySem.W.Frag} (hKq : X.K = Kq) {e : Expr} {te : TE} {p p2 pos pos2 : Pos} (hc : X.calm = true) (hgs : Gl X "set") (hms : X.mg "set" = none) (hgl : Gl X "len") (hml : X.mg "len" = none) (he : QE X e te) (hns : isStar e = false := by rfl) : QE X (.Call (.Name "len" p) [.Call (.Name "set" p2) [e] [] pos2] [] pos) (tCB (rLenSet X.prog X.w) (tCons (tCB (rSetK X.prog X.w Kq) (tCons te tNil)) tNil)) := by
  subst hKq
  exact ⟨pe_lenset (hc := hc) (hgs := hgs) (hms := hms) (hgl := hgl) (hml := hml) (he := he.get) (hns := hns)⟩
theorem qi_zip {a b : Expr} {ta : TA} {p pos tpos : Pos} {elts : List Expr} {kk : Nat} (hg : Gl X "zip") (hm : X.mg "zip" = none) (ha : QA X [a, b] ta) (hs1 : isStar a = false := by rfl) (hs2 : isStar b = false := by rfl) : QI X (.Tuple elts kk tpos) (.Call (.Name "zip" p) [a, b] [] pos) (iZip ta) :=
  ⟨pi_zip (hg := hg) (hm := hm) (ha := ha.get) (hs1 := hs1) (hs2 := hs2)⟩
theorem qe_op_cat2 {a b : Expr} {ta tb : TE} {pos : Pos} (ha : QE X a ta) (hb : QE X b tb) : QE X (.BinOp a .Add b pos) (tOp rCat2 ta tb) :=
  ⟨pe_op_cat2 (ha := ha.get) (hb := hb.get)⟩
theorem qi_enum {a : Expr} {ta : TA} {p pos tpos : Pos} {elts : List Expr} {kk : Nat} (hg : Gl X "enumerate") (hm : X.mg "enumerate" = none) (ha : QA X [a] ta) (hs1 : isStar a = false := by rfl) : QI X (.Tuple elts kk tpos) (.Call (.Name "enumerate" p) [a] [] pos) (iEnum ta) :=
  ⟨pi_enum (hg := hg) (hm := hm) (ha := ha.get) (hs1 := hs1)⟩
theorem qs_par3 {i j k : Nat} {x y z : Str} {a b c : Expr} {ta : TA} {px py pz pt : Pos} {kt k2 pt2} (hc : X.calm = true) (hN : X.N.Nodup) (hi : X.N[i]? = some x) (hj : X.N[j]? = some y) (hk : X.N[k]? = some z) (hij : i ≠ j) (hik : i ≠ k) (hjk : j ≠ k) (hx : X.env.scope.names.lookup x = some .local) (hy : X.env.scope.names.lookup y = some .local) (hz : X.env.scope.names.lookup z = some .local) (ha : QA X [a, b, c] ta) (hw : swappedStores [.Tuple [.Name x px, .Name y py, .Name z pz] kt pt] (.Tuple [a, b, c] k2 pt2) X.env = pure (some [x, y, z])) (hs : swapsWithSole [.Tuple [.Name x px, .Name y py, .Name z pz] kt pt] (.Tuple [a, b, c] k2 pt2) pos.line X.env = pure false := by rfl) : QS X (.Assign [.Tuple [.Name x px, .Name y py, .Name z pz] kt pt] (.Tuple [a, b, c] k2 pt2) pos) (tPar3 i j k ta) :=
  ⟨ps_par3 (hc := hc) (hN := hN) (hi := hi) (hj := hj) (hk := hk) (hij := hij) (hik := hik) (hjk := hjk) (hx := hx) (hy := hy) (hz := hz) (ha := ha.get) (hw := hw) (hs := hs)⟩
theorem qe_op_inD (hu : X.A.units + 64 < cLine) (ha : QE X a ta) (hb : QE X b tb) (hm : behindInMarks .In b = false) : QE X (.Compare a [.In] [b] pos) (tOp (rInD false) ta tb) :=
  ⟨pe_op_inD (hu := hu) (ha := ha.get) (hb := hb.get) (hm := hm)⟩
theorem qt_op_inD (hu : X.A.units + 64 < cLine) (ha : QE X a ta) (hb : QE X b tb) (hm : behindInMarks .In b = false) : QT X (.Compare a [.In] [b] pos) (tTest (tOp (rInD false) ta tb)) :=
  ⟨pt_op_inD (hu := hu) (ha := ha.get) (hb := hb.get) (hm := hm)⟩
theorem qe_op_notInD (hu : X.A.units + 64 < cLine) (ha : QE X a ta) (hb : QE X b tb) (hm : behindInMarks .NotIn b = false) : QE X (.Compare a [.NotIn] [b] pos) (tOp (rInD true) ta tb) :=
  ⟨pe_op_notInD (hu := hu) (ha := ha.get) (hb := hb.get) (hm := hm)⟩
theorem qt_op_notInD (hu : X.A.units + 64 < cLine) (ha : QE X a ta) (hb : QE X b tb) (hm : behindInMarks .NotIn b = false) : QT X (.Compare a [.NotIn] [b] pos) (tTest (tOp (rInD true) ta tb)) :=
  ⟨pt_op_notInD (hu := hu) (ha := ha.get) (hb := hb.get) (hm := hm)⟩
theorem qa_consts {X : Cx} {es : List Expr} {vs : List V} (h : constVs es = some vs) : QA X es (tK vs) := ⟨pa_consts h⟩
theorem QW.qt {X : Cx} {e : Expr} {t : TT} (h : QW X e t) : QT X e t := ⟨h.get.pt⟩
theorem qv (i : Nat) {x : Str} {pos : Pos} (hN : X.N[i]? = some x := by rfl) (hv : Vis X.env.scope x := by first | exact Or.inl rfl | exact Or.inr (Or.inl rfl) | exact Or.inr (Or.inr rfl)) (hd : (x == ("__debug__" : Str)) = false := by decide) (hcd : (x == ("__classdict__" : Str)) = false := by decide) : QE X (.Name x pos) (tVar i) := ⟨pe_var hN hv hd hcd⟩
end L2
namespace L2
open PySem
theorem by_Q {X : Cx} {st : List Stmt} {t : TS} {D : Ends} {σ : St} {H : Hp} (h : QSs X st t) (k : t D σ H) : ∃ t, PSs X st t ∧ t D σ H := ⟨t, h.get, k⟩
end L2
namespace L2
open PySem
theorem sk_NoneType_int : subK "NoneType" "int" = some false := by with_unfolding_all rfl
theorem sk_NoneType_str : subK "NoneType" "str" = some false := by with_unfolding_all rfl
theorem sk_NoneType_bool : subK "NoneType" "bool" = some false := by with_unfolding_all rfl
theorem sk_NoneType_list : subK "NoneType" "list" = some false := by with_unfolding_all rfl
theorem sk_NoneType_tuple : subK "NoneType" "tuple" = some false := by with_unfolding_all rfl
theorem sk_bool_int : subK "bool" "int" = some true := by with_unfolding_all rfl
theorem sk_bool_str : subK "bool" "str" = some false := by with_unfolding_all rfl
theorem sk_bool_bool : subK "bool" "bool" = some true := by with_unfolding_all rfl
theorem sk_bool_list : subK "bool" "list" = some false := by with_unfolding_all rfl
theorem sk_bool_tuple : subK "bool" "tuple" = some false := by with_unfolding_all rfl
theorem sk_int_int : subK "int" "int" = some true := by with_unfolding_all rfl
theorem sk_int_str : subK "int" "str" = some false := by with_unfolding_all rfl
theorem sk_int_bool : subK "int" "bool" = some false := by with_unfolding_all rfl
theorem sk_int_list : subK "int" "list" = some false := by with_unfolding_all rfl
theorem sk_int_tuple : subK "int" "tuple" = some false := by with_unfolding_all rfl
theorem sk_str_int : subK "str" "int" = some false := by with_unfolding_all rfl
theorem sk_str_str : subK "str" "str" = some true := by with_unfolding_all rfl
theorem sk_str_bool : subK "str" "bool" = some false := by with_unfolding_all rfl
theorem sk_str_list : subK "str" "list" = some false := by with_unfolding_all rfl
theorem sk_str_tuple : subK "str" "tuple" = some false := by with_unfolding_all rfl
theorem sk_list_int : subK "list" "int" = some false := by with_unfolding_all rfl
theorem sk_list_str : subK "list" "str" = some false := by with_unfolding_all rfl
theorem sk_list_bool : subK "list" "bool" = some false := by with_unfolding_all rfl
theorem sk_list_list : subK "list" "list" = some true := by with_unfolding_all rfl
theorem sk_list_tuple : subK "list" "tuple" = some false := by with_unfolding_all rfl
theorem sk_tuple_int : subK "tuple" "int" = some false := by with_unfolding_all rfl
theorem sk_tuple_str : subK "tuple" "str" = some false := by with_unfolding_all rfl
theorem sk_tuple_bool : subK "tuple" "bool" = some false := by with_unfolding_all rfl
theorem sk_tuple_list : subK "tuple" "list" = some false := by with_unfolding_all rfl
theorem sk_tuple_tuple : subK "tuple" "tuple" = some true := by with_unfolding_all rfl
section
variable {K : PySem.W.Frag} {H : Hp} {Q : VK} {x : V} {T : String} {i j : Int} {a p : Addr}
theorem rr_isi : r_call_isi K [x, .ty T] H Q ↔ ∃ t, kindV H x = some t ∧ ∃ b, subK t T = some b ∧ Q (.bl b) H := by
  constructor
  · rintro ⟨_, _, t, b, e, h1, h2, h3⟩; cases e; exact ⟨t, h1, b, h2, h3⟩
  · rintro ⟨t, h1, b, h2, h3⟩; exact ⟨_, _, t, b, rfl, h1, h2, h3⟩
theorem rr_isi2 : r_call_isi2 K [x, .ref p] H Q ↔ ∃ Ts, H p = some (.tup (Ts.map V.ty)) ∧ ∃ t, kindV H x = some t ∧ ∃ b, subAny t Ts = some b ∧ Q (.bl b) H := by
  constructor
  · rintro ⟨_, _, Ts, t, b, e, h0, h1, h2, h3⟩; cases e; exact ⟨Ts, h0, t, h1, b, h2, h3⟩
  · rintro ⟨Ts, h0, t, h1, b, h2, h3⟩; exact ⟨_, _, Ts, t, b, rfl, h0, h1, h2, h3⟩
theorem rr_lenF : r_call_lenF K [x] H Q ↔ ∃ n, lenF H x = some n ∧ Q (.int (n : Nat)) H := by
  constructor
  · rintro ⟨_, n, e, h1, h2⟩; cases e; exact ⟨n, h1, h2⟩
  · rintro ⟨n, h1, h2⟩; exact ⟨_, n, rfl, h1, h2⟩
theorem rr_abs : r_call_abs K [.int i] H Q ↔ Q (.int (if i < 0 then -i else i)) H := by
  constructor
  · rintro ⟨_, e, h⟩; cases e; exact h
  · intro h; exact ⟨_, rfl, h⟩
theorem rr_int_i : r_call_int1 K [.int i] H Q ↔ Q (.int i) H := by
  constructor
  · rintro (⟨_, e, h⟩ | ⟨_, e, h⟩)
    · cases e; exact h
    · cases e
  · intro h; exact .inl ⟨_, rfl, h⟩
theorem rr_int_b {b : Bool} : r_call_int1 K [.bl b] H Q ↔ Q (.int (if b then 1 else 0)) H := by
  constructor
  · rintro (⟨_, e, h⟩ | ⟨_, e, h⟩)
    · cases e
    · cases e; exact h
  · intro h; exact .inr ⟨_, rfl, h⟩
theorem rr_any : r_call_anyL K [.ref a] H Q ↔ ∃ bs : List Bool, SqL K H a (bs.map V.bl) ∧ Q (.bl (bs.any id)) H := by
  constructor
  · rintro ⟨_, bs, e, h⟩; cases e; exact ⟨bs, h⟩
  · rintro ⟨bs, h⟩; exact ⟨_, bs, rfl, h⟩
theorem rr_all : r_call_allL K [.ref a] H Q ↔ ∃ bs : List Bool, SqL K H a (bs.map V.bl) ∧ Q (.bl (bs.all id)) H := by
  constructor
  · rintro ⟨_, bs, e, h⟩; cases e; exact ⟨bs, h⟩
  · rintro ⟨bs, h⟩; exact ⟨_, bs, rfl, h⟩
theorem rr_sum : r_call_sumL K [.ref a] H Q ↔ ∃ ns : List Int, SqL K H a (ns.map V.int) ∧ Q (.int ns.sum) H := by
  constructor
  · rintro ⟨_, bs, e, h⟩; cases e; exact ⟨bs, h⟩
  · rintro ⟨bs, h⟩; exact ⟨_, bs, rfl, h⟩
theorem rr_strI : r_call_str_int K [.int i] H Q ↔ i.natAbs.log2 < 1920 ∧ Q (.str (toString i)) H := by
  constructor
  · rintro ⟨_, e, h⟩; cases e; exact h
  · intro h; exact ⟨_, rfl, h⟩
theorem rr_strD : r_call_strD K [.ref a] H Q ↔ ∃ d, Tr H d (.ref a) ∧ d.showable = true ∧ d.hasDict = false ∧ d.depth ≤ 40 ∧ d.shown.length ≤ sizeLine ∧ Q (.str d.shown) H := by
  constructor
  · rintro ⟨_, d, e, h⟩; cases e; exact ⟨d, h⟩
  · rintro ⟨d, h⟩; exact ⟨_, d, rfl, h⟩
theorem rr_tuple : r_call_tuple_of K [.ref a] H Q ↔ ∃ ys, ((SqL K H a ys ∧ ∀ l, H l = none → Q (.ref l) (upd H l (.tup ys))) ∨ (SqT K H a ys ∧ Q (.ref a) H)) := by
  constructor
  · rintro ⟨_, ys, e, h⟩; cases e; exact ⟨ys, h⟩
  · rintro ⟨ys, h⟩; exact ⟨_, ys, rfl, h⟩
theorem rr_list : r_call_list_of K [.ref a] H Q ↔ ∃ ys, (SqL K H a ys ∨ SqT K H a ys) ∧ ∀ l, H l = none → Q (.ref l) (upd H l (.lst ys)) := by
  constructor
  · rintro ⟨_, ys, e, h⟩; cases e; exact ⟨ys, h⟩
  · rintro ⟨ys, h⟩; exact ⟨_, ys, rfl, h⟩
theorem kv_non : kindV H .non = some "NoneType" := rfl
theorem kv_bl {b : Bool} : kindV H (.bl b) = some "bool" := rfl
theorem kv_int : kindV H (.int i) = some "int" := rfl
theorem kv_str {s : Str} : kindV H (.str s) = some "str" := rfl
theorem kv_lst {xs : List V} (h : H a = some (.lst xs)) : kindV H (.ref a) = some "list" := by simp only [kindV, h]
theorem kv_tup {xs : List V} (h : H a = some (.tup xs)) : kindV H (.ref a) = some "tuple" := by simp only [kindV, h]
theorem len_lst {xs : List V} (h : H a = some (.lst xs)) : lenF H (.ref a) = some xs.length := by simp only [lenF, h]
theorem len_tup {xs : List V} (h : H a = some (.tup xs)) : lenF H (.ref a) = some xs.length := by simp only [lenF, h]
theorem ix_lstF {xs : List V} (h : H a = some (.lst xs)) : ixF H (.ref a) (.int i) = atI xs i := by simp only [ixF, h]
theorem ix_tupF {xs : List V} (h : H a = some (.tup xs)) : ixF H (.ref a) (.int i) = atI xs i := by simp only [ixF, h]
theorem sub_lt (t : String) : subAny t ["list", "tuple"] = (subK t "list").bind fun a => if a then some true else (subK t "tuple").bind fun a => if a then some true else some false := by
  unfold subAny; unfold subAny; unfold subAny
  cases subK t "list" with
  | none => rfl
  | some b => cases b <;> first | rfl | (cases subK t "tuple" with | none => rfl | some c => cases c <;> rfl)
end
def ForW (J : It) (g : TG) (tb : TS) (D : Ends) (σ : St) (H : Hp) : Prop := ∃ W : Nat → Nat → St → Hp → Prop, (∃ m, W 0 m σ H) ∧ ∀ i m σ H, W i m σ H →
  (J.stop i H ∧ D.nx σ H) ∨ (J.go i H ∧ ∃ N : St → Hp → Prop, (∀ σ' H', N σ' H' → ∃ m', m' < m ∧ W (i + 1) m' σ' H') ∧ ∀ x H', J.yld i H x H' → g x σ H' fun σ2 H2 => tb { D with nx := N, ct := N, bk := D.nx } σ2 H2)
section
variable {K : PySem.W.Frag} {idx : List (Option Nat)} {tl : TE} {ta : TA} {g : TG} {tc : TT} {te : TE} {tb : TS} {D : Ends} {σ σ0 : St} {H : Hp} {Q : VK} {a : Addr} {xs : List V} {lo : Int} {n : Nat}
theorem lw_seq : tLC idx (iSeq K tl) g tc te σ H Q ↔ (tl σ H fun x H1 => ∃ a, x = .ref a ∧ ((∃ xs, H1 a = some (.lst xs) ∧ LcW (Itl K a) g tc te Q (cst idx σ) H1) ∨ (∃ xs, H1 a = some (.tup xs) ∧ LcW (Itt K a) g tc te Q (cst idx σ) H1))) := Iff.rfl
theorem lw_rng : tLC idx (iRng1 ta) g tc te σ H Q ↔ (ta σ H fun vs H1 => ∃ j : Int, vs = [.int j] ∧ -(2 ^ 62) ≤ j ∧ j < 2 ^ 62 ∧ LcW (Itr 0 j.toNat) g tc te Q (cst idx σ) H1) := Iff.rfl
theorem fw_seq : tFor (iSeq K tl) g tb D σ H ↔ (tl σ H fun x H1 => ∃ a, x = .ref a ∧ ((∃ xs, H1 a = some (.lst xs) ∧ ForW (Itl K a) g tb D σ H1) ∨ (∃ xs, H1 a = some (.tup xs) ∧ ForW (Itt K a) g tb D σ H1))) := Iff.rfl
theorem fw_rng : tFor (iRng1 ta) g tb D σ H ↔ (ta σ H fun vs H1 => ∃ j : Int, vs = [.int j] ∧ -(2 ^ 62) ≤ j ∧ j < 2 ^ 62 ∧ ForW (Itr 0 j.toNat) g tb D σ H1) := Iff.rfl
theorem forW_lst (Pv : Nat → St → Hp → Prop) (h0 : Pv 0 σ H) (hl : ∀ i σ H, i ≤ xs.length → Pv i σ H → H a = some (.lst xs))
    (hs : ∀ i x σ H, xs[i]? = some x → Pv i σ H → g x σ H fun σ2 H2 => tb { D with nx := Pv (i + 1), ct := Pv (i + 1), bk := D.nx } σ2 H2) (hd : ∀ σ H, Pv xs.length σ H → D.nx σ H) : ForW (Itl K a) g tb D σ H :=
  for_list Pv h0 (fun i σ H hi p => SqL.of (hl i σ H hi p)) hs hd
theorem forW_tup (Pv : Nat → St → Hp → Prop) (h0 : Pv 0 σ H) (hl : ∀ i σ H, i ≤ xs.length → Pv i σ H → H a = some (.tup xs))
    (hs : ∀ i x σ H, xs[i]? = some x → Pv i σ H → g x σ H fun σ2 H2 => tb { D with nx := Pv (i + 1), ct := Pv (i + 1), bk := D.nx } σ2 H2) (hd : ∀ σ H, Pv xs.length σ H → D.nx σ H) : ForW (Itt K a) g tb D σ H :=
  for_tup Pv h0 (fun i σ H hi p => SqT.of (hl i σ H hi p)) hs hd
theorem forW_rng (Pv : Nat → St → Hp → Prop) (h0 : Pv 0 σ H)
    (hs : ∀ i σ H, i < n → Pv i σ H → g (.int (lo + i)) σ H fun σ2 H2 => tb { D with nx := Pv (i + 1), ct := Pv (i + 1), bk := D.nx } σ2 H2) (hd : ∀ σ H, Pv n σ H → D.nx σ H) : ForW (Itr lo n) g tb D σ H :=
  for_range Pv h0 hs hd
theorem lcW_lst (Pv : Nat → St → List V → Hp → Prop) (h0 : Pv 0 σ0 [] H) (hl : ∀ i σ acc H, i ≤ xs.length → Pv i σ acc H → H a = some (.lst xs) ∧ acc.length ≤ i) (hz : xs.length ≤ sizeLine)
    (hs : ∀ i x σ acc H, xs[i]? = some x → Pv i σ acc H → g x σ H fun σ2 H2 => tc σ2 H2 fun b H3 => if b = true then te σ2 H3 fun y H4 => Pv (i + 1) σ2 (acc ++ [y]) H4 else Pv (i + 1) σ2 acc H3)
    (hd : ∀ σ acc H, Pv xs.length σ acc H → ∀ p, H p = none → Q (.ref p) (upd H p (.lst acc))) : LcW (Itl K a) g tc te Q σ0 H :=
  lc_list Pv h0 (fun i σ acc H hi p => ⟨SqL.of (hl i σ acc H hi p).1, (hl i σ acc H hi p).2⟩) hz hs hd
theorem lcW_tup (Pv : Nat → St → List V → Hp → Prop) (h0 : Pv 0 σ0 [] H) (hl : ∀ i σ acc H, i ≤ xs.length → Pv i σ acc H → H a = some (.tup xs) ∧ acc.length ≤ i) (hz : xs.length ≤ sizeLine)
    (hs : ∀ i x σ acc H, xs[i]? = some x → Pv i σ acc H → g x σ H fun σ2 H2 => tc σ2 H2 fun b H3 => if b = true then te σ2 H3 fun y H4 => Pv (i + 1) σ2 (acc ++ [y]) H4 else Pv (i + 1) σ2 acc H3)
    (hd : ∀ σ acc H, Pv xs.length σ acc H → ∀ p, H p = none → Q (.ref p) (upd H p (.lst acc))) : LcW (Itt K a) g tc te Q σ0 H :=
  lc_tup Pv h0 (fun i σ acc H hi p => ⟨SqT.of (hl i σ acc H hi p).1, (hl i σ acc H hi p).2⟩) hz hs hd
theorem lcW_seq {K : PySem.W.Frag} (ha : H a = some (.lst xs) ∨ H a = some (.tup xs)) (Pv : Nat → St → List V → Hp → Prop) (h0 : Pv 0 σ0 [] H) (hl : ∀ i σ acc H', i ≤ xs.length → Pv i σ acc H' → H' a = H a ∧ acc.length ≤ i) (hz : xs.length ≤ sizeLine)
    (hs : ∀ i x σ acc H, xs[i]? = some x → Pv i σ acc H → g x σ H fun σ2 H2 => tc σ2 H2 fun b H3 => if b = true then te σ2 H3 fun y H4 => Pv (i + 1) σ2 (acc ++ [y]) H4 else Pv (i + 1) σ2 acc H3)
    (hd : ∀ σ acc H, Pv xs.length σ acc H → ∀ p, H p = none → Q (.ref p) (upd H p (.lst acc))) :
    (∃ ys, H a = some (.lst ys) ∧ LcW (Itl K a) g tc te Q σ0 H) ∨ (∃ ys, H a = some (.tup ys) ∧ LcW (Itt K a) g tc te Q σ0 H) := by
  rcases ha with ha | ha
  · exact .inl ⟨xs, ha, lcW_lst Pv h0 (fun i σ acc H' hi p => ⟨(hl i σ acc H' hi p).1.trans ha, (hl i σ acc H' hi p).2⟩) hz hs hd⟩
  · exact .inr ⟨xs, ha, lcW_tup Pv h0 (fun i σ acc H' hi p => ⟨(hl i σ acc H' hi p).1.trans ha, (hl i σ acc H' hi p).2⟩) hz hs hd⟩
end
end L2
namespace L2
open PySem
abbrev g2 (K : PySem.W.Frag) (i j : Nat) : TG := gTup K 2 (gCons (gName i) (gCons (gName j) gNil))
section
variable {K : PySem.W.Frag} {idx : List (Option Nat)} {ta : TA} {g : TG} {tc : TT} {te : TE} {tb : TS} {D : Ends} {σ σ0 : St} {H : Hp} {Q : VK} {a b : Addr} {xs ys : List V} {t1 t2 t : Bool} {i j : Nat}
theorem fw_zip : tFor (iZip ta) g tb D σ H ↔ (ta σ H fun vs H1 => ∃ a b, vs = [.ref a, .ref b] ∧ ∃ t1 t2 xs ys, SqK t1 H1 a xs ∧ SqK t2 H1 b ys ∧ ForW (Itz t1 t2 a b) g tb D σ H1) := Iff.rfl
theorem lw_zip : tLC idx (iZip ta) g tc te σ H Q ↔ (ta σ H fun vs H1 => ∃ a b, vs = [.ref a, .ref b] ∧ ∃ t1 t2 xs ys, SqK t1 H1 a xs ∧ SqK t2 H1 b ys ∧ LcW (Itz t1 t2 a b) g tc te Q (cst idx σ) H1) := Iff.rfl
theorem fw_enum : tFor (iEnum ta) g tb D σ H ↔ (ta σ H fun vs H1 => ∃ a, vs = [.ref a] ∧ ∃ t xs, SqK t H1 a xs ∧ ForW (Ite t a) g tb D σ H1) := Iff.rfl
theorem lw_enum : tLC idx (iEnum ta) g tc te σ H Q ↔ (ta σ H fun vs H1 => ∃ a, vs = [.ref a] ∧ ∃ t xs, SqK t H1 a xs ∧ LcW (Ite t a) g tc te Q (cst idx σ) H1) := Iff.rfl
theorem g2_of {x y : V} {p : Addr} {R : St → Hp → Prop} (hp : H p = some (.tup [x, y])) (k : R ((σ.set i (some x)).set j (some y)) H) : g2 K i j (.ref p) σ H R :=
  ⟨p, [x, y], rfl, SqT.of hp, rfl, _, _, rfl, _, _, rfl, rfl, k⟩
theorem forW_zip (Pv : Nat → St → Hp → Prop) (h0 : Pv 0 σ H) (hl : ∀ k σ G, Pv k σ G → SqK t1 G a xs ∧ SqK t2 G b ys)
    (hs : ∀ k x y σ G p, xs[k]? = some x → ys[k]? = some y → Pv k σ G → G p = none → tb { D with nx := Pv (k + 1), ct := Pv (k + 1), bk := D.nx } ((σ.set i (some x)).set j (some y)) (upd G p (.tup [x, y])))
    (hd : ∀ σ G, Pv (min xs.length ys.length) σ G → D.nx σ G) : ForW (Itz t1 t2 a b) (g2 K i j) tb D σ H := by
  refine ⟨fun k m σ G => m = min xs.length ys.length - k ∧ k ≤ min xs.length ys.length ∧ Pv k σ G, ⟨_, rfl, Nat.zero_le _, h0⟩, ?_⟩
  rintro k m σ G ⟨rfl, hk, p⟩
  obtain ⟨q1, q2⟩ := hl k σ G p
  by_cases lt : k < min xs.length ys.length
  · have l1 : k < xs.length := by omega
    have l2 : k < ys.length := by omega
    refine .inr ⟨⟨xs, ys, xs[k], ys[k], q1, q2, by simp [l1], by simp [l2]⟩, Pv (k + 1), fun σ' G' w => ⟨_, by omega, rfl, by omega, w⟩, fun v G' yl => ?_⟩
    obtain ⟨p', x, y, rfl, hp, rfl, e1, e2⟩ := yl
    exact g2_of upd_same (hs k x y σ G p' (e1 xs q1) (e2 ys q2) p hp)
  · have e : k = min xs.length ys.length := by omega
    subst e
    exact .inl ⟨⟨xs, ys, q1, q2, by omega⟩, hd σ G p⟩
theorem lcW_zip (Pv : Nat → St → List V → Hp → Prop) (h0 : Pv 0 σ0 [] H) (hl : ∀ k σ acc G, Pv k σ acc G → SqK t1 G a xs ∧ SqK t2 G b ys ∧ acc.length ≤ k) (hz : xs.length ≤ sizeLine)
    (hs : ∀ k x y σ acc G p, xs[k]? = some x → ys[k]? = some y → Pv k σ acc G → G p = none → tc ((σ.set i (some x)).set j (some y)) (upd G p (.tup [x, y])) fun c G3 => if c = true then te ((σ.set i (some x)).set j (some y)) G3 fun r G4 => Pv (k + 1) ((σ.set i (some x)).set j (some y)) (acc ++ [r]) G4 else Pv (k + 1) ((σ.set i (some x)).set j (some y)) acc G3)
    (hd : ∀ σ acc G, Pv (min xs.length ys.length) σ acc G → ∀ p, G p = none → Q (.ref p) (upd G p (.lst acc))) : LcW (Itz t1 t2 a b) (g2 K i j) tc te Q σ0 H := by
  refine ⟨fun k m σ acc G => m = min xs.length ys.length - k ∧ k ≤ min xs.length ys.length ∧ Pv k σ acc G, ⟨_, rfl, Nat.zero_le _, h0⟩, ?_⟩
  rintro k m σ acc G ⟨rfl, hk, p⟩
  obtain ⟨q1, q2, q3⟩ := hl k σ acc G p
  by_cases lt : k < min xs.length ys.length
  · have l1 : k < xs.length := by omega
    have l2 : k < ys.length := by omega
    refine .inr ⟨⟨xs, ys, xs[k], ys[k], q1, q2, by simp [l1], by simp [l2]⟩, by omega, Pv (k + 1), fun σ' acc' G' w => ⟨_, by omega, rfl, by omega, w⟩, fun v G' yl => ?_⟩
    obtain ⟨p', x, y, rfl, hp, rfl, e1, e2⟩ := yl
    exact g2_of upd_same (hs k x y σ acc G p' (e1 xs q1) (e2 ys q2) p hp)
  · have e : k = min xs.length ys.length := by omega
    subst e
    exact .inl ⟨⟨xs, ys, q1, q2, by omega⟩, hd σ acc G p⟩
theorem forW_enum (Pv : Nat → St → Hp → Prop) (h0 : Pv 0 σ H) (hl : ∀ k σ G, Pv k σ G → SqK t G a xs)
    (hs : ∀ k x σ G p, xs[k]? = some x → Pv k σ G → G p = none → tb { D with nx := Pv (k + 1), ct := Pv (k + 1), bk := D.nx } ((σ.set i (some (.int k))).set j (some x)) (upd G p (.tup [.int k, x])))
    (hd : ∀ σ G, Pv xs.length σ G → D.nx σ G) : ForW (Ite t a) (g2 K i j) tb D σ H := by
  refine ⟨fun k m σ G => m = xs.length - k ∧ k ≤ xs.length ∧ Pv k σ G, ⟨_, rfl, Nat.zero_le _, h0⟩, ?_⟩
  rintro k m σ G ⟨rfl, hk, p⟩
  have q1 := hl k σ G p
  by_cases lt : k < xs.length
  · refine .inr ⟨⟨xs, xs[k], q1, by simp [lt]⟩, Pv (k + 1), fun σ' G' w => ⟨_, by omega, rfl, by omega, w⟩, fun v G' yl => ?_⟩
    obtain ⟨p', x, rfl, hp, rfl, e1⟩ := yl
    exact g2_of upd_same (hs k x σ G p' (e1 xs q1) p hp)
  · have e : k = xs.length := by omega
    subst e
    exact .inl ⟨⟨xs, q1, Nat.le_refl _⟩, hd σ G p⟩
theorem forW_pairs (Pv : Nat → St → Hp → Prop) (h0 : Pv 0 σ H) (hl : ∀ k σ G, k ≤ xs.length → Pv k σ G → G a = some (.tup xs))
    (hp : ∀ k v σ G, xs[k]? = some v → Pv k σ G → ∃ p x y, v = .ref p ∧ G p = some (.tup [x, y]) ∧ tb { D with nx := Pv (k + 1), ct := Pv (k + 1), bk := D.nx } ((σ.set i (some x)).set j (some y)) G)
    (hd : ∀ σ G, Pv xs.length σ G → D.nx σ G) : ForW (Itt K a) (g2 K i j) tb D σ H :=
  forW_tup Pv h0 hl (fun k v σ G e p => by
    obtain ⟨q, x, y, rfl, hq, r⟩ := hp k v σ G e p
    exact g2_of hq r) hd
theorem lcW_pairs (Pv : Nat → St → List V → Hp → Prop) (h0 : Pv 0 σ0 [] H) (hl : ∀ k σ acc G, k ≤ xs.length → Pv k σ acc G → G a = some (.tup xs) ∧ acc.length ≤ k) (hz : xs.length ≤ sizeLine)
    (hs : ∀ k v σ acc G, xs[k]? = some v → Pv k σ acc G → ∃ p x y, v = .ref p ∧ G p = some (.tup [x, y]) ∧ tc ((σ.set i (some x)).set j (some y)) G fun c G3 => if c = true then te ((σ.set i (some x)).set j (some y)) G3 fun r G4 => Pv (k + 1) ((σ.set i (some x)).set j (some y)) (acc ++ [r]) G4 else Pv (k + 1) ((σ.set i (some x)).set j (some y)) acc G3)
    (hd : ∀ σ acc G, Pv xs.length σ acc G → ∀ p, G p = none → Q (.ref p) (upd G p (.lst acc))) : LcW (Itt K a) (g2 K i j) tc te Q σ0 H :=
  lcW_tup Pv h0 hl hz (fun k v σ acc G e p => by
    obtain ⟨q, x, y, rfl, hq, r⟩ := hs k v σ acc G e p
    exact g2_of hq r) hd
end
theorem ex2 {R : Addr → Addr → Prop} {x y : Addr} : (∃ a b, [V.ref x, V.ref y] = [V.ref a, V.ref b] ∧ R a b) ↔ R x y := by
  constructor
  · rintro ⟨a, b, e, h⟩; cases e; exact h
  · intro h; exact ⟨x, y, rfl, h⟩
theorem ex1 {R : Addr → Prop} {x : Addr} : (∃ a, [V.ref x] = [V.ref a] ∧ R a) ↔ R x := by
  constructor
  · rintro ⟨a, e, h⟩; cases e; exact h
  · intro h; exact ⟨x, rfl, h⟩
theorem exc {R : Addr → Addr → List V → List V → Prop} {x y : Addr} : (∃ a b xs ys, V.ref x = V.ref a ∧ V.ref y = V.ref b ∧ R a b xs ys) ↔ ∃ xs ys, R x y xs ys := by
  constructor
  · rintro ⟨a, b, xs, ys, e1, e2, h⟩; cases e1; cases e2; exact ⟨xs, ys, h⟩
  · rintro ⟨xs, ys, h⟩; exact ⟨x, y, xs, ys, rfl, rfl, h⟩
theorem exP2 {R : Addr → Addr → Prop} {x y : Addr} : (∃ a b, (x = a ∧ y = b) ∧ R a b) ↔ R x y := by
  constructor
  · rintro ⟨a, b, ⟨e1, e2⟩, h⟩; cases e1; cases e2; exact h
  · intro h; exact ⟨x, y, ⟨rfl, rfl⟩, h⟩
mutual
def noL : PyData → Bool
  | .none => true
  | .bool _ => true
  | .int _ => true
  | .str _ => true
  | .tuple ds => noLs ds
  | .list _ => false
  | .dict _ => false
def noLs : List PyData → Bool
  | [] => true
  | d :: r => noL d && noLs r
end
mutual
theorem Tr.sameT {H H' : Hp} (S : SameT H H') : ∀ {d : PyData} {v : V}, noL d = true → Tr H d v → Tr H' d v
  | .none, _, _, h => h
  | .bool _, _, _, h => h
  | .int _, _, _, h => h
  | .str _, _, _, h => h
  | .tuple ds, _, n, ⟨a, vs, e, q, r⟩ => ⟨a, vs, e, S a vs q, TrL.sameT S n r⟩
  | .list _, _, n, _ => nomatch n
  | .dict _, _, n, _ => nomatch n
theorem TrL.sameT {H H' : Hp} (S : SameT H H') : ∀ {ds : List PyData} {vs : List V}, noLs ds = true → TrL H ds vs → TrL H' ds vs
  | [], _, _, h => h
  | d :: r, _, n, ⟨v, vr, e, q1, q2⟩ => by
    obtain ⟨n1, n2⟩ := Bool.and_eq_true_iff.mp (show (noL d && noLs r) = true from n)
    exact ⟨v, vr, e, Tr.sameT S n1 q1, TrL.sameT S n2 q2⟩
end
theorem Same.t {H H' : Hp} (S : Same H H') : SameT H H' := fun b xs e => S b _ e
theorem SameT.trans {H H1 H2 : Hp} (x : SameT H H1) (y : SameT H1 H2) : SameT H H2 := fun b xs e => y b xs (x b xs e)
theorem SameT.updL {H : Hp} {p : Addr} {xs : List V} {o : HO} (h : H p = some (.lst xs)) : SameT H (upd H p o) := fun b ys e => by
  rw [upd_ne]; exact e
  intro z; rw [z, h] at e; cases e
theorem TrL.get {H : Hp} : ∀ {ds : List PyData} {vs : List V} {k : Nat} {v : V}, TrL H ds vs → vs[k]? = some v → ∃ d, ds[k]? = some d ∧ Tr H d v
  | [], _, k, v, h, e => by cases (show _ = [] from h); simp at e
  | d :: r, _, 0, v, ⟨_, _, rfl, q, _⟩, e => by simp at e; subst e; exact ⟨d, rfl, q⟩
  | d :: r, _, k + 1, v, ⟨_, _, rfl, _, q⟩, e => by simp at e; simpa using TrL.get q e
theorem TrL.got {H : Hp} : ∀ {ds : List PyData} {vs : List V} {k : Nat} {d : PyData}, TrL H ds vs → ds[k]? = some d → ∃ v, vs[k]? = some v ∧ Tr H d v
  | [], _, k, d, h, e => by simp at e
  | d :: r, _, 0, _, ⟨v, _, rfl, q, _⟩, e => by simp at e; subst e; exact ⟨v, rfl, q⟩
  | d :: r, _, k + 1, _, ⟨_, _, rfl, _, q⟩, e => by simp at e; simpa using TrL.got q e
theorem TrL.app {H : Hp} : ∀ {ds es : List PyData} {vs us : List V}, TrL H ds vs → TrL H es us → TrL H (ds ++ es) (vs ++ us)
  | [], es, _, us, h, q => by cases (show _ = [] from h); exact q
  | d :: r, es, _, us, ⟨v, vr, rfl, q1, q2⟩, q => ⟨v, vr ++ us, rfl, q1, TrL.app q2 q⟩
theorem TrL.one {H : Hp} {d : PyData} {v : V} (h : Tr H d v) : TrL H [d] [v] := ⟨v, [], rfl, h, rfl⟩
theorem noLs_all {ds : List PyData} (h : noLs ds = true) : ∀ d ∈ ds, noL d = true := by
  induction ds with
  | nil => intro d hd; cases hd
  | cons a r ih =>
    obtain ⟨n1, n2⟩ := Bool.and_eq_true_iff.mp (show (noL a && noLs r) = true from h)
    intro d hd
    rcases List.mem_cons.mp hd with rfl | hd
    · exact n1
    · exact ih n2 d hd
theorem noLs_of {ds : List PyData} (h : ∀ d ∈ ds, noL d = true) : noLs ds = true := by
  induction ds with
  | nil => rfl
  | cons a r ih => show (noL a && noLs r) = true; rw [h a (.head _), ih fun d hd => h d (.tail _ hd)]; rfl
end L2
namespace L2
open PySem
mutual
def wt : PyData → Nat
  | .none => 4
  | .bool _ => 5
  | .int _ => 1921
  | .str x => 10 * x.length + 2
  | .list xs => wtAll xs + 4
  | .tuple xs => wtAll xs + 4
  | .dict _ => 0
def wtAll : List PyData → Nat
  | [] => 0
  | x :: xs => wt x + 2 + wtAll xs
end
theorem from_len : ∀ (ts : List Str) (k : Nat) (acc : Str), (textFrom k acc ts).length ≤ acc.length + (ts.map fun t => t.length + 2).sum
  | [], k, acc => Nat.le_refl _
  | t :: r, k, acc => by
    have ih := from_len r (k + 1) (acc ++ (if k > 0 then ", " else "" : String) ++ t)
    have e : (acc ++ (if k > 0 then ", " else "" : String) ++ t).length ≤ acc.length + 2 + t.length := by
      rw [strLen_append, strLen_append]
      split
      · exact Nat.le_refl _
      · show acc.length + 0 + t.length ≤ _; omega
    show (textFrom (k + 1) (acc ++ (if k > 0 then ", " else "" : String) ++ t) r).length ≤ _
    rw [List.map_cons, List.sum_cons]
    omega
theorem list_len (ts : List Str) : (listText ts).length ≤ (ts.map fun t => t.length + 2).sum + 4 := by
  unfold listText
  rw [strLen_append]
  have := from_len ts 0 "["
  have e1 : (("[" : String) : Str).length = 1 := rfl
  have e2 : (("]" : String) : Str).length = 1 := rfl
  omega
theorem piled_sum : ∀ ts : List Str, piled ts = (ts.map fun t => t.length + 2).sum
  | [] => rfl
  | t :: r => by rw [piled_cons, List.map_cons, List.sum_cons, piled_sum r]
theorem tuple_len (ts : List Str) : (tupleText ts).length ≤ (ts.map fun t => t.length + 2).sum + 4 := by
  unfold tupleText
  rw [strLen_append, strLen_append]
  have e1 : (("(" : String) : Str).length = 1 := rfl
  have e2 : (if ts.length == 1 then ((",)" : String) : Str) else ((")" : String) : Str)).length ≤ 2 := by split <;> decide
  have e3 : ((if ts.length == 1 then ",)" else ")" : String) : Str).length ≤ 2 := by split <;> decide
  by_cases h : ts = []
  · subst h; show 1 + 0 + _ ≤ _; simp only [List.map_nil, List.sum_nil] at *; omega
  · have := join_length_add ts h
    rw [piled_sum] at this
    omega
mutual
theorem shown_wt : ∀ d : PyData, d.canLay0 = true → d.showable = true → d.shown.length ≤ wt d
  | .none, _, _ => by decide
  | .bool b, _, _ => by cases b <;> decide
  | .int i, _, h => PyProof.Rows.int_text_len_1921 (by simpa [PyData.showable] using h)
  | .str x, h, _ => StrLaws.reprText_len x fun c hc => by
      have h : x.cps.all (· < 0x110000) = true := h
      have := Array.all_eq_true_iff_forall_mem.mp h c (Array.mem_toList_iff.mp hc)
      have := of_decide_eq_true this
      omega
  | .list xs, h, s => Nat.le_trans (list_len _) (Nat.add_le_add_right (shown_wtAll xs h s) 4)
  | .tuple xs, h, s => Nat.le_trans (tuple_len _) (Nat.add_le_add_right (shown_wtAll xs h s) 4)
  | .dict kv, h, _ => nomatch h
theorem shown_wtAll : ∀ ds : List PyData, PyData.canLayAll0 ds = true → PyData.showableAll ds = true → ((PyData.shownAll ds).map fun t => t.length + 2).sum ≤ wtAll ds
  | [], _, _ => Nat.le_refl _
  | d :: r, h, s => by
    obtain ⟨h1, h2⟩ := Bool.and_eq_true_iff.mp (show (d.canLay0 && PyData.canLayAll0 r) = true from h)
    obtain ⟨s1, s2⟩ := Bool.and_eq_true_iff.mp (show (d.showable && PyData.showableAll r) = true from s)
    have a := shown_wt d h1 s1
    have b := shown_wtAll r h2 s2
    show (((d.shown :: PyData.shownAll r).map fun t => t.length + 2).sum) ≤ wt d + 2 + wtAll r
    rw [List.map_cons, List.sum_cons]
    omega
end
end L2
namespace K
open PySem L2
def FV (v : V) : Prop := v = .non ∨ (∃ i : Int, v = .int i ∧ -1000000000000 ≤ i ∧ i ≤ 1000000000000) ∨ ∃ x : Str, v = .str x ∧ x.length ≤ 40 ∧ PyData.strOk x = true
def nn (xs : List V) : List V := xs.filter fun v => !decide (v = V.non)
theorem nn_snoc (xs : List V) (x : V) : nn (xs ++ [x]) = nn xs ++ (if x = .non then [] else [x]) := by
  unfold nn; rw [List.filter_append]; by_cases h : x = .non <;> simp [h]
theorem nn_len (xs : List V) : (nn xs).length ≤ xs.length := List.length_filter_le _ _
theorem nn_mem {xs : List V} {v : V} (h : v ∈ nn xs) : v ∈ xs ∧ v ≠ .non := by
  unfold nn at h; simpa using h
theorem take_snoc {α : Type} {xs : List α} {i : Nat} {x : α} (h : xs[i]? = some x) : xs.take (i + 1) = xs.take i ++ [x] := by
  rw [List.take_add_one, h]; rfl
def vlt : V → V → Bool
  | .int i, .int j => decide (i < j)
  | .int _, .str _ => true
  | .str x, .str y => decide (x.cps.toList < y.cps.toList)
  | _, _ => false
def NT (v : V) : Prop := (∃ i, v = .int i) ∨ ∃ x, v = .str x
theorem FV.nt {v : V} (h : FV v) (n : v ≠ .non) : NT v := by
  rcases h with h | ⟨i, rfl, _⟩ | ⟨x, rfl, _⟩
  · exact absurd h n
  · exact .inl ⟨i, rfl⟩
  · exact .inr ⟨x, rfl⟩
theorem str_ext {x y : Str} (h : x.cps.toList = y.cps.toList) : x = y := by
  cases x; cases y; simp only [Str.mk.injEq]; exact Array.toList_inj.mp h
theorem vlt_asym {x y : V} (h : vlt x y = true) : vlt y x = false := by
  cases x <;> cases y <;> simp only [vlt, decide_eq_true_eq, decide_eq_false_iff_not, Bool.false_eq_true] at h ⊢
  · omega
  · exact List.lt_asymm h
theorem vlt_eq {x y : V} (hx : NT x) (hy : NT y) (h1 : vlt x y = false) (h2 : vlt y x = false) : x = y := by
  rcases hx with ⟨i, rfl⟩ | ⟨a, rfl⟩ <;> rcases hy with ⟨j, rfl⟩ | ⟨b, rfl⟩ <;> simp only [vlt, decide_eq_false_iff_not, reduceCtorEq, Bool.true_eq_false] at h1 h2
  · have : i = j := by omega
    rw [this]
  · have e : a.cps.toList = b.cps.toList := List.le_antisymm (List.not_lt.mp h2) (List.not_lt.mp h1)
    rw [str_ext e]
def pick (lt : V → V → Bool) : Option V → V → Option V
  | none, x => some x
  | some b, x => if lt x b = true then some x else some b
theorem pick_some (lt : V → V → Bool) (b x : V) : pick lt (some b) x = if lt x b = true then some x else some b := rfl
theorem pick_none (lt : V → V → Bool) (x : V) : pick lt none x = some x := rfl
def bestF (lt : V → V → Bool) (xs : List V) : Option V := xs.foldl (pick lt) none
theorem bestF_snoc (lt : V → V → Bool) (xs : List V) (x : V) : bestF lt (xs ++ [x]) = pick lt (bestF lt xs) x := by
  unfold bestF; rw [List.foldl_append]; rfl
theorem bestF_mem (lt : V → V → Bool) : ∀ (n : Nat) (xs : List V), xs.length = n → ∀ b, bestF lt xs = some b → b ∈ xs
  | 0, xs, h, b, e => by cases xs with | nil => cases e | cons a r => cases h
  | n + 1, xs, h, b, e => by
    rcases List.eq_nil_or_concat xs with rfl | ⟨ys, y, rfl⟩
    · cases h
    · rw [List.concat_eq_append] at h e ⊢
      have hy : ys.length = n := by simpa using h
      rw [bestF_snoc] at e
      cases hb : bestF lt ys with
      | none => rw [hb] at e; cases e; simp
      | some c =>
        have ih := bestF_mem lt n ys hy c hb
        rw [hb, pick_some] at e
        by_cases hc : lt y c = true
        · rw [if_pos hc] at e; cases e; simp
        · rw [if_neg hc] at e; cases e; simp [ih]
theorem bestF_none (lt : V → V → Bool) : ∀ (n : Nat) (xs : List V), xs.length = n → bestF lt xs = none → xs = []
  | 0, xs, h, _ => List.length_eq_zero_iff.mp h
  | n + 1, xs, h, e => by
    rcases List.eq_nil_or_concat xs with rfl | ⟨ys, y, rfl⟩
    · cases h
    · rw [List.concat_eq_append] at h e
      rw [bestF_snoc] at e
      cases hb : bestF lt ys with
      | none => rw [hb] at e; cases e
      | some c =>
        rw [hb, pick_some] at e
        by_cases hc : lt y c = true
        · rw [if_pos hc] at e; cases e
        · rw [if_neg hc] at e; cases e
theorem bestF_eq {l1 l2 : V → V → Bool} : ∀ (n : Nat) (xs : List V), xs.length = n → (∀ v ∈ xs, NT v) → (∀ x b, NT x → NT b → (if l1 x b = true then x else b) = if l2 x b = true then x else b) → bestF l1 xs = bestF l2 xs
  | 0, xs, h, _, _ => by cases xs with | nil => rfl | cons a r => cases h
  | n + 1, xs, h, hn, hl => by
    rcases List.eq_nil_or_concat xs with rfl | ⟨ys, y, rfl⟩
    · cases h
    · rw [List.concat_eq_append] at h hn ⊢
      have hy : ys.length = n := by simpa using h
      have ih := bestF_eq n ys hy (fun v hv => hn v (by simp [hv])) hl
      rw [bestF_snoc, bestF_snoc, ih]
      cases hb : bestF l2 ys with
      | none => rfl
      | some c =>
        have hc : NT c := hn c (by simp [bestF_mem l2 _ ys rfl c hb])
        have := hl y c (hn y (by simp)) hc
        rw [pick_some, pick_some]
        have em : ∀ c1 : Prop, ∀ [Decidable c1], (if c1 then some y else some c) = some (if c1 then y else c) := fun c1 _ => by split <;> rfl
        rw [em, em, this]
theorem great_eq {xs : List V} (h : ∀ v ∈ xs, NT v) : bestF (fun x b => vlt b x) xs = bestF (fun x b => !vlt x b) xs := by
  refine bestF_eq _ xs rfl h fun x b hx hb => ?_
  cases h1 : vlt x b with
  | true => rw [vlt_asym h1]; simp
  | false =>
    cases h2 : vlt b x with
    | true => simp
    | false => rw [vlt_eq hx hb h1 h2]; simp
def rkV : V → List V
  | .non => [.int 0, .int 0]
  | .str x => [.int 2, .str x]
  | v => [.int 1, v]
def lrkV : V → List V
  | .non => [.int 0, .int 0, .str (Str.ofString "")]
  | .str x => [.int 2, .int 0, .str x]
  | v => [.int 1, v, .str (Str.ofString "")]
def dV : V → PyData
  | .int i => .int i
  | .str x => .str x
  | _ => .none
def rkD : V → PyData
  | .str x => .tuple [.int 2, .str x]
  | v => .tuple [.int 1, dV v]
def lrkD : V → PyData
  | .str x => .tuple [.int 2, .int 0, .str x]
  | v => .tuple [.int 1, dV v, .str (Str.ofString "")]
theorem rk_tr {H : Hp} {p : Addr} {v : V} (hv : NT v) (h : H p = some (.tup (rkV v))) : Tr H (rkD v) (.ref p) := by
  rcases hv with ⟨i, rfl⟩ | ⟨x, rfl⟩ <;> exact ⟨p, _, rfl, h, ⟨_, _, rfl, rfl, _, _, rfl, rfl, rfl⟩⟩
theorem lrk_tr {H : Hp} {p : Addr} {v : V} (hv : NT v) (h : H p = some (.tup (lrkV v))) : Tr H (lrkD v) (.ref p) := by
  rcases hv with ⟨i, rfl⟩ | ⟨x, rfl⟩ <;> exact ⟨p, _, rfl, h, ⟨_, _, rfl, rfl, _, _, rfl, rfl, _, _, rfl, rfl, rfl⟩⟩
theorem rk_flat {v : V} (hv : FV v) (n : v ≠ .non) : Flat (rkD v) := by
  rcases hv with h | ⟨i, rfl, _⟩ | ⟨x, rfl, _, h⟩
  · exact absurd h n
  · exact ⟨by simp [rkD, dV, PyData.canLay0, PyData.canLayAll0], by simp [rkD, dV, PyData.depth, PyData.depthAll]⟩
  · exact ⟨by simp [rkD, dV, PyData.canLay0, PyData.canLayAll0, h], by simp [rkD, dV, PyData.depth, PyData.depthAll]⟩
theorem lrk_flat {v : V} (hv : FV v) (n : v ≠ .non) : Flat (lrkD v) := by
  have h0 : PyData.strOk (Str.ofString "") = true := by decide +kernel
  rcases hv with h | ⟨i, rfl, _⟩ | ⟨x, rfl, _, h⟩
  · exact absurd h n
  · exact ⟨by simp [lrkD, dV, PyData.canLay0, PyData.canLayAll0, h0], by simp [lrkD, dV, PyData.depth, PyData.depthAll]⟩
  · exact ⟨by simp [lrkD, dV, PyData.canLay0, PyData.canLayAll0, h], by simp [lrkD, dV, PyData.depth, PyData.depthAll]⟩
theorem rk_cmp {x b : V} (hx : NT x) (hb : NT b) : cmpT false (rkD x) (rkD b) = some (vlt x b) ∧ cmpT true (rkD x) (rkD b) = some (vlt b x) := by
  rcases hx with ⟨i, rfl⟩ | ⟨y, rfl⟩ <;> rcases hb with ⟨j, rfl⟩ | ⟨z, rfl⟩ <;> simp only [rkD, dV, cmpT, lexT, PyData.eqv, vlt, beq_iff_eq, beq_self_eq_true, if_true]
  · by_cases e : i = j
    · subst e; simp
    · simp [e]
  · simp
  · simp
  · by_cases e : y = z
    · subst e; simp
    · simp [e]
theorem lrk_cmp {x b : V} (hx : NT x) (hb : NT b) : cmpT false (lrkD x) (lrkD b) = some (vlt x b) := by
  rcases hx with ⟨i, rfl⟩ | ⟨y, rfl⟩ <;> rcases hb with ⟨j, rfl⟩ | ⟨z, rfl⟩ <;> simp only [lrkD, dV, cmpT, lexT, PyData.eqv, vlt, beq_iff_eq, beq_self_eq_true, if_true]
  · by_cases e : i = j
    · subst e; simp
    · simp [e]
  · simp
  · simp
  · by_cases e : y = z
    · subst e; simp
    · simp [e]
def isT : V → Bool
  | .str _ => true
  | _ => false
def intOf : V → Int
  | .int i => i
  | _ => 0
theorem ints_of {xs : List V} (h : ∀ v ∈ xs, NT v) (ht : xs.any isT = false) : xs = (xs.map intOf).map V.int := by
  rw [List.map_map]
  have e : xs.map (V.int ∘ intOf) = xs.map id := List.map_congr_left fun v hv => by
    rcases h v hv with ⟨i, rfl⟩ | ⟨x, rfl⟩
    · rfl
    · have := List.any_eq_false.mp ht _ hv
      simp [isT] at this
  rw [e, List.map_id]
theorem keys_of {xs : List V} (h : ∀ v ∈ xs, NT v) : ∃ ks : List Key, xs.map keyV = ks.map some ∧ (dst ks).length = (dst xs).length := by
  let f : V → Key := fun v => match v with | .int i => .inl i | .str x => .inr x | _ => .inl 0
  refine ⟨xs.map f, ?_, ?_⟩
  · rw [List.map_map]
    refine List.map_congr_left fun v hv => ?_
    rcases h v hv with ⟨i, rfl⟩ | ⟨x, rfl⟩ <;> rfl
  · have inj : ∀ v u, NT v → NT u → (f v = f u ↔ v = u) := by
      intro v u hv hu
      rcases hv with ⟨i, rfl⟩ | ⟨x, rfl⟩ <;> rcases hu with ⟨j, rfl⟩ | ⟨y, rfl⟩ <;> simp [f]
    have key : ∀ (n : Nat) (ys : List V), ys.length = n → (∀ v ∈ ys, NT v) → dst (ys.map f) = (dst ys).map f ∧ ∀ v ∈ dst ys, NT v := by
      intro n
      induction n with
      | zero => intro ys hy _; rw [List.length_eq_zero_iff.mp hy]; exact ⟨rfl, fun v hv => by simp [dst] at hv⟩
      | succ n ih =>
        intro ys hy hn
        rcases List.eq_nil_or_concat ys with rfl | ⟨zs, z, rfl⟩
        · cases hy
        · rw [List.concat_eq_append] at hy hn ⊢
          obtain ⟨e, hd⟩ := ih zs (by simpa using hy) (fun v hv => hn v (by simp [hv]))
          have hz : NT z := hn z (by simp)
          rw [List.map_append, List.map_singleton, dst_snoc, dst_snoc, e]
          have em : memB ((dst zs).map f) (f z) = memB (dst zs) z := by
            have : (memB ((dst zs).map f) (f z) = true) ↔ (memB (dst zs) z = true) := by
              rw [memB_iff, memB_iff, List.mem_map]
              constructor
              · rintro ⟨v, hv, e⟩
                rw [← (inj v z (hd v hv) hz).mp e]; exact hv
              · intro hv; exact ⟨z, hv, rfl⟩
            exact Bool.eq_iff_iff.mpr this
          unfold dstep
          rw [em]
          by_cases hm : memB (dst zs) z = true
          · rw [if_pos hm, if_pos hm]; exact ⟨rfl, hd⟩
          · rw [if_neg hm, if_neg hm]
            refine ⟨by simp, fun v hv => ?_⟩
            rcases List.mem_append.mp hv with hv | hv
            · exact hd v hv
            · rw [List.mem_singleton.mp hv]; exact hz
    rw [(key _ xs rfl h).1, List.length_map]
theorem inV_mem {xs : List V} {v : V} (hv : NT v) (h : ∀ u ∈ xs, NT u) : inV v xs = memB xs v := by
  induction xs with
  | nil => rfl
  | cons u r ih =>
    have ih := ih fun z hz => h z (.tail _ hz)
    unfold inV memB at *
    rw [List.any_cons, List.any_cons, ih]
    congr 1
    rcases hv with ⟨i, rfl⟩ | ⟨x, rfl⟩ <;> rcases h u (.head _) with ⟨j, rfl⟩ | ⟨y, rfl⟩ <;> simp [eqV] <;> rfl
end K
namespace K
open PySem L2
theorem dV_tr {H : Hp} {v : V} (h : FV v) : Tr H (dV v) v := by
  rcases h with rfl | ⟨i, rfl, _⟩ | ⟨x, rfl, _⟩ <;> rfl
theorem dVs_tr {H : Hp} : ∀ {xs : List V}, (∀ v ∈ xs, FV v) → TrL H (xs.map dV) xs
  | [], _ => rfl
  | v :: r, h => ⟨v, r, rfl, dV_tr (h v (.head _)), dVs_tr fun u hu => h u (.tail _ hu)⟩
theorem dV_back {H : Hp} {v u : V} (h : FV v) (t : Tr H (dV v) u) : u = v := by
  rcases h with rfl | ⟨i, rfl, _⟩ | ⟨x, rfl, _⟩ <;> exact t
theorem dVs_back {H : Hp} : ∀ {xs us : List V}, (∀ v ∈ xs, FV v) → TrL H (xs.map dV) us → us = xs
  | [], us, _, t => t
  | v :: r, us, h, ⟨u, ur, e, t1, t2⟩ => by rw [e, dV_back (h v (.head _)) t1, dVs_back (fun u hu => h u (.tail _ hu)) t2]
structure Good (d : PyData) (n w : Nat) : Prop where
  lay : d.canLay0 = true
  shw : d.showable = true
  dct : d.hasDict = false
  dep : d.depth ≤ n
  wgt : wt d ≤ w
  noL : L2.noL d = true
structure Goods (ds : List PyData) (n w : Nat) : Prop where
  lay : PyData.canLayAll0 ds = true
  shw : PyData.showableAll ds = true
  dct : PyData.hasDictAll ds = false
  dep : PyData.depthAll ds ≤ n
  wgt : wtAll ds ≤ w * ds.length
  noL : L2.noLs ds = true
theorem Goods.of {n w : Nat} : ∀ {ds : List PyData}, (∀ d ∈ ds, Good d n w) → Goods ds n (w + 2)
  | [], _ => ⟨rfl, rfl, rfl, Nat.zero_le _, Nat.zero_le _, rfl⟩
  | d :: r, h => by
    have a := h d (.head _)
    have b := Goods.of fun e he => h e (.tail _ he)
    refine ⟨?_, ?_, ?_, ?_, ?_, ?_⟩
    · show (d.canLay0 && PyData.canLayAll0 r) = true; rw [a.lay, b.lay]; rfl
    · show (d.showable && PyData.showableAll r) = true; rw [a.shw, b.shw]; rfl
    · show (d.hasDict || PyData.hasDictAll r) = false; rw [a.dct, b.dct]; rfl
    · show max d.depth (PyData.depthAll r) ≤ n; have := a.dep; have := b.dep; omega
    · show wt d + 2 + wtAll r ≤ (w + 2) * (r.length + 1)
      have := a.wgt; have := b.wgt; rw [Nat.mul_succ]; omega
    · show (L2.noL d && L2.noLs r) = true; rw [a.noL, b.noL]; rfl
theorem Good.tup {ds : List PyData} {n w k : Nat} (h : ∀ d ∈ ds, Good d n w) (hk : ds.length ≤ k) : Good (.tuple ds) (n + 1) ((w + 2) * k + 4) := by
  have g := Goods.of h
  have m : (w + 2) * ds.length ≤ (w + 2) * k := Nat.mul_le_mul_left _ hk
  refine ⟨g.lay, g.shw, g.dct, ?_, ?_, g.noL⟩
  · show PyData.depthAll ds + 1 ≤ n + 1; have := g.dep; omega
  · show wtAll ds + 4 ≤ (w + 2) * k + 4; have := g.wgt; omega
theorem Good.mono {d : PyData} {n w n' w' : Nat} (h : Good d n w) (a : n ≤ n') (b : w ≤ w') : Good d n' w' := ⟨h.lay, h.shw, h.dct, Nat.le_trans h.dep a, Nat.le_trans h.wgt b, h.noL⟩
theorem dV_good {v : V} (h : FV v) : Good (dV v) 0 1921 := by
  rcases h with rfl | ⟨i, rfl, h0, h1⟩ | ⟨x, rfl, h0, h1⟩
  · exact ⟨rfl, rfl, rfl, Nat.le_refl _, by decide, rfl⟩
  · refine ⟨rfl, ?_, rfl, Nat.le_refl _, Nat.le_refl _, rfl⟩
    have hb : i.natAbs < 2 ^ 41 := by omega
    have : i.natAbs.log2 < 1920 := by
      by_cases hz : i.natAbs = 0
      · rw [hz]; decide
      · exact Nat.lt_of_lt_of_le ((Nat.log2_lt hz).mpr hb) (by decide)
    simpa [dV, PyData.showable] using this
  · refine ⟨h1, rfl, rfl, Nat.le_refl _, ?_, rfl⟩
    show 10 * x.length + 2 ≤ 1921
    omega
def tupD (vs : List V) : PyData := .tuple (vs.map dV)
def FVs (vs : List V) : Prop := ∀ v ∈ vs, FV v
theorem tupD_good {vs : List V} {k : Nat} (h : FVs vs) (hk : vs.length ≤ k) : Good (tupD vs) 1 (1923 * k + 4) :=
  Good.tup (fun d hd => by obtain ⟨v, hv, rfl⟩ := List.mem_map.mp hd; exact dV_good (h v hv)) (by simpa using hk)
theorem tupD_tr {H : Hp} {a : Addr} {vs : List V} (h : FVs vs) (ha : H a = some (.tup vs)) : Tr H (tupD vs) (.ref a) := ⟨a, vs, rfl, ha, dVs_tr h⟩
theorem tupD_back {H : Hp} {vs : List V} {v : V} (h : FVs vs) (t : Tr H (tupD vs) v) : ∃ a, v = .ref a ∧ H a = some (.tup vs) := by
  obtain ⟨a, us, rfl, e, q⟩ := t
  rw [dVs_back h q] at e
  exact ⟨a, rfl, e⟩
structure Wd where
  key : List V
  names : List V
  vals : List V
  heads : List (List V)
  rows : List (List V × List (Option (List V)))
def cellD : Option (List V) → PyData
  | none => .none
  | some c => tupD c
def rowD (r : List V × List (Option (List V))) : PyData := .tuple [tupD r.1, .tuple (r.2.map cellD)]
def Wd.ps (w : Wd) : List PyData := [tupD w.key, tupD w.names, tupD w.vals, .tuple (w.heads.map tupD), .tuple (w.rows.map rowD)]
def Wd.d (w : Wd) : PyData := .tuple w.ps
def FVc (c : Option (List V)) : Prop := ∀ vs, c = some vs → FVs vs ∧ vs.length ≤ 9
structure RowOk (n : Nat) (r : List V × List (Option (List V))) : Prop where
  part : FVs r.1
  plen : r.1.length ≤ 9
  cells : ∀ c ∈ r.2, FVc c
  clen : r.2.length = n
structure Wd.Ok (w : Wd) : Prop where
  key : FVs w.key
  klen : w.key.length ≤ 9
  names : FVs w.names
  nlen : w.names.length ≤ 9
  vals : FVs w.vals
  vlen : w.vals.length ≤ 9
  heads : ∀ h ∈ w.heads, FVs h ∧ h.length ≤ 9
  hlen : w.heads.length ≤ 12
  rows : ∀ r ∈ w.rows, RowOk w.heads.length r
  rlen : w.rows.length ≤ 12
theorem cellD_good {c : Option (List V)} (h : FVc c) : Good (cellD c) 1 17311 := by
  cases c with
  | none => exact ⟨rfl, rfl, rfl, Nat.zero_le _, by decide, rfl⟩
  | some vs => exact (tupD_good (h vs rfl).1 (h vs rfl).2).mono (Nat.le_refl _) (by decide)
theorem rowD_good {n : Nat} {r : List V × List (Option (List V))} (h : RowOk n r) (hn : n ≤ 12) : Good (rowD r) 3 450000 := by
  have a : Good (tupD r.1) 2 207760 := (tupD_good h.part h.plen).mono (by decide) (by decide)
  have b : Good (.tuple (r.2.map cellD)) 2 207760 := (Good.tup (n := 1) (w := 17311) (k := 12) (fun d hd => by obtain ⟨c, hc, rfl⟩ := List.mem_map.mp hd; exact cellD_good (h.cells c hc)) (by rw [List.length_map, h.clen]; exact hn)).mono (by decide) (by decide)
  have t := Good.tup (ds := [tupD r.1, .tuple (r.2.map cellD)]) (n := 2) (w := 207760) (k := 2) (fun d hd => by
    simp only [List.mem_cons, List.not_mem_nil, or_false] at hd
    rcases hd with rfl | rfl
    · exact a
    · exact b) (Nat.le_refl _)
  exact t.mono (by decide) (by decide)
theorem Wd.good {w : Wd} (h : w.Ok) : (∀ d ∈ w.ps, Good d 4 5500000) ∧ Good w.d 5 12000000 := by
  have a1 := tupD_good h.key h.klen
  have a2 := tupD_good h.names h.nlen
  have a3 := tupD_good h.vals h.vlen
  have a4 : Good (.tuple (w.heads.map tupD)) 2 207760 := (Good.tup (n := 1) (w := 17311) (k := 12) (fun d hd => by obtain ⟨c, hc, rfl⟩ := List.mem_map.mp hd; exact tupD_good (h.heads c hc).1 (h.heads c hc).2) (by simpa using h.hlen)).mono (by decide) (by decide)
  have a5 : Good (.tuple (w.rows.map rowD)) 4 5400028 := Good.tup (n := 3) (w := 450000) (k := 12) (fun d hd => by obtain ⟨c, hc, rfl⟩ := List.mem_map.mp hd; exact rowD_good (h.rows c hc) h.hlen) (by simpa using h.rlen)
  have lay : PyData.canLayAll0 w.ps = true := by
    show ((tupD w.key).canLay0 && ((tupD w.names).canLay0 && ((tupD w.vals).canLay0 && ((PyData.tuple (w.heads.map tupD)).canLay0 && ((PyData.tuple (w.rows.map rowD)).canLay0 && true))))) = true
    rw [a1.lay, a2.lay, a3.lay, a4.lay, a5.lay]; rfl
  have shw : PyData.showableAll w.ps = true := by
    show ((tupD w.key).showable && ((tupD w.names).showable && ((tupD w.vals).showable && ((PyData.tuple (w.heads.map tupD)).showable && ((PyData.tuple (w.rows.map rowD)).showable && true))))) = true
    rw [a1.shw, a2.shw, a3.shw, a4.shw, a5.shw]; rfl
  have dct : PyData.hasDictAll w.ps = false := by
    show ((tupD w.key).hasDict || ((tupD w.names).hasDict || ((tupD w.vals).hasDict || ((PyData.tuple (w.heads.map tupD)).hasDict || ((PyData.tuple (w.rows.map rowD)).hasDict || false))))) = false
    rw [a1.dct, a2.dct, a3.dct, a4.dct, a5.dct]; rfl
  have nol : L2.noLs w.ps = true := by
    show (L2.noL (tupD w.key) && (L2.noL (tupD w.names) && (L2.noL (tupD w.vals) && (L2.noL (PyData.tuple (w.heads.map tupD)) && (L2.noL (PyData.tuple (w.rows.map rowD)) && true))))) = true
    rw [a1.noL, a2.noL, a3.noL, a4.noL, a5.noL]; rfl
  refine ⟨fun d hd => ?_, ⟨lay, shw, dct, ?_, ?_, nol⟩⟩
  · simp only [Wd.ps, List.mem_cons, List.not_mem_nil, or_false] at hd
    rcases hd with rfl | rfl | rfl | rfl | rfl
    · exact a1.mono (by decide) (by decide)
    · exact a2.mono (by decide) (by decide)
    · exact a3.mono (by decide) (by decide)
    · exact a4.mono (by decide) (by decide)
    · exact a5.mono (by decide) (by decide)
  · show max (tupD w.key).depth (max (tupD w.names).depth (max (tupD w.vals).depth (max (PyData.tuple (w.heads.map tupD)).depth (max (PyData.tuple (w.rows.map rowD)).depth 0)))) + 1 ≤ 5
    have := a1.dep; have := a2.dep; have := a3.dep; have := a4.dep; have := a5.dep
    omega
  · show wt (tupD w.key) + 2 + (wt (tupD w.names) + 2 + (wt (tupD w.vals) + 2 + (wt (PyData.tuple (w.heads.map tupD)) + 2 + (wt (PyData.tuple (w.rows.map rowD)) + 2 + 0)))) + 4 ≤ 12000000
    have := a1.wgt; have := a2.wgt; have := a3.wgt; have := a4.wgt; have := a5.wgt
    omega
theorem Good.str {d : PyData} (h : Good d 5 12000000) : d.showable = true ∧ d.hasDict = false ∧ d.depth ≤ 40 ∧ d.shown.length ≤ sizeLine :=
  ⟨h.shw, h.dct, Nat.le_trans h.dep (by decide), Nat.le_trans (shown_wt d h.lay h.shw) (Nat.le_trans h.wgt (by decide))⟩
theorem Good.flat {d : PyData} {n w : Nat} (h : Good d n w) (hn : n ≤ 40) : Flat d := ⟨h.lay, Nat.le_trans h.dep hn⟩
def outC (p h : List V) (c : Option (List V)) : Option (List V) := c.map fun c => p ++ h ++ c
def outR (heads : List (List V)) (r : List V × List (Option (List V))) : List (List V) := (heads.zip r.2).filterMap fun q => outC r.1 q.1 q.2
def Wd.out (w : Wd) : List (List V) := w.rows.flatMap (outR w.heads)
def Wd.outD (w : Wd) : PyData := .tuple [tupD (w.key ++ w.names ++ w.vals), .tuple (w.out.map tupD)]
theorem outR_len (heads : List (List V)) (r : List V × List (Option (List V))) : (outR heads r).length ≤ heads.length := by
  unfold outR
  refine Nat.le_trans (List.length_filterMap_le _ _) ?_
  rw [List.length_zip]; omega
theorem FVs.app {a b : List V} (h : FVs a) (k : FVs b) : FVs (a ++ b) := fun v hv => by
  rcases List.mem_append.mp hv with hv | hv
  · exact h v hv
  · exact k v hv
theorem Wd.out_ok {w : Wd} (h : w.Ok) : ∀ o ∈ w.out, FVs o ∧ o.length ≤ 27 := by
  intro o ho
  obtain ⟨r, hr, ho⟩ := List.mem_flatMap.mp ho
  obtain ⟨q, hq, e⟩ := List.mem_filterMap.mp ho
  obtain ⟨hd, c⟩ := q
  have hz := List.of_mem_zip hq
  obtain ⟨f1, l1⟩ := h.heads hd hz.1
  have ok := h.rows r hr
  have fc := ok.cells c hz.2
  cases c with
  | none => cases e
  | some vs =>
    cases e
    obtain ⟨f2, l2⟩ := fc vs rfl
    refine ⟨(ok.part.app f1).app f2, ?_⟩
    have := ok.plen
    simp; omega
theorem flat_len {heads : List (List V)} (hh : heads.length ≤ 12) : ∀ rs : List (List V × List (Option (List V))), (rs.flatMap (outR heads)).length ≤ 12 * rs.length
  | [] => by simp
  | r :: rs => by
    have := flat_len hh rs
    have := outR_len heads r
    simp only [List.flatMap_cons, List.length_append, List.length_cons]
    omega
end K
namespace L2
open PySem
section
variable {K : PySem.W.Frag} {g : TG} {tb : TS} {D : Ends} {σ : St} {H : Hp} {a : Addr} {xs : List V} {t : Bool}
theorem forW_enumG (Pv : Nat → St → Hp → Prop) (h0 : Pv 0 σ H) (hl : ∀ k σ G, Pv k σ G → SqK t G a xs)
    (hs : ∀ k x σ G p, xs[k]? = some x → Pv k σ G → G p = none → g (.ref p) σ (upd G p (.tup [.int k, x])) fun σ2 G2 => tb { D with nx := Pv (k + 1), ct := Pv (k + 1), bk := D.nx } σ2 G2)
    (hd : ∀ σ G, Pv xs.length σ G → D.nx σ G) : ForW (Ite t a) g tb D σ H := by
  refine ⟨fun k m σ G => m = xs.length - k ∧ k ≤ xs.length ∧ Pv k σ G, ⟨_, rfl, Nat.zero_le _, h0⟩, ?_⟩
  rintro k m σ G ⟨rfl, hk, p⟩
  have q1 := hl k σ G p
  by_cases lt : k < xs.length
  · refine .inr ⟨⟨xs, xs[k], q1, by simp [lt]⟩, Pv (k + 1), fun σ' G' w => ⟨_, by omega, rfl, by omega, w⟩, fun v G' yl => ?_⟩
    obtain ⟨p', x, rfl, hp, rfl, e1⟩ := yl
    exact hs k x σ G p' (e1 xs q1) p hp
  · have e : k = xs.length := by omega
    subst e
    exact .inl ⟨⟨xs, q1, Nat.le_refl _⟩, hd σ G p⟩
theorem g3_of {i j l : Nat} {x y v : V} {p q : Addr} {R : St → Hp → Prop} (hp : H p = some (.tup [v, .ref q])) (hq : H q = some (.tup [x, y])) (k : R (((σ.set i (some v)).set j (some x)).set l (some y)) H) :
    gTup K 2 (gCons (gName i) (gCons (gTup K 2 (gCons (gName j) (gCons (gName l) gNil))) gNil)) (.ref p) σ H R :=
  ⟨p, [v, .ref q], rfl, SqT.of hp, rfl, _, _, rfl, _, _, rfl, q, [x, y], rfl, SqT.of hq, rfl, _, _, rfl, _, _, rfl, rfl, rfl, k⟩
end
end L2
namespace K
open PySem L2
abbrev Rw := List V × List (Option (List V))
def cAt (cs : List (Option (List V))) (j : Nat) : Option (List V) := cs.getD j none
def colOn (rows : List Rw) (j : Nat) : Bool := rows.any fun r => (cAt r.2 j).isSome
def rowOn (r : Rw) : Bool := r.2.any fun c => c.isSome
def Wd.pl (w : Wd) : List Nat := (List.range w.heads.length).filter (colOn w.rows)
def rAt (js : List Nat) (r : Rw) : Rw := (r.1, js.map (cAt r.2))
def Wd.at (w : Wd) (js : List Nat) : Wd := { w with heads := js.map fun j => w.heads.getD j [], rows := w.rows.map (rAt js) }
def Wd.emp (w : Wd) : Wd := Wd.at { w with rows := w.rows.filter rowOn } w.pl
theorem pl_lt {w : Wd} : ∀ j ∈ w.pl, j < w.heads.length := fun j hj => by
  have := (List.mem_filter.mp hj).1
  exact List.mem_range.mp this
theorem cAt_ok {n : Nat} {r : Rw} (h : RowOk n r) (j : Nat) : FVc (cAt r.2 j) := by
  unfold cAt
  cases e : r.2[j]? with
  | none => rw [List.getD_eq_getElem?_getD, e]; intro vs h; cases h
  | some c => rw [List.getD_eq_getElem?_getD, e]; exact h.cells c (List.mem_of_getElem? e)
theorem at_ok {w : Wd} (h : w.Ok) {js : List Nat} (hj : ∀ j ∈ js, j < w.heads.length) (hl : js.length ≤ 12) : (w.at js).Ok := by
  refine ⟨h.key, h.klen, h.names, h.nlen, h.vals, h.vlen, fun x hx => ?_, ?_, fun r hr => ?_, ?_⟩
  · obtain ⟨j, hj', rfl⟩ := List.mem_map.mp hx
    have lt := hj j hj'
    rw [List.getD_eq_getElem?_getD, List.getElem?_eq_getElem lt]
    exact h.heads _ (List.getElem_mem lt)
  · show (js.map _).length ≤ 12; rw [List.length_map]; exact hl
  · obtain ⟨r', hr', rfl⟩ := List.mem_map.mp hr
    have rok := h.rows r' hr'
    refine ⟨rok.part, rok.plen, fun c hc => ?_, ?_⟩
    · obtain ⟨j, _, rfl⟩ := List.mem_map.mp hc
      exact cAt_ok rok j
    · show (js.map (cAt r'.2)).length = (js.map _).length; simp
  · show (w.rows.map (rAt js)).length ≤ 12; rw [List.length_map]; exact h.rlen
theorem rows_ok {w : Wd} (h : w.Ok) {p : Rw → Bool} : Wd.Ok { w with rows := w.rows.filter p } :=
  ⟨h.key, h.klen, h.names, h.nlen, h.vals, h.vlen, h.heads, h.hlen, fun r hr => h.rows r (List.mem_filter.mp hr).1, Nat.le_trans (List.length_filter_le _ _) h.rlen⟩
theorem pl_len {w : Wd} (h : w.Ok) : w.pl.length ≤ 12 := by
  have := List.length_filter_le (colOn w.rows) (List.range w.heads.length)
  rw [List.length_range] at this
  exact Nat.le_trans this h.hlen
theorem emp_ok {w : Wd} (h : w.Ok) : w.emp.Ok := at_ok (rows_ok h) pl_lt (pl_len h)
theorem emp_heads (w : Wd) : w.emp.heads.length = w.pl.length := by simp [Wd.emp, Wd.at]
theorem cAt_map {js : List Nat} {cs : List (Option (List V))} {i : Nat} (h : i < js.length) : cAt (js.map (cAt cs)) i = cAt cs js[i] := by
  unfold cAt
  rw [List.getD_eq_getElem?_getD, List.getElem?_map, List.getElem?_eq_getElem h]
  rfl
theorem col_emp {w : Wd} {i : Nat} (h : i < w.pl.length) : colOn w.emp.rows i = true := by
  have hm := List.getElem_mem h
  have hc := (List.mem_filter.mp hm).2
  obtain ⟨r, hr, hs⟩ := List.any_eq_true.mp hc
  refine List.any_eq_true.mpr ⟨rAt w.pl r, List.mem_map.mpr ⟨r, List.mem_filter.mpr ⟨hr, ?_⟩, rfl⟩, ?_⟩
  · unfold cAt at hs
    rw [List.getD_eq_getElem?_getD] at hs
    cases e : r.2[w.pl[i]]? with
    | none => rw [e] at hs; cases hs
    | some c => rw [e] at hs; exact List.any_eq_true.mpr ⟨c, List.mem_of_getElem? e, hs⟩
  · show (cAt (w.pl.map (cAt r.2)) i).isSome = true
    rw [cAt_map h]
    exact hs
theorem row_emp {w : Wd} (ok : w.Ok) : ∀ r ∈ w.emp.rows, rowOn r = true := by
  intro r hr
  obtain ⟨r', hr', rfl⟩ := List.mem_map.mp hr
  obtain ⟨h1, h2⟩ := List.mem_filter.mp hr'
  obtain ⟨c, hc, hs⟩ := List.any_eq_true.mp h2
  obtain ⟨j, hj, e⟩ := List.mem_iff_getElem.mp hc
  have cl := (ok.rows r' h1).clen
  have cj : cAt r'.2 j = c := by
    unfold cAt
    rw [List.getD_eq_getElem?_getD, List.getElem?_eq_getElem hj, e]; rfl
  have hm : j ∈ w.pl := List.mem_filter.mpr ⟨List.mem_range.mpr (by omega), List.any_eq_true.mpr ⟨r', h1, by rw [cj]; exact hs⟩⟩
  exact List.any_eq_true.mpr ⟨cAt r'.2 j, List.mem_map.mpr ⟨j, hm, rfl⟩, by rw [cj]; exact hs⟩
theorem map_range_getD {α : Type} (xs : List α) (d : α) : ((List.range xs.length).map fun j => xs.getD j d) = xs := by
  apply List.ext_getElem
  · simp
  · intro i h1 h2
    rw [List.getElem_map, List.getElem_range, List.getD_eq_getElem?_getD, List.getElem?_eq_getElem h2]; rfl
theorem emp_emp {w : Wd} (ok : w.Ok) : w.emp.emp = w.emp := by
  have hp : w.emp.pl = List.range w.emp.heads.length := by
    refine List.filter_eq_self.mpr fun j hj => ?_
    have := List.mem_range.mp hj
    rw [emp_heads] at this
    exact col_emp this
  have hr : w.emp.rows.filter rowOn = w.emp.rows := List.filter_eq_self.mpr (row_emp ok)
  have oke := emp_ok ok
  have e : w.emp.emp = Wd.at w.emp (List.range w.emp.heads.length) := by
    show Wd.at { w.emp with rows := w.emp.rows.filter rowOn } w.emp.pl = _
    rw [hr, hp]
  rw [e]
  have h1 : ((List.range w.emp.heads.length).map fun j => w.emp.heads.getD j []) = w.emp.heads := map_range_getD _ _
  have h2 : w.emp.rows.map (rAt (List.range w.emp.heads.length)) = w.emp.rows := by
    have : w.emp.rows.map (rAt (List.range w.emp.heads.length)) = w.emp.rows.map id := List.map_congr_left fun r hr => by
      have cl := (oke.rows r hr).clen
      show (r.1, (List.range w.emp.heads.length).map (cAt r.2)) = r
      rw [← cl]
      have := map_range_getD r.2 none
      show (r.1, (List.range r.2.length).map fun j => r.2.getD j none) = r
      rw [this]
    rw [this, List.map_id]
  unfold Wd.at
  rw [h1, h2]
end K
namespace K
open PySem L2
def top (i : Nat) : Stmt := PySem.Challenge.pw_pivotfold_k15_emptied.main.body.getD i (.Pass ⟨0, 0, 0, 0⟩)
abbrev s_values_at : Stmt := top 1
theorem sc_values_at : FnScope ["row", "places"] ["row", "places"] (defScope s_values_at) := ⟨rfl, rfl, rfl, by decide +kernel, rfl, by decide +kernel, by decide +kernel⟩
abbrev s_cells_under : Stmt := top 3
theorem sc_cells_under : FnScope ["wide", "place"] ["wide", "place"] (defScope s_cells_under) := ⟨rfl, rfl, rfl, by decide +kernel, rfl, by decide +kernel, by decide +kernel⟩
abbrev s_has_gaps_alone : Stmt := top 4
theorem sc_has_gaps_alone : FnScope ["cells"] ["cells"] (defScope s_has_gaps_alone) := ⟨rfl, rfl, rfl, by decide +kernel, rfl, by decide +kernel, by decide +kernel⟩
abbrev s_with_heads_at : Stmt := top 5
theorem sc_with_heads_at : FnScope ["wide", "places", "rows"] ["wide", "places"] (defScope s_with_heads_at) := ⟨rfl, rfl, rfl, by decide +kernel, rfl, by decide +kernel, by decide +kernel⟩
abbrev s_emptied : Stmt := top 6
theorem sc_emptied : FnScope ["wide", "places", "rows"] ["wide"] (defScope s_emptied) := ⟨rfl, rfl, rfl, by decide +kernel, rfl, by decide +kernel, by decide +kernel⟩
abbrev s__law_cell_at : Stmt := top 8
theorem sc__law_cell_at : FnScope ["_law_script", "_law_k"] ["_law_script", "_law_k"] (defScope s__law_cell_at) := ⟨rfl, rfl, rfl, by decide +kernel, rfl, by decide +kernel, by decide +kernel⟩
abbrev s__law_box : Stmt := top 9
theorem sc__law_box : FnScope ["_law_script", "_law_k", "_law_number_here"] ["_law_script", "_law_k"] (defScope s__law_box) := ⟨rfl, rfl, rfl, by decide +kernel, rfl, by decide +kernel, by decide +kernel⟩
abbrev s__law_take : Stmt := top 10
theorem sc__law_take : FnScope ["_law_box_here", "_law_many_here", "_law_found", "_law_once", "_law_twice"] ["_law_box_here", "_law_many_here"] (defScope s__law_take) := ⟨rfl, rfl, rfl, by decide +kernel, rfl, by decide +kernel, by decide +kernel⟩
abbrev s__law_many : Stmt := top 11
theorem sc__law_many : FnScope ["_law_box_here", "_law_least", "_law_few", "_law_most"] ["_law_box_here", "_law_least", "_law_few", "_law_most"] (defScope s__law_many) := ⟨rfl, rfl, rfl, by decide +kernel, rfl, by decide +kernel, by decide +kernel⟩
abbrev s__law_names : Stmt := top 12
theorem sc__law_names : FnScope ["_law_box_here", "_law_many_here", "_law_some"] ["_law_box_here", "_law_many_here"] (defScope s__law_names) := ⟨rfl, rfl, rfl, by decide +kernel, rfl, by decide +kernel, by decide +kernel⟩
abbrev s__law_value : Stmt := top 13
theorem sc__law_value : FnScope ["_law_box_here", "_law_way"] ["_law_box_here"] (defScope s__law_value) := ⟨rfl, rfl, rfl, by decide +kernel, rfl, by decide +kernel, by decide +kernel⟩
abbrev s__law_number : Stmt := top 14
theorem sc__law_number : FnScope ["_law_box_here"] ["_law_box_here"] (defScope s__law_number) := ⟨rfl, rfl, rfl, by decide +kernel, rfl, by decide +kernel, by decide +kernel⟩
abbrev s__law_pool : Stmt := top 15
theorem sc__law_pool : FnScope ["_law_box_here", "_law_many_here", "_law_found", "_law_turn", "_law_value_here"] ["_law_box_here", "_law_many_here"] (defScope s__law_pool) := ⟨rfl, rfl, rfl, by decide +kernel, rfl, by decide +kernel, by decide +kernel⟩
abbrev s__law_tuples : Stmt := top 16
theorem sc__law_tuples : FnScope ["_law_box_here", "_law_wide_here", "_law_many_here", "_law_pool_here", "_law_found", "_law_turn", "_law_one"] ["_law_box_here", "_law_wide_here", "_law_many_here"] (defScope s__law_tuples) := ⟨rfl, rfl, rfl, by decide +kernel, rfl, by decide +kernel, by decide +kernel⟩
abbrev s__law_wide : Stmt := top 17
theorem sc__law_wide : FnScope ["_law_box_here", "_law_numbers", "_law_names_here", "_law_a", "_law_b", "_law_c", "_law_stem", "_law_over", "_law_values", "_law_heads", "_law_often", "_law_rows", "_law_part", "_law_cells", "_law_head", "_law_one"] ["_law_box_here", "_law_numbers"] (defScope s__law_wide) := ⟨rfl, rfl, rfl, by decide +kernel, rfl, by decide +kernel, by decide +kernel⟩
abbrev s__law_same : Stmt := top 18
theorem sc__law_same : FnScope ["_law_found", "_law_due_here"] ["_law_found", "_law_due_here"] (defScope s__law_same) := ⟨rfl, rfl, rfl, by decide +kernel, rfl, by decide +kernel, by decide +kernel⟩
abbrev s__law_holed : Stmt := top 19
theorem sc__law_holed : FnScope ["_law_box_here", "_law_wide_here", "_law_often", "_law_rows_out", "_law_heads_out", "_law_rows", "_law_k", "_law_part", "_law_cells", "_law_row", "_law_place", "_law_one"] ["_law_box_here", "_law_wide_here"] (defScope s__law_holed) := ⟨rfl, rfl, rfl, by decide +kernel, rfl, by decide +kernel, by decide +kernel⟩
abbrev s__law_due : Stmt := top 20
theorem sc__law_due : FnScope ["_law_wide_here", "_law_heads", "_law_place", "_law_rows", "_law_part", "_law_cells"] ["_law_wide_here"] (defScope s__law_due) := ⟨rfl, rfl, rfl, by decide +kernel, rfl, by decide +kernel, by decide +kernel⟩
abbrev s_law : Stmt := top 21
theorem sc_law : FnScope ["_law_script", "_law_k", "_law_box_here", "_law_wide_here", "_law_some", "_law_due_here", "_law_before", "_law_found"] ["_law_script"] (defScope s_law) := ⟨rfl, rfl, rfl, by decide +kernel, rfl, by decide +kernel, by decide +kernel⟩
def Def (P : Program) (w : World) (K : PySem.W.Frag) (mg : Str → Option Value) (base : Heap) (x : Str) (k : Nat) (ps : List Str) (sp : Sp) : Prop :=
  ∃ (f : Addr) (fd : FuncData), FnOk P w K mg base CX0 k f fd ps sp ∧ Binds K fd ps [] ∧ PySem.W.keepIn K (.ref f) = true ∧ mg x = some (.ref f)
def Bx (H : Hp) (b : Addr) (n : Nat) : Prop := ∃ x y z : Int, H b = some (.lst [.int x, .int y, .int z]) ∧ 0 ≤ x ∧ 0 ≤ y ∧ y < 2 ^ 62 ∧ 0 ≤ z ∧ z ≤ n
def SameX (b : Addr) (H H' : Hp) : Prop := ∀ a o, a ≠ b → H a = some o → H' a = some o
theorem seq_step {t u : TS} {D : Ends} {σ : St} {H : Hp} (h : ∀ k : St → Hp → Prop, (∀ σ H, u D σ H → k σ H) → t { D with nx := k } σ H) : tSeq t u D σ H := h (u D) fun _ _ x => x
theorem atI_0 {α : Type} (x : α) (r : List α) : atI (x :: r) 0 = some x := atI_nat (j := 0) rfl
theorem atI_1 {α : Type} (x y : α) (r : List α) : atI (x :: y :: r) 1 = some y := atI_nat (j := 1) rfl
theorem atI_2 {α : Type} (x y z : α) (r : List α) : atI (x :: y :: z :: r) 2 = some z := atI_nat (j := 2) rfl
theorem atI_3 {α : Type} (x y z u : α) (r : List α) : atI (x :: y :: z :: u :: r) 3 = some u := atI_nat (j := 3) rfl
theorem ixN_30 : ixN 3 0 = some 0 := rfl
theorem ixN_31 : ixN 3 1 = some 1 := rfl
theorem ixN_32 : ixN 3 2 = some 2 := rfl
theorem mod_lt {x m : Int} (h : 0 < m) : 0 ≤ x % m ∧ x % m < m := ⟨Int.emod_nonneg _ (by omega), Int.emod_lt_of_pos _ h⟩
theorem SameX.upd (b : Addr) (H : Hp) (o : HO) : SameX b H (upd H b o) := fun a u n h => by rw [upd_ne n]; exact h
theorem SameX.refl (b : Addr) (H : Hp) : SameX b H H := fun _ _ _ h => h
theorem SameX.trans {b : Addr} {H H1 H2 : Hp} (x : SameX b H H1) (y : SameX b H1 H2) : SameX b H H2 := fun a o n h => y a o n (x a o n h)
theorem Bx.mono {H : Hp} {b : Addr} {n m : Nat} (h : Bx H b n) (l : n ≤ m) : Bx H b m := by
  obtain ⟨x, y, z, h1, h2, h3, h4, h5, h6⟩ := h
  exact ⟨x, y, z, h1, h2, h3, h4, h5, by omega⟩
section
variable {P : Program} {w : World} {K : PySem.W.Frag} {mg : Str → Option Value} {base : Heap}
def spTake : Sp := fun vs H Q _ => ∃ (b : Addr) (m : Int) (n : Nat), vs = [.ref b, .int m] ∧ 0 < m ∧ m < 1000000 ∧ n < 2 ^ 40 ∧ Bx H b n ∧ ∀ (r : Int) (H' : Hp), 0 ≤ r → r < m → SameX b H H' → Bx H' b (n + 1) → Q (.int r) H'
theorem ok__law_take {f : Addr} {fd : FuncData} (F : Fun K "_law_take" "_law_take" s__law_take f fd) : FnOk P w K mg base CX0 1 f fd ["_law_box_here", "_law_many_here"] spTake := by
  refine F.ok sc__law_take (fun vs H Q E h => ?_) (fun cdv A outer s H vs Q E hr h => ?_)
  · obtain ⟨b, m, n, rfl, h0, h1, hn, ⟨x, y, z, hb, x0, y0, y1, z0, z1⟩, k⟩ := h
    rfl
  obtain ⟨b, m, n, rfl, h0, h1, hn, ⟨x, y, z, hb, x0, y0, y1, z0, z1⟩, k⟩ := h
  have hu := hr.units
  have hgd := hr.gd
  refine by_Q (qss_cons (qs_if (qt_op_gt (qe_ixF (qv 0) qe_int plain_int) qe_int) (qss_cons (qs_set (i := 2) sc__law_take.nd rfl (Or.inl rfl) (qe_op_mod (qe_ixF (qv 0) qe_int plain_int) (qv 1)))
      (qss_cons (qs_asg (qe_op_fdiv (qe_ixF (qv 0) qe_int plain_int) (qv 1)) (qg_sub (qv 0) qe_int set_list))
      (qss_one (qs_ret (qv 2))))) qss_nil)
      (qss_cons (qs_asg (qe_op_add (qe_ixF (qv 0) qe_int plain_int) qe_int) (qg_sub (qv 0) qe_int set_list))
      (qss_cons (qs_set (i := 3) sc__law_take.nd rfl (Or.inl rfl) (qe_op_mod (qe_op_mul (qe_op_add (qe_ixF (qv 0) qe_int plain_int) (qe_op_mul qe_int (qe_ixF (qv 0) qe_int plain_int))) (qe_op_add qe_int (qe_ixF (qv 0) qe_int plain_int))) qe_int))
      (qss_cons (qs_set (i := 4) sc__law_take.nd rfl (Or.inl rfl) (qe_op_mod (qe_op_mul (qe_op_add (qv 3) (qe_ixF (qv 0) qe_int plain_int)) (qe_op_add (qe_op_mod (qv 3) qe_int) qe_int)) qe_int))
      (qss_one (qs_ret (qe_op_mod (qe_op_fdiv (qe_op_mod (qe_op_add (qe_op_mul (qv 4) qe_int) (qv 3)) qe_int) qe_int) (qv 1)))))))) ?_
  refine seq_step fun k1 hk1 => ?_
  simp only [tSeq, tIfS, tTest, tB, tOp, tUn, tVar, tC, tAsg, gName, gSub, tRet, tRetN, tDrop, tNext, tNil, tCons, tCB, tCall, tTup, tLst, tNot, tAnd, tOr, tNotV, tAndV, tOrV, tIf, rIxF, rI0, rI, rU, rSetL, rCat, rRep, rEq, rNe, L2.start, List.map_cons, List.map_nil, List.cons_append, List.nil_append, List.append_nil, List.length_cons, List.length_nil, List.replicate, List.getElem?_cons_zero, List.getElem?_cons_succ, List.set_cons_zero, List.set_cons_succ, V.int.injEq, V.ref.injEq, V.bl.injEq, V.str.injEq, V.ty.injEq, Option.some.injEq, List.cons.injEq, reduceCtorEq, exists_eq_left', exists_eq_left, exists_eq_right, exists_eq_right', exists_and_left, false_and, and_false, true_and, and_true, exists_false, exists_const, or_false, false_or, scal, decide_eq_true_eq, upd_same, Nat.zero_add, Nat.reduceAdd, Nat.reduceSub, HO.lst.injEq, HO.tup.injEq, atI_0, atI_1, atI_2, atI_3, ixN_30, ixN_31, ixN_32, Int.reduceNeg, tK, tBM, rAppF, rr_isi, rr_isi2, rr_lenF, rr_abs, rr_int_i, rr_int_b, rr_any, rr_all, rr_sum, rr_strI, rr_strD, rr_tuple, rr_list, kv_non, kv_bl, kv_int, kv_str, sk_NoneType_int, sk_NoneType_str, sk_NoneType_bool, sk_NoneType_list, sk_NoneType_tuple, sk_bool_int, sk_bool_str, sk_bool_bool, sk_bool_list, sk_bool_tuple, sk_int_int, sk_int_str, sk_int_bool, sk_int_list, sk_int_tuple, sk_str_int, sk_str_str, sk_str_bool, sk_str_list, sk_str_tuple, sk_list_int, sk_list_str, sk_list_bool, sk_list_list, sk_list_tuple, sk_tuple_int, sk_tuple_str, sk_tuple_bool, sk_tuple_list, sk_tuple_tuple, decide_true, decide_false, Bool.false_eq_true, if_true, if_false, ite_true, ite_false, ne_eq, not_false_eq_true, not_true_eq_false, Bool.not_true, Bool.not_false, lw_seq, lw_rng, fw_seq, fw_rng, tYes, cst, Option.map_some, Option.map_none, Option.bind_some, Option.bind_none, Option.getD_some, Option.getD_none, Option.bind_eq_bind, Option.join_some, Option.join_none, tNever, List.getD_cons_zero, List.getD_cons_succ, List.getElem?_nil, tMM, rSetK, rLenSet, fw_zip, lw_zip, fw_enum, lw_enum, tPar, tPar3, tSl, tNoPart, tPart, rCat2, rSlL, exP2, ixF, lenF, hb]
  refine ite2 (fun c => ?_) (fun c => ?_)
  · refine ⟨h0, ⟨h0, by omega⟩, ?_⟩
    exact k _ _ (mod_lt h0).1 (mod_lt h0).2 (SameX.upd _ _ _) ⟨_, _, _, upd_same, Int.ediv_nonneg x0 (by omega), y0, y1, z0, by omega⟩
  refine hk1 _ _ ?_
  refine seq_step fun k2 hk2 => ?_
  simp only [tSeq, tIfS, tTest, tB, tOp, tUn, tVar, tC, tAsg, gName, gSub, tRet, tRetN, tDrop, tNext, tNil, tCons, tCB, tCall, tTup, tLst, tNot, tAnd, tOr, tNotV, tAndV, tOrV, tIf, rIxF, rI0, rI, rU, rSetL, rCat, rRep, rEq, rNe, L2.start, List.map_cons, List.map_nil, List.cons_append, List.nil_append, List.append_nil, List.length_cons, List.length_nil, List.replicate, List.getElem?_cons_zero, List.getElem?_cons_succ, List.set_cons_zero, List.set_cons_succ, V.int.injEq, V.ref.injEq, V.bl.injEq, V.str.injEq, V.ty.injEq, Option.some.injEq, List.cons.injEq, reduceCtorEq, exists_eq_left', exists_eq_left, exists_eq_right, exists_eq_right', exists_and_left, false_and, and_false, true_and, and_true, exists_false, exists_const, or_false, false_or, scal, decide_eq_true_eq, upd_same, Nat.zero_add, Nat.reduceAdd, Nat.reduceSub, HO.lst.injEq, HO.tup.injEq, atI_0, atI_1, atI_2, atI_3, ixN_30, ixN_31, ixN_32, Int.reduceNeg, tK, tBM, rAppF, rr_isi, rr_isi2, rr_lenF, rr_abs, rr_int_i, rr_int_b, rr_any, rr_all, rr_sum, rr_strI, rr_strD, rr_tuple, rr_list, kv_non, kv_bl, kv_int, kv_str, sk_NoneType_int, sk_NoneType_str, sk_NoneType_bool, sk_NoneType_list, sk_NoneType_tuple, sk_bool_int, sk_bool_str, sk_bool_bool, sk_bool_list, sk_bool_tuple, sk_int_int, sk_int_str, sk_int_bool, sk_int_list, sk_int_tuple, sk_str_int, sk_str_str, sk_str_bool, sk_str_list, sk_str_tuple, sk_list_int, sk_list_str, sk_list_bool, sk_list_list, sk_list_tuple, sk_tuple_int, sk_tuple_str, sk_tuple_bool, sk_tuple_list, sk_tuple_tuple, decide_true, decide_false, Bool.false_eq_true, if_true, if_false, ite_true, ite_false, ne_eq, not_false_eq_true, not_true_eq_false, Bool.not_true, Bool.not_false, lw_seq, lw_rng, fw_seq, fw_rng, tYes, cst, Option.map_some, Option.map_none, Option.bind_some, Option.bind_none, Option.getD_some, Option.getD_none, Option.bind_eq_bind, Option.join_some, Option.join_none, tNever, List.getD_cons_zero, List.getD_cons_succ, List.getElem?_nil, tMM, rSetK, rLenSet, fw_zip, lw_zip, fw_enum, lw_enum, tPar, tPar3, tSl, tNoPart, tPart, rCat2, rSlL, exP2, ixF, lenF, hb]
  refine hk2 _ _ ?_
  refine seq_step fun k3 hk3 => ?_
  simp only [tSeq, tIfS, tTest, tB, tOp, tUn, tVar, tC, tAsg, gName, gSub, tRet, tRetN, tDrop, tNext, tNil, tCons, tCB, tCall, tTup, tLst, tNot, tAnd, tOr, tNotV, tAndV, tOrV, tIf, rIxF, rI0, rI, rU, rSetL, rCat, rRep, rEq, rNe, L2.start, List.map_cons, List.map_nil, List.cons_append, List.nil_append, List.append_nil, List.length_cons, List.length_nil, List.replicate, List.getElem?_cons_zero, List.getElem?_cons_succ, List.set_cons_zero, List.set_cons_succ, V.int.injEq, V.ref.injEq, V.bl.injEq, V.str.injEq, V.ty.injEq, Option.some.injEq, List.cons.injEq, reduceCtorEq, exists_eq_left', exists_eq_left, exists_eq_right, exists_eq_right', exists_and_left, false_and, and_false, true_and, and_true, exists_false, exists_const, or_false, false_or, scal, decide_eq_true_eq, upd_same, Nat.zero_add, Nat.reduceAdd, Nat.reduceSub, HO.lst.injEq, HO.tup.injEq, atI_0, atI_1, atI_2, atI_3, ixN_30, ixN_31, ixN_32, Int.reduceNeg, tK, tBM, rAppF, rr_isi, rr_isi2, rr_lenF, rr_abs, rr_int_i, rr_int_b, rr_any, rr_all, rr_sum, rr_strI, rr_strD, rr_tuple, rr_list, kv_non, kv_bl, kv_int, kv_str, sk_NoneType_int, sk_NoneType_str, sk_NoneType_bool, sk_NoneType_list, sk_NoneType_tuple, sk_bool_int, sk_bool_str, sk_bool_bool, sk_bool_list, sk_bool_tuple, sk_int_int, sk_int_str, sk_int_bool, sk_int_list, sk_int_tuple, sk_str_int, sk_str_str, sk_str_bool, sk_str_list, sk_str_tuple, sk_list_int, sk_list_str, sk_list_bool, sk_list_list, sk_list_tuple, sk_tuple_int, sk_tuple_str, sk_tuple_bool, sk_tuple_list, sk_tuple_tuple, decide_true, decide_false, Bool.false_eq_true, if_true, if_false, ite_true, ite_false, ne_eq, not_false_eq_true, not_true_eq_false, Bool.not_true, Bool.not_false, lw_seq, lw_rng, fw_seq, fw_rng, tYes, cst, Option.map_some, Option.map_none, Option.bind_some, Option.bind_none, Option.getD_some, Option.getD_none, Option.bind_eq_bind, Option.join_some, Option.join_none, tNever, List.getD_cons_zero, List.getD_cons_succ, List.getElem?_nil, tMM, rSetK, rLenSet, fw_zip, lw_zip, fw_enum, lw_enum, tPar, tPar3, tSl, tNoPart, tPart, rCat2, rSlL, exP2, ixF, lenF, hb]
  refine ⟨.inl ⟨by omega, by omega⟩, .inr ⟨by omega, by omega⟩, by decide, ?_⟩
  refine hk3 _ _ ?_
  generalize e1 : (y + 48271 * (z + 1)) * (39373 + (z + 1)) % 2147483647 = once
  have g1 : 0 ≤ once ∧ once < 2147483647 := by rw [← e1]; exact mod_lt (by decide)
  refine seq_step fun k4 hk4 => ?_
  simp only [tSeq, tIfS, tTest, tB, tOp, tUn, tVar, tC, tAsg, gName, gSub, tRet, tRetN, tDrop, tNext, tNil, tCons, tCB, tCall, tTup, tLst, tNot, tAnd, tOr, tNotV, tAndV, tOrV, tIf, rIxF, rI0, rI, rU, rSetL, rCat, rRep, rEq, rNe, L2.start, List.map_cons, List.map_nil, List.cons_append, List.nil_append, List.append_nil, List.length_cons, List.length_nil, List.replicate, List.getElem?_cons_zero, List.getElem?_cons_succ, List.set_cons_zero, List.set_cons_succ, V.int.injEq, V.ref.injEq, V.bl.injEq, V.str.injEq, V.ty.injEq, Option.some.injEq, List.cons.injEq, reduceCtorEq, exists_eq_left', exists_eq_left, exists_eq_right, exists_eq_right', exists_and_left, false_and, and_false, true_and, and_true, exists_false, exists_const, or_false, false_or, scal, decide_eq_true_eq, upd_same, Nat.zero_add, Nat.reduceAdd, Nat.reduceSub, HO.lst.injEq, HO.tup.injEq, atI_0, atI_1, atI_2, atI_3, ixN_30, ixN_31, ixN_32, Int.reduceNeg, tK, tBM, rAppF, rr_isi, rr_isi2, rr_lenF, rr_abs, rr_int_i, rr_int_b, rr_any, rr_all, rr_sum, rr_strI, rr_strD, rr_tuple, rr_list, kv_non, kv_bl, kv_int, kv_str, sk_NoneType_int, sk_NoneType_str, sk_NoneType_bool, sk_NoneType_list, sk_NoneType_tuple, sk_bool_int, sk_bool_str, sk_bool_bool, sk_bool_list, sk_bool_tuple, sk_int_int, sk_int_str, sk_int_bool, sk_int_list, sk_int_tuple, sk_str_int, sk_str_str, sk_str_bool, sk_str_list, sk_str_tuple, sk_list_int, sk_list_str, sk_list_bool, sk_list_list, sk_list_tuple, sk_tuple_int, sk_tuple_str, sk_tuple_bool, sk_tuple_list, sk_tuple_tuple, decide_true, decide_false, Bool.false_eq_true, if_true, if_false, ite_true, ite_false, ne_eq, not_false_eq_true, not_true_eq_false, Bool.not_true, Bool.not_false, lw_seq, lw_rng, fw_seq, fw_rng, tYes, cst, Option.map_some, Option.map_none, Option.bind_some, Option.bind_none, Option.getD_some, Option.getD_none, Option.bind_eq_bind, Option.join_some, Option.join_none, tNever, List.getD_cons_zero, List.getD_cons_succ, List.getElem?_nil, tMM, rSetK, rLenSet, fw_zip, lw_zip, fw_enum, lw_enum, tPar, tPar3, tSl, tNoPart, tPart, rCat2, rSlL, exP2, ixF, lenF, hb]
  have g2 : 0 ≤ once % 40009 ∧ once % 40009 < 40009 := mod_lt (by decide)
  refine ⟨by decide, .inl ⟨by omega, by omega⟩, by decide, ?_⟩
  refine hk4 _ _ ?_
  generalize e2 : (once + (z + 1)) * (once % 40009 + 7) % 2147483629 = twice
  have g3 : 0 ≤ twice ∧ twice < 2147483629 := by rw [← e2]; exact mod_lt (by decide)
  simp only [tSeq, tIfS, tTest, tB, tOp, tUn, tVar, tC, tAsg, gName, gSub, tRet, tRetN, tDrop, tNext, tNil, tCons, tCB, tCall, tTup, tLst, tNot, tAnd, tOr, tNotV, tAndV, tOrV, tIf, rIxF, rI0, rI, rU, rSetL, rCat, rRep, rEq, rNe, L2.start, List.map_cons, List.map_nil, List.cons_append, List.nil_append, List.append_nil, List.length_cons, List.length_nil, List.replicate, List.getElem?_cons_zero, List.getElem?_cons_succ, List.set_cons_zero, List.set_cons_succ, V.int.injEq, V.ref.injEq, V.bl.injEq, V.str.injEq, V.ty.injEq, Option.some.injEq, List.cons.injEq, reduceCtorEq, exists_eq_left', exists_eq_left, exists_eq_right, exists_eq_right', exists_and_left, false_and, and_false, true_and, and_true, exists_false, exists_const, or_false, false_or, scal, decide_eq_true_eq, upd_same, Nat.zero_add, Nat.reduceAdd, Nat.reduceSub, HO.lst.injEq, HO.tup.injEq, atI_0, atI_1, atI_2, atI_3, ixN_30, ixN_31, ixN_32, Int.reduceNeg, tK, tBM, rAppF, rr_isi, rr_isi2, rr_lenF, rr_abs, rr_int_i, rr_int_b, rr_any, rr_all, rr_sum, rr_strI, rr_strD, rr_tuple, rr_list, kv_non, kv_bl, kv_int, kv_str, sk_NoneType_int, sk_NoneType_str, sk_NoneType_bool, sk_NoneType_list, sk_NoneType_tuple, sk_bool_int, sk_bool_str, sk_bool_bool, sk_bool_list, sk_bool_tuple, sk_int_int, sk_int_str, sk_int_bool, sk_int_list, sk_int_tuple, sk_str_int, sk_str_str, sk_str_bool, sk_str_list, sk_str_tuple, sk_list_int, sk_list_str, sk_list_bool, sk_list_list, sk_list_tuple, sk_tuple_int, sk_tuple_str, sk_tuple_bool, sk_tuple_list, sk_tuple_tuple, decide_true, decide_false, Bool.false_eq_true, if_true, if_false, ite_true, ite_false, ne_eq, not_false_eq_true, not_true_eq_false, Bool.not_true, Bool.not_false, lw_seq, lw_rng, fw_seq, fw_rng, tYes, cst, Option.map_some, Option.map_none, Option.bind_some, Option.bind_none, Option.getD_some, Option.getD_none, Option.bind_eq_bind, Option.join_some, Option.join_none, tNever, List.getD_cons_zero, List.getD_cons_succ, List.getElem?_nil, tMM, rSetK, rLenSet, fw_zip, lw_zip, fw_enum, lw_enum, tPar, tPar3, tSl, tNoPart, tPart, rCat2, rSlL, exP2, ixF, lenF, hb]
  refine ⟨.inl ⟨by omega, by omega⟩, by decide, ⟨by decide, by decide⟩, h0, ?_⟩
  exact k _ _ (mod_lt h0).1 (mod_lt h0).2 (SameX.upd _ _ _) ⟨_, _, _, upd_same, x0, y0, y1, by omega, by omega⟩
end
end K
namespace K
open PySem L2
local macro_rules | `(tactic| walk_at "rd") => `(tactic| simp only [tSeq, tIfS, tTest, tB, tOp, tUn, tVar, tC, tAsg, gName, gSub, tRet, tRetN, tDrop, tNext, tNil, tCons, tCB, tCall, tTup, tLst, tNot, tAnd, tOr, tNotV, tAndV, tOrV, tIf, rIxF, rI0, rI, rU, rSetL, rCat, rRep, rEq, rNe, L2.start, List.map_cons, List.map_nil, List.cons_append, List.nil_append, List.append_nil, List.length_cons, List.length_nil, List.replicate, List.getElem?_cons_zero, List.getElem?_cons_succ, List.set_cons_zero, List.set_cons_succ, V.int.injEq, V.ref.injEq, V.bl.injEq, V.str.injEq, V.ty.injEq, Option.some.injEq, List.cons.injEq, reduceCtorEq, exists_eq_left', exists_eq_left, exists_eq_right, exists_eq_right', exists_and_left, false_and, and_false, true_and, and_true, exists_false, exists_const, or_false, false_or, scal, decide_eq_true_eq, upd_same, Nat.zero_add, Nat.reduceAdd, Nat.reduceSub, HO.lst.injEq, HO.tup.injEq, atI_0, atI_1, atI_2, atI_3, ixN_30, ixN_31, ixN_32, Int.reduceNeg, tK, tBM, rAppF, rr_isi, rr_isi2, rr_lenF, rr_abs, rr_int_i, rr_int_b, rr_any, rr_all, rr_sum, rr_strI, rr_strD, rr_tuple, rr_list, kv_non, kv_bl, kv_int, kv_str, sk_NoneType_int, sk_NoneType_str, sk_NoneType_bool, sk_NoneType_list, sk_NoneType_tuple, sk_bool_int, sk_bool_str, sk_bool_bool, sk_bool_list, sk_bool_tuple, sk_int_int, sk_int_str, sk_int_bool, sk_int_list, sk_int_tuple, sk_str_int, sk_str_str, sk_str_bool, sk_str_list, sk_str_tuple, sk_list_int, sk_list_str, sk_list_bool, sk_list_list, sk_list_tuple, sk_tuple_int, sk_tuple_str, sk_tuple_bool, sk_tuple_list, sk_tuple_tuple, decide_true, decide_false, Bool.false_eq_true, if_true, if_false, ite_true, ite_false, ne_eq, not_false_eq_true, not_true_eq_false, Bool.not_true, Bool.not_false, lw_seq, lw_rng, fw_seq, fw_rng, tYes, cst, Option.map_some, Option.map_none, Option.bind_some, Option.bind_none, Option.getD_some, Option.getD_none, Option.bind_eq_bind, Option.join_some, Option.join_none, tNever, List.getD_cons_zero, List.getD_cons_succ, List.getElem?_nil, tMM, rSetK, rLenSet, fw_zip, lw_zip, fw_enum, lw_enum, tPar, tPar3, tSl, tNoPart, tPart, rCat2, rSlL, exP2])
local macro_rules | `(tactic| wp_walk using $ts,*) => `(tactic| simp only [tSeq, tIfS, tTest, tB, tOp, tUn, tVar, tC, tAsg, gName, gSub, tRet, tRetN, tDrop, tNext, tNil, tCons, tCB, tCall, tTup, tLst, tNot, tAnd, tOr, tNotV, tAndV, tOrV, tIf, rIxF, rI0, rI, rU, rSetL, rCat, rRep, rEq, rNe, L2.start, List.map_cons, List.map_nil, List.cons_append, List.nil_append, List.append_nil, List.length_cons, List.length_nil, List.replicate, List.getElem?_cons_zero, List.getElem?_cons_succ, List.set_cons_zero, List.set_cons_succ, V.int.injEq, V.ref.injEq, V.bl.injEq, V.str.injEq, V.ty.injEq, Option.some.injEq, List.cons.injEq, reduceCtorEq, exists_eq_left', exists_eq_left, exists_eq_right, exists_eq_right', exists_and_left, false_and, and_false, true_and, and_true, exists_false, exists_const, or_false, false_or, scal, decide_eq_true_eq, upd_same, Nat.zero_add, Nat.reduceAdd, Nat.reduceSub, HO.lst.injEq, HO.tup.injEq, atI_0, atI_1, atI_2, atI_3, ixN_30, ixN_31, ixN_32, Int.reduceNeg, tK, tBM, rAppF, rr_isi, rr_isi2, rr_lenF, rr_abs, rr_int_i, rr_int_b, rr_any, rr_all, rr_sum, rr_strI, rr_strD, rr_tuple, rr_list, kv_non, kv_bl, kv_int, kv_str, sk_NoneType_int, sk_NoneType_str, sk_NoneType_bool, sk_NoneType_list, sk_NoneType_tuple, sk_bool_int, sk_bool_str, sk_bool_bool, sk_bool_list, sk_bool_tuple, sk_int_int, sk_int_str, sk_int_bool, sk_int_list, sk_int_tuple, sk_str_int, sk_str_str, sk_str_bool, sk_str_list, sk_str_tuple, sk_list_int, sk_list_str, sk_list_bool, sk_list_list, sk_list_tuple, sk_tuple_int, sk_tuple_str, sk_tuple_bool, sk_tuple_list, sk_tuple_tuple, decide_true, decide_false, Bool.false_eq_true, if_true, if_false, ite_true, ite_false, ne_eq, not_false_eq_true, not_true_eq_false, Bool.not_true, Bool.not_false, lw_seq, lw_rng, fw_seq, fw_rng, tYes, cst, Option.map_some, Option.map_none, Option.bind_some, Option.bind_none, Option.getD_some, Option.getD_none, Option.bind_eq_bind, Option.join_some, Option.join_none, tNever, List.getD_cons_zero, List.getD_cons_succ, List.getElem?_nil, tMM, rSetK, rLenSet, fw_zip, lw_zip, fw_enum, lw_enum, tPar, tPar3, tSl, tNoPart, tPart, rCat2, rSlL, exP2, $[$ts:term],*])
section
variable {P : Program} {w : World} {K : PySem.W.Frag} {mg : Str → Option Value} {base : Heap}
def spCell (K : PySem.W.Frag) : Sp := fun vs H Q _ => ∃ (a : Addr) (k : Nat) (ns : List Int), vs = [.ref a, .int (k : Int)] ∧ SqL K H a (ns.map V.int) ∧ ns.length ≤ 63 ∧ ∀ i : Int, Q (.int i) H
theorem ok__law_cell_at {f : Addr} {fd : FuncData} (F : Fun K "_law_cell_at" "_law_cell_at" s__law_cell_at f fd) (z_len : mg "len" = none) : FnOk P w K mg base CX0 1 f fd ["_law_script", "_law_k"] (spCell K) := by
  refine F.ok sc__law_cell_at (fun vs H Q E h => ?_) (fun cdv A outer s H vs Q E hr h => ?_)
  · obtain ⟨a, k, ns, rfl, hS, hl, q⟩ := h
    rfl
  obtain ⟨a, k, ns, rfl, hS, hl, q⟩ := h
  have hu := hr.units
  have hgd := hr.gd
  refine by_Q (qss_cons (qs_if (qt_op_lt (qv 1) (qe_call_len (Kq := K) rfl rfl z_len (qa_c (qv 0) qa_nil))) (qss_one (qs_ret (qe_ix ix_seq (qv 0) (qv 1) plain_name))) qss_nil)
      (qss_one (qs_ret qe_int))) ?_
  refine seq_step fun k1 hk1 => ?_
  wp_walk using ixF, lenF
  refine ⟨V.ref a, ns.length, rfl, .inl ⟨_, hS, by simp⟩, ?_⟩
  wp_walk using ixF, lenF
  refine ite2 (fun c => ?_) (fun c => ?_)
  · have hk : k < ns.length := by omega
    exact .inl ⟨a, _, (k : Int), .int ns[k], rfl, rfl, hS, atI_nat (by simp [hk]), q _⟩
  · refine hk1 _ _ ?_
    exact q 0
def spBox (K : PySem.W.Frag) : Sp := fun vs H Q _ => ∃ (a : Addr) (k : Nat) (ns : List Int), vs = [.ref a, .int (k : Int)] ∧ SqL K H a (ns.map V.int) ∧ ns.length ≤ 63 ∧ k ≤ 63 ∧ ∀ (b : Addr) (H' : Hp), H b = none → Same H H' → Bx H' b 0 → Q (.ref b) H'
theorem same_new' {H : Hp} {p : Addr} (h : H p = none) (o : HO) : Same H (upd H p o) := fun b u e => by rw [upd_ne (ne_of_none e h)]; exact e
theorem ok__law_box {f : Addr} {fd : FuncData} (F : Fun K "_law_box" "_law_box" s__law_box f fd) (D__law_cell_at : Def P w K mg base "_law_cell_at" 1 ["_law_script", "_law_k"] (spCell K)) (z_abs : mg "abs" = none) (z_int : mg "int" = none) : FnOk P w K mg base CX0 2 f fd ["_law_script", "_law_k"] (spBox K) := by
  obtain ⟨f__law_cell_at, fd__law_cell_at, G__law_cell_at, b__law_cell_at, kp__law_cell_at, m__law_cell_at⟩ := D__law_cell_at
  refine F.ok sc__law_box (fun vs H Q E h => ?_) (fun cdv A outer s H vs Q E hr h => ?_)
  · obtain ⟨a, k, ns, rfl, hS, hl, hk, q⟩ := h
    rfl
  obtain ⟨a, k, ns, rfl, hS, hl, hk, q⟩ := h
  have hu := hr.units
  have hgd := hr.gd
  refine by_Q (qss_cons (qs_set (i := 2) sc__law_box.nd rfl (Or.inl rfl) (qe_callU G__law_cell_at (hr.mono (by omega)) rfl m__law_cell_at kp__law_cell_at b__law_cell_at .nil pass0 (qa_c (qv 0) (qa_c (qv 1) qa_nil))))
      (qss_one (qs_ret (qe_lst (qa_c (qe_op_mul (qe_call_abs (Kq := K) rfl rfl z_abs (qa_c (qv 2) qa_nil)) (qe_call_int1 (Kq := K) rfl rfl z_int (qa_c (qe_op_ge (qe_call_abs (Kq := K) rfl rfl z_abs (qa_c (qv 2) qa_nil)) (qe_op_pow qe_int qe_int)) qa_nil))) (qa_c (qe_op_add (qe_op_add (qe_op_mod (qv 2) qe_int) (qe_op_mul qe_int (qv 1))) qe_int) (qa_c qe_int qa_nil))))))) ?_
  refine seq_step fun k1 hk1 => ?_
  wp_walk using ixF, lenF
  refine ⟨a, k, ns, rfl, hS, hl, fun i => ?_⟩
  refine hk1 _ _ ?_
  wp_walk using ixF, lenF
  refine ⟨by refine ⟨?_, ?_, ?_⟩ <;> decide, ?_⟩
  have habs : (0 : Int) ≤ (if i < 0 then -i else i) := by split <;> omega
  generalize (if i < 0 then -i else i) = ab at habs
  have hone : ∀ c : Prop, ∀ [Decidable c], ((if c then (1 : Int) else 0) = 1 ∨ (if c then (1 : Int) else 0) = 0) := fun c _ => by split <;> simp
  have h1 := hone ((10 : Int) ^ Int.toNat 18 ≤ ab)
  generalize (if (10 : Int) ^ Int.toNat 18 ≤ ab then (1 : Int) else 0) = on at h1
  have hm := mod_lt (x := i) (m := 2305843009213693951) (by decide)
  refine ⟨.inr ⟨by omega, by omega⟩, by decide, .inl ⟨by decide, by decide⟩, by decide, fun p hp => ?_⟩
  refine q p _ hp (same_new' hp _) ⟨_, _, 0, upd_same, ?_, by omega, by omega, by omega, by omega⟩
  rcases h1 with h1 | h1 <;> rw [h1] <;> omega
def spMany : Sp := fun vs H Q _ => ∃ (b : Addr) (l f m : Int) (n : Nat), vs = [.ref b, .int l, .int f, .int m] ∧ 0 ≤ l ∧ l ≤ 7 ∧ l ≤ f ∧ f ≤ m ∧ 7 ≤ m ∧ m < 1000 ∧ n < 2 ^ 39 ∧ Bx H b n ∧ ∀ (r : Int) (H' : Hp), l ≤ r → r ≤ m → SameX b H H' → Bx H' b (n + 2) → Q (.int r) H'
theorem ok__law_many {f : Addr} {fd : FuncData} (F : Fun K "_law_many" "_law_many" s__law_many f fd) (D__law_take : Def P w K mg base "_law_take" 1 ["_law_box_here", "_law_many_here"] spTake) : FnOk P w K mg base CX0 2 f fd ["_law_box_here", "_law_least", "_law_few", "_law_most"] spMany := by
  obtain ⟨f__law_take, fd__law_take, G__law_take, b__law_take, kp__law_take, m__law_take⟩ := D__law_take
  refine F.ok sc__law_many (fun vs H Q E h => ?_) (fun cdv A outer s H vs Q E hr h => ?_)
  · obtain ⟨b, l, f, m, n, rfl, h0, h1, h2, h3, h4, h5, hn, hB, q⟩ := h
    rfl
  obtain ⟨b, l, f, m, n, rfl, h0, h1, h2, h3, h4, h5, hn, hB, q⟩ := h
  have hu := hr.units
  have hgd := hr.gd
  refine by_Q (qss_cons (qs_if (qt_op_eq (qe_callU G__law_take (hr.mono (by omega)) rfl m__law_take kp__law_take b__law_take .nil pass0 (qa_c (qv 0) (qa_c qe_int qa_nil))) qe_int) (qss_one (qs_ret (qe_op_add qe_int (qe_callU G__law_take (hr.mono (by omega)) rfl m__law_take kp__law_take b__law_take .nil pass0 (qa_c (qv 0) (qa_c (qe_op_sub (qv 3) qe_int) qa_nil)))))) qss_nil)
      (qss_one (qs_ret (qe_op_add (qv 1) (qe_callU G__law_take (hr.mono (by omega)) rfl m__law_take kp__law_take b__law_take .nil pass0 (qa_c (qv 0) (qa_c (qe_op_add (qe_op_sub (qv 2) (qv 1)) qe_int) qa_nil))))))) ?_
  refine seq_step fun k1 hk1 => ?_
  wp_walk using ixF, lenF
  refine ⟨b, 8, n, rfl, by decide, by decide, by omega, hB, fun r H1 r0 r1 S1 B1 => ?_⟩
  wp_walk using ixF, lenF
  refine ite2 (fun c => ?_) (fun c => ?_)
  · refine ⟨b, _, n + 1, rfl, by omega, by omega, by omega, B1, fun r2 H2 r3 r4 S2 B2 => ?_⟩
    wp_walk using ixF, lenF
    exact q _ _ (by omega) (by omega) (S1.trans S2) B2
  · refine hk1 _ _ ?_
    wp_walk using ixF, lenF
    refine ⟨b, _, n + 1, rfl, by omega, by omega, by omega, B1, fun r2 H2 r3 r4 S2 B2 => ?_⟩
    wp_walk using ixF, lenF
    exact q _ _ (by omega) (by omega) (S1.trans S2) B2
def spNumber : Sp := fun vs H Q _ => ∃ (b : Addr) (n : Nat), vs = [.ref b] ∧ n < 2 ^ 39 ∧ Bx H b n ∧ ∀ (r : Int) (H' : Hp), -1000000000000 ≤ r → r ≤ 1000000000000 → SameX b H H' → Bx H' b (n + 2) → Q (.int r) H'
theorem SameX.same {b : Addr} {H H' : Hp} (S : Same H H') : SameX b H H' := fun a o _ h => S a o h
theorem Bx.same {b : Addr} {n : Nat} {H H' : Hp} (B : Bx H b n) (S : Same H H') : Bx H' b n := by
  obtain ⟨x, y, z, h1, r⟩ := B
  exact ⟨x, y, z, S _ _ h1, r⟩
theorem ix_draw {H : Hp} {p : Addr} {xs : List V} {r : Int} {Pv : V → Prop} (h : H p = some (.lst xs)) (r0 : 0 ≤ r) (r1 : r < (xs.length : Int)) (hP : ∀ v ∈ xs, Pv v) : ∃ v, ixF H (.ref p) (.int r) = some v ∧ Pv v := by
  have hr : r.toNat < xs.length := by omega
  refine ⟨xs[r.toNat], ?_, hP _ (List.getElem_mem hr)⟩
  simp only [ixF, h]
  have e : ((r.toNat : Nat) : Int) = r := by omega
  have q := atI_nat (xs := xs) (j := r.toNat) (v := xs[r.toNat]) (by simp [hr])
  rw [e] at q
  exact q
theorem Bx.ne {H : Hp} {b p : Addr} {n : Nat} (B : Bx H b n) (h : H p = none) : p ≠ b := by
  obtain ⟨x, y, z, h1, _⟩ := B
  exact Ne.symm (ne_of_none h1 h)
theorem ok__law_number {f : Addr} {fd : FuncData} (F : Fun K "_law_number" "_law_number" s__law_number f fd) (D__law_take : Def P w K mg base "_law_take" 1 ["_law_box_here", "_law_many_here"] spTake) : FnOk P w K mg base CX0 2 f fd ["_law_box_here"] spNumber := by
  obtain ⟨f__law_take, fd__law_take, G__law_take, b__law_take, kp__law_take, m__law_take⟩ := D__law_take
  refine F.ok sc__law_number (fun vs H Q E h => ?_) (fun cdv A outer s H vs Q E hr h => ?_)
  · obtain ⟨b, n, rfl, hn, hB, q⟩ := h
    rfl
  obtain ⟨b, n, rfl, hn, hB, q⟩ := h
  have hu := hr.units
  have hgd := hr.gd
  refine by_Q (qss_cons (qs_if (qt_op_eq (qe_callU G__law_take (hr.mono (by omega)) rfl m__law_take kp__law_take b__law_take .nil pass0 (qa_c (qv 0) (qa_c qe_int qa_nil))) qe_int) (qss_one (qs_ret (qe_ixF (qe_lst (qa_c (qe_op_sub (qe_op_pow qe_int qe_int) qe_int) (qa_c (qe_op_sub qe_int (qe_op_pow qe_int qe_int)) (qa_c (qe_op_pow qe_int qe_int) (qa_c qe_int qa_nil))))) (qe_callU G__law_take (hr.mono (by omega)) rfl m__law_take kp__law_take b__law_take .nil pass0 (qa_c (qv 0) (qa_c qe_int qa_nil))) plain_call))) qss_nil)
      (qss_one (qs_ret (qe_op_sub (qe_callU G__law_take (hr.mono (by omega)) rfl m__law_take kp__law_take b__law_take .nil pass0 (qa_c (qv 0) (qa_c qe_int qa_nil))) qe_int)))) ?_
  refine seq_step fun k1 hk1 => ?_
  wp_walk using ixF, lenF
  refine ⟨b, 9, n, rfl, by decide, by decide, by omega, hB, fun r H1 r0 r1 S1 B1 => ?_⟩
  wp_walk using ixF, lenF
  refine ite2 (fun c => ?_) (fun c => ?_)
  · refine ⟨⟨by decide, by decide, by decide⟩, ⟨by decide, by decide, by decide⟩, ⟨by decide, by decide, by decide⟩, by decide, fun p hp => ?_⟩
    refine ⟨b, 4, n + 1, rfl, by decide, by decide, by omega, B1.same (same_new' hp _), fun r2 H2 r3 r4 S2 B2 => ?_⟩
    obtain ⟨v, e, i, rfl, i0, i1⟩ := ix_draw (Pv := fun v => ∃ i : Int, v = .int i ∧ -1000000000000 ≤ i ∧ i ≤ 1000000000000) (S2 p _ (B1.ne hp) upd_same) r3 r4 (by
      intro v hv
      simp only [List.mem_cons, List.not_mem_nil, or_false] at hv
      rcases hv with rfl | rfl | rfl | rfl <;> exact ⟨_, rfl, by decide, by decide⟩)
    exact ⟨_, e, q _ _ i0 i1 (S1.trans ((SameX.same (same_new' hp _)).trans S2)) B2⟩
  · refine hk1 _ _ ?_
    wp_walk using ixF, lenF
    refine ⟨b, _, n + 1, rfl, by omega, by omega, by omega, B1, fun r2 H2 r3 r4 S2 B2 => ?_⟩
    wp_walk using ixF, lenF
    exact q _ _ (by omega) (by omega) (S1.trans S2) B2
end
end K
namespace K
open PySem L2
local macro_rules | `(tactic| walk_at "rd") => `(tactic| simp only [tSeq, tIfS, tTest, tB, tOp, tUn, tVar, tC, tAsg, gName, gSub, tRet, tRetN, tDrop, tNext, tNil, tCons, tCB, tCall, tTup, tLst, tNot, tAnd, tOr, tNotV, tAndV, tOrV, tIf, rIxF, rI0, rI, rU, rSetL, rCat, rRep, rEq, rNe, L2.start, List.map_cons, List.map_nil, List.cons_append, List.nil_append, List.append_nil, List.length_cons, List.length_nil, List.replicate, List.getElem?_cons_zero, List.getElem?_cons_succ, List.set_cons_zero, List.set_cons_succ, V.int.injEq, V.ref.injEq, V.bl.injEq, V.str.injEq, V.ty.injEq, Option.some.injEq, List.cons.injEq, reduceCtorEq, exists_eq_left', exists_eq_left, exists_eq_right, exists_eq_right', exists_and_left, false_and, and_false, true_and, and_true, exists_false, exists_const, or_false, false_or, scal, decide_eq_true_eq, upd_same, Nat.zero_add, Nat.reduceAdd, Nat.reduceSub, HO.lst.injEq, HO.tup.injEq, atI_0, atI_1, atI_2, atI_3, ixN_30, ixN_31, ixN_32, Int.reduceNeg, tK, tBM, rAppF, rr_isi, rr_isi2, rr_lenF, rr_abs, rr_int_i, rr_int_b, rr_any, rr_all, rr_sum, rr_strI, rr_strD, rr_tuple, rr_list, kv_non, kv_bl, kv_int, kv_str, sk_NoneType_int, sk_NoneType_str, sk_NoneType_bool, sk_NoneType_list, sk_NoneType_tuple, sk_bool_int, sk_bool_str, sk_bool_bool, sk_bool_list, sk_bool_tuple, sk_int_int, sk_int_str, sk_int_bool, sk_int_list, sk_int_tuple, sk_str_int, sk_str_str, sk_str_bool, sk_str_list, sk_str_tuple, sk_list_int, sk_list_str, sk_list_bool, sk_list_list, sk_list_tuple, sk_tuple_int, sk_tuple_str, sk_tuple_bool, sk_tuple_list, sk_tuple_tuple, decide_true, decide_false, Bool.false_eq_true, if_true, if_false, ite_true, ite_false, ne_eq, not_false_eq_true, not_true_eq_false, Bool.not_true, Bool.not_false, lw_seq, lw_rng, fw_seq, fw_rng, tYes, cst, Option.map_some, Option.map_none, Option.bind_some, Option.bind_none, Option.getD_some, Option.getD_none, Option.bind_eq_bind, Option.join_some, Option.join_none, tNever, List.getD_cons_zero, List.getD_cons_succ, List.getElem?_nil, tMM, rSetK, rLenSet, fw_zip, lw_zip, fw_enum, lw_enum, tPar, tPar3, tSl, tNoPart, tPart, rCat2, rSlL, exP2])
local macro_rules | `(tactic| wp_walk using $ts,*) => `(tactic| simp only [tSeq, tIfS, tTest, tB, tOp, tUn, tVar, tC, tAsg, gName, gSub, tRet, tRetN, tDrop, tNext, tNil, tCons, tCB, tCall, tTup, tLst, tNot, tAnd, tOr, tNotV, tAndV, tOrV, tIf, rIxF, rI0, rI, rU, rSetL, rCat, rRep, rEq, rNe, L2.start, List.map_cons, List.map_nil, List.cons_append, List.nil_append, List.append_nil, List.length_cons, List.length_nil, List.replicate, List.getElem?_cons_zero, List.getElem?_cons_succ, List.set_cons_zero, List.set_cons_succ, V.int.injEq, V.ref.injEq, V.bl.injEq, V.str.injEq, V.ty.injEq, Option.some.injEq, List.cons.injEq, reduceCtorEq, exists_eq_left', exists_eq_left, exists_eq_right, exists_eq_right', exists_and_left, false_and, and_false, true_and, and_true, exists_false, exists_const, or_false, false_or, scal, decide_eq_true_eq, upd_same, Nat.zero_add, Nat.reduceAdd, Nat.reduceSub, HO.lst.injEq, HO.tup.injEq, atI_0, atI_1, atI_2, atI_3, ixN_30, ixN_31, ixN_32, Int.reduceNeg, tK, tBM, rAppF, rr_isi, rr_isi2, rr_lenF, rr_abs, rr_int_i, rr_int_b, rr_any, rr_all, rr_sum, rr_strI, rr_strD, rr_tuple, rr_list, kv_non, kv_bl, kv_int, kv_str, sk_NoneType_int, sk_NoneType_str, sk_NoneType_bool, sk_NoneType_list, sk_NoneType_tuple, sk_bool_int, sk_bool_str, sk_bool_bool, sk_bool_list, sk_bool_tuple, sk_int_int, sk_int_str, sk_int_bool, sk_int_list, sk_int_tuple, sk_str_int, sk_str_str, sk_str_bool, sk_str_list, sk_str_tuple, sk_list_int, sk_list_str, sk_list_bool, sk_list_list, sk_list_tuple, sk_tuple_int, sk_tuple_str, sk_tuple_bool, sk_tuple_list, sk_tuple_tuple, decide_true, decide_false, Bool.false_eq_true, if_true, if_false, ite_true, ite_false, ne_eq, not_false_eq_true, not_true_eq_false, Bool.not_true, Bool.not_false, lw_seq, lw_rng, fw_seq, fw_rng, tYes, cst, Option.map_some, Option.map_none, Option.bind_some, Option.bind_none, Option.getD_some, Option.getD_none, Option.bind_eq_bind, Option.join_some, Option.join_none, tNever, List.getD_cons_zero, List.getD_cons_succ, List.getElem?_nil, tMM, rSetK, rLenSet, fw_zip, lw_zip, fw_enum, lw_enum, tPar, tPar3, tSl, tNoPart, tPart, rCat2, rSlL, exP2, $[$ts:term],*])
section
variable {P : Program} {w : World} {K : PySem.W.Frag} {mg : Str → Option Value} {base : Heap}
def spValue : Sp := fun vs H Q _ => ∃ (b : Addr) (n : Nat), vs = [.ref b] ∧ n < 2 ^ 39 ∧ Bx H b n ∧ ∀ (v : V) (H' : Hp), FV v → SameX b H H' → Bx H' b (n + 2) → Q v H'
theorem fv_int {i : Int} (h : -1000000000000 ≤ i ∧ i ≤ 1000000000000) : FV (.int i) := .inr (.inl ⟨i, rfl, h⟩)
theorem fv_str {x : Str} (h : (decide (x.length ≤ 40) && PyData.strOk x) = true) : FV (.str x) := by
  obtain ⟨h1, h2⟩ := Bool.and_eq_true_iff.mp h
  exact .inr (.inr ⟨x, rfl, of_decide_eq_true h1, h2⟩)
theorem ok__law_value {f : Addr} {fd : FuncData} (F : Fun K "_law_value" "_law_value" s__law_value f fd) (D__law_take : Def P w K mg base "_law_take" 1 ["_law_box_here", "_law_many_here"] spTake) : FnOk P w K mg base CX0 2 f fd ["_law_box_here"] spValue := by
  obtain ⟨f__law_take, fd__law_take, G__law_take, b__law_take, kp__law_take, m__law_take⟩ := D__law_take
  refine F.ok sc__law_value (fun vs H Q E h => ?_) (fun cdv A outer s H vs Q E hr h => ?_)
  · obtain ⟨b, n, rfl, hn, hB, q⟩ := h
    rfl
  obtain ⟨b, n, rfl, hn, hB, q⟩ := h
  have hu := hr.units
  have hgd := hr.gd
  refine by_Q (qss_cons (qs_set (i := 1) sc__law_value.nd rfl (Or.inl rfl) (qe_callU G__law_take (hr.mono (by omega)) rfl m__law_take kp__law_take b__law_take .nil pass0 (qa_c (qv 0) (qa_c qe_int qa_nil))))
      (qss_cons (qs_if (qt_op_lt (qv 1) qe_int) (qss_one (qs_ret (qe_op_sub (qe_callU G__law_take (hr.mono (by omega)) rfl m__law_take kp__law_take b__law_take .nil pass0 (qa_c (qv 0) (qa_c qe_int qa_nil))) qe_int))) qss_nil)
      (qss_cons (qs_if (qt_op_eq (qv 1) qe_int) (qss_one (qs_ret (qe_ixF (qe_lst (qa_c (qe_op_sub (qe_op_pow qe_int qe_int) qe_int) (qa_c (qe_op_sub qe_int (qe_op_pow qe_int qe_int)) (qa_c qe_int (qa_c qe_int qa_nil))))) (qe_callU G__law_take (hr.mono (by omega)) rfl m__law_take kp__law_take b__law_take .nil pass0 (qa_c (qv 0) (qa_c qe_int qa_nil))) plain_call))) qss_nil)
      (qss_cons (qs_if (qt_op_eq (qv 1) qe_int) (qss_one (qs_ret qe_non)) qss_nil)
      (qss_one (qs_ret (qe_ixF (qe_lst (qa_consts (vs := [.str (Str.ofString ""), .str (Str.ofString "a"), .str (Str.ofString "b"), .str (Str.ofString "B"), .str (Str.ofString "10"), .str (Str.ofString "9"), .str (Str.ofString "-"), .str (Str.ofString "a b"), .str (Str.ofString "it's"), .str (Str.ofString "\\"), .str (Str.ofString "/"), .str (Str.ofString "_"), .str (Str.ofString ":"), .str (Str.ofString "None"), .str (Str.ofString "ab")]) rfl)) (qe_callU G__law_take (hr.mono (by omega)) rfl m__law_take kp__law_take b__law_take .nil pass0 (qa_c (qv 0) (qa_c qe_int qa_nil))) plain_call))))))) ?_
  refine seq_step fun k1 hk1 => ?_
  walk_at "rd"
  refine ⟨b, 9, n, rfl, by decide, by decide, by omega, hB, fun r H1 r0 r1 S1 B1 => ?_⟩
  refine hk1 _ _ ?_
  refine seq_step fun k2 hk2 => ?_
  walk_at "rd"
  refine ite2 (fun c => ?_) (fun c => ?_)
  · refine ⟨b, 13, n + 1, rfl, by decide, by decide, by omega, B1, fun r2 H2 r3 r4 S2 B2 => ?_⟩
    walk_at "rd"
    exact q _ _ (fv_int ⟨by omega, by omega⟩) (S1.trans S2) B2
  refine hk2 _ _ ?_
  refine seq_step fun k3 hk3 => ?_
  walk_at "rd"
  refine ite2 (fun c => ?_) (fun c => ?_)
  · refine ⟨⟨by decide, by decide, by decide⟩, ⟨by decide, by decide, by decide⟩, by decide, fun p hp => ?_⟩
    refine ⟨b, 4, n + 1, rfl, by decide, by decide, by omega, B1.same (same_new' hp _), fun r2 H2 r3 r4 S2 B2 => ?_⟩
    obtain ⟨v, e, hv⟩ := ix_draw (Pv := FV) (S2 p _ (B1.ne hp) upd_same) r3 r4 (by
      intro v hv
      simp only [List.mem_cons, List.not_mem_nil, or_false] at hv
      rcases hv with rfl | rfl | rfl | rfl <;> exact fv_int ⟨by decide, by decide⟩)
    exact ⟨_, e, q _ _ hv (S1.trans ((SameX.same (same_new' hp _)).trans S2)) B2⟩
  refine hk3 _ _ ?_
  refine seq_step fun k4 hk4 => ?_
  walk_at "rd"
  refine ite2 (fun c => ?_) (fun c => ?_)
  · exact q _ _ (.inl rfl) S1 (B1.mono (by omega))
  refine hk4 _ _ ?_
  walk_at "rd"
  refine ⟨by decide, fun p hp => ?_⟩
  refine ⟨b, 15, n + 1, rfl, by decide, by decide, by omega, B1.same (same_new' hp _), fun r2 H2 r3 r4 S2 B2 => ?_⟩
  obtain ⟨v, e, hv⟩ := ix_draw (Pv := FV) (S2 p _ (B1.ne hp) upd_same) r3 r4 (by
    intro v hv
    simp only [List.mem_cons, List.not_mem_nil, or_false] at hv
    rcases hv with rfl | rfl | rfl | rfl | rfl | rfl | rfl | rfl | rfl | rfl | rfl | rfl | rfl | rfl | rfl <;> exact fv_str (by decide +kernel))
  exact ⟨_, e, q _ _ hv (S1.trans ((SameX.same (same_new' hp _)).trans S2)) B2⟩
end
end K
namespace K
open PySem L2
local macro_rules | `(tactic| walk_at "rd") => `(tactic| simp only [tSeq, tIfS, tTest, tB, tOp, tUn, tVar, tC, tAsg, gName, gSub, tRet, tRetN, tDrop, tNext, tNil, tCons, tCB, tCall, tTup, tLst, tNot, tAnd, tOr, tNotV, tAndV, tOrV, tIf, rIxF, rI0, rI, rU, rSetL, rCat, rRep, rEq, rNe, L2.start, List.map_cons, List.map_nil, List.cons_append, List.nil_append, List.append_nil, List.length_cons, List.length_nil, List.replicate, List.getElem?_cons_zero, List.getElem?_cons_succ, List.set_cons_zero, List.set_cons_succ, V.int.injEq, V.ref.injEq, V.bl.injEq, V.str.injEq, V.ty.injEq, Option.some.injEq, List.cons.injEq, reduceCtorEq, exists_eq_left', exists_eq_left, exists_eq_right, exists_eq_right', exists_and_left, false_and, and_false, true_and, and_true, exists_false, exists_const, or_false, false_or, scal, decide_eq_true_eq, upd_same, Nat.zero_add, Nat.reduceAdd, Nat.reduceSub, HO.lst.injEq, HO.tup.injEq, atI_0, atI_1, atI_2, atI_3, ixN_30, ixN_31, ixN_32, Int.reduceNeg, tK, tBM, rAppF, rr_isi, rr_isi2, rr_lenF, rr_abs, rr_int_i, rr_int_b, rr_any, rr_all, rr_sum, rr_strI, rr_strD, rr_tuple, rr_list, kv_non, kv_bl, kv_int, kv_str, sk_NoneType_int, sk_NoneType_str, sk_NoneType_bool, sk_NoneType_list, sk_NoneType_tuple, sk_bool_int, sk_bool_str, sk_bool_bool, sk_bool_list, sk_bool_tuple, sk_int_int, sk_int_str, sk_int_bool, sk_int_list, sk_int_tuple, sk_str_int, sk_str_str, sk_str_bool, sk_str_list, sk_str_tuple, sk_list_int, sk_list_str, sk_list_bool, sk_list_list, sk_list_tuple, sk_tuple_int, sk_tuple_str, sk_tuple_bool, sk_tuple_list, sk_tuple_tuple, decide_true, decide_false, Bool.false_eq_true, if_true, if_false, ite_true, ite_false, ne_eq, not_false_eq_true, not_true_eq_false, Bool.not_true, Bool.not_false, lw_seq, lw_rng, fw_seq, fw_rng, tYes, cst, Option.map_some, Option.map_none, Option.bind_some, Option.bind_none, Option.getD_some, Option.getD_none, Option.bind_eq_bind, Option.join_some, Option.join_none, tNever, List.getD_cons_zero, List.getD_cons_succ, List.getElem?_nil, tMM, rSetK, rLenSet, fw_zip, lw_zip, fw_enum, lw_enum, tPar, tPar3, tSl, tNoPart, tPart, rCat2, rSlL, exP2])
local macro_rules | `(tactic| wp_walk using $ts,*) => `(tactic| simp only [tSeq, tIfS, tTest, tB, tOp, tUn, tVar, tC, tAsg, gName, gSub, tRet, tRetN, tDrop, tNext, tNil, tCons, tCB, tCall, tTup, tLst, tNot, tAnd, tOr, tNotV, tAndV, tOrV, tIf, rIxF, rI0, rI, rU, rSetL, rCat, rRep, rEq, rNe, L2.start, List.map_cons, List.map_nil, List.cons_append, List.nil_append, List.append_nil, List.length_cons, List.length_nil, List.replicate, List.getElem?_cons_zero, List.getElem?_cons_succ, List.set_cons_zero, List.set_cons_succ, V.int.injEq, V.ref.injEq, V.bl.injEq, V.str.injEq, V.ty.injEq, Option.some.injEq, List.cons.injEq, reduceCtorEq, exists_eq_left', exists_eq_left, exists_eq_right, exists_eq_right', exists_and_left, false_and, and_false, true_and, and_true, exists_false, exists_const, or_false, false_or, scal, decide_eq_true_eq, upd_same, Nat.zero_add, Nat.reduceAdd, Nat.reduceSub, HO.lst.injEq, HO.tup.injEq, atI_0, atI_1, atI_2, atI_3, ixN_30, ixN_31, ixN_32, Int.reduceNeg, tK, tBM, rAppF, rr_isi, rr_isi2, rr_lenF, rr_abs, rr_int_i, rr_int_b, rr_any, rr_all, rr_sum, rr_strI, rr_strD, rr_tuple, rr_list, kv_non, kv_bl, kv_int, kv_str, sk_NoneType_int, sk_NoneType_str, sk_NoneType_bool, sk_NoneType_list, sk_NoneType_tuple, sk_bool_int, sk_bool_str, sk_bool_bool, sk_bool_list, sk_bool_tuple, sk_int_int, sk_int_str, sk_int_bool, sk_int_list, sk_int_tuple, sk_str_int, sk_str_str, sk_str_bool, sk_str_list, sk_str_tuple, sk_list_int, sk_list_str, sk_list_bool, sk_list_list, sk_list_tuple, sk_tuple_int, sk_tuple_str, sk_tuple_bool, sk_tuple_list, sk_tuple_tuple, decide_true, decide_false, Bool.false_eq_true, if_true, if_false, ite_true, ite_false, ne_eq, not_false_eq_true, not_true_eq_false, Bool.not_true, Bool.not_false, lw_seq, lw_rng, fw_seq, fw_rng, tYes, cst, Option.map_some, Option.map_none, Option.bind_some, Option.bind_none, Option.getD_some, Option.getD_none, Option.bind_eq_bind, Option.join_some, Option.join_none, tNever, List.getD_cons_zero, List.getD_cons_succ, List.getElem?_nil, tMM, rSetK, rLenSet, fw_zip, lw_zip, fw_enum, lw_enum, tPar, tPar3, tSl, tNoPart, tPart, rCat2, rSlL, exP2, $[$ts:term],*])
section
variable {P : Program} {w : World} {K : PySem.W.Frag} {mg : Str → Option Value} {base : Heap}
theorem Same.trans {H H1 H2 : Hp} (x : Same H H1) (y : Same H1 H2) : Same H H2 := fun a o e => y a o (x a o e)
theorem Same.refl {H : Hp} : Same H H := fun _ _ e => e
theorem Wd.parts {H : Hp} {W : Wd} {v : V} (ok : W.Ok) (t : Tr H W.d v) : ∃ a a0 a1 a2 a3 a4 hvs rvs, v = .ref a ∧ H a = some (.tup [.ref a0, .ref a1, .ref a2, .ref a3, .ref a4]) ∧ H a0 = some (.tup W.key) ∧ H a1 = some (.tup W.names) ∧ H a2 = some (.tup W.vals) ∧
    H a3 = some (.tup hvs) ∧ TrL H (W.heads.map tupD) hvs ∧ H a4 = some (.tup rvs) ∧ TrL H (W.rows.map rowD) rvs := by
  obtain ⟨a, vs, rfl, e, v0, r0, rfl, t0, v1, r1, rfl, t1, v2, r2, rfl, t2, v3, r3, rfl, t3, v4, r4, rfl, t4, t5⟩ := t
  cases (show r4 = [] from t5)
  obtain ⟨a0, rfl, e0⟩ := tupD_back ok.key t0
  obtain ⟨a1, rfl, e1⟩ := tupD_back ok.names t1
  obtain ⟨a2, rfl, e2⟩ := tupD_back ok.vals t2
  obtain ⟨a3, hvs, rfl, e3, q3⟩ := t3
  obtain ⟨a4, rvs, rfl, e4, q4⟩ := t4
  exact ⟨a, a0, a1, a2, a3, a4, hvs, rvs, rfl, e, e0, e1, e2, e3, q3, e4, q4⟩
theorem row_parts {H : Hp} {n : Nat} {r : List V × List (Option (List V))} {v : V} (ok : RowOk n r) (t : Tr H (rowD r) v) : ∃ q p c cvs, v = .ref q ∧ H q = some (.tup [.ref p, .ref c]) ∧ H p = some (.tup r.1) ∧ H c = some (.tup cvs) ∧ TrL H (r.2.map cellD) cvs := by
  obtain ⟨q, vs, rfl, e, v0, r0, rfl, t0, v1, r1, rfl, t1, t5⟩ := t
  cases (show r1 = [] from t5)
  obtain ⟨p, rfl, e0⟩ := tupD_back ok.part t0
  obtain ⟨c, cvs, rfl, e1, q1⟩ := t1
  exact ⟨q, p, c, cvs, rfl, e, e0, e1, q1⟩
theorem map_get {α β : Type} {f : α → β} {xs : List α} {k : Nat} {y : β} (h : (xs.map f)[k]? = some y) : ∃ x, xs[k]? = some x ∧ f x = y := by
  rw [List.getElem?_map] at h
  cases e : xs[k]? with
  | none => rw [e] at h; cases h
  | some x => rw [e] at h; cases h; exact ⟨x, rfl, rfl⟩
theorem noLs_tup {os : List (List V)} (h : ∀ o ∈ os, FVs o) : noLs (os.map tupD) = true := noLs_of fun d hd => by
  obtain ⟨o, ho, rfl⟩ := List.mem_map.mp hd
  exact (tupD_good (h o ho) (Nat.le_refl _)).noL
theorem same_upd' {H G : Hp} {p : Addr} {o : HO} (h : H p = none) (S : Same H G) : Same H (upd G p o) := fun b u e => by
  rw [upd_ne (ne_of_none e h)]; exact S b u e
theorem out_more {H G G5 : Hp} {pr p2 : Addr} {acc : List V} {done : List (List V)} {o : List V} (S : Same G G5) (h5 : G5 pr = some (.lst acc)) (t : TrL G (done.map tupD) acc) (fd : ∀ o ∈ done, FVs o) (fo : FVs o) (e5 : G5 p2 = some (.tup o)) :
    TrL (upd G5 pr (.lst (acc ++ [.ref p2]))) ((done ++ [o]).map tupD) (acc ++ [.ref p2]) := by
  rw [List.map_append]
  exact ((TrL.same S t).sameT (SameT.updL h5) (noLs_tup fd)).app (TrL.one (Tr.sameT (SameT.updL h5) (tupD_good fo (Nat.le_refl _)).noL (tupD_tr fo e5)))
def nI (j : Nat) : V := .int (j : Int)
def uAt (us : List V) (j : Nat) : V := us.getD j .non
theorem uAt_atI {us : List V} {j : Nat} (h : j < us.length) : atI us (j : Int) = some (uAt us j) := by
  refine atI_nat ?_
  unfold uAt
  rw [List.getD_eq_getElem?_getD, List.getElem?_eq_getElem h]; rfl
theorem TrL.at {H : Hp} {α : Type} {f : α → PyData} {d0 : α} {xs : List α} {us : List V} (t : TrL H (xs.map f) us) : ∀ {js : List Nat}, (∀ j ∈ js, j < us.length) → TrL H ((js.map fun j => xs.getD j d0).map f) (js.map (uAt us))
  | [], _ => rfl
  | j :: r, h => by
    have hj := h j (.head _)
    have l := t.length
    rw [List.length_map] at l
    have hx : j < xs.length := by omega
    obtain ⟨v, hv, tv⟩ := t.got (k := j) (d := f xs[j]) (by rw [List.getElem?_map, List.getElem?_eq_getElem hx]; rfl)
    refine ⟨uAt us j, _, rfl, ?_, TrL.at t fun i hi => h i (.tail _ hi)⟩
    have e1 : xs.getD j d0 = xs[j] := by rw [List.getD_eq_getElem?_getD, List.getElem?_eq_getElem hx]; rfl
    have e2 : uAt us j = v := by unfold uAt; rw [List.getD_eq_getElem?_getD, hv]; rfl
    show Tr H (f (xs.getD j d0)) (uAt us j)
    rw [e1, e2]; exact tv
def spVals : Sp := fun vs H Q _ => ∃ (a b : Addr) (us : List V) (js : List Nat), vs = [.ref a, .ref b] ∧ H a = some (.tup us) ∧ H b = some (.lst (js.map nI)) ∧ (∀ j ∈ js, j < us.length) ∧ js.length ≤ 12 ∧ ∀ p H', Same H H' → H' p = some (.tup (js.map (uAt us))) → Q (.ref p) H'
theorem ok_values_at {f : Addr} {fd : FuncData} (F : Fun K "values_at" "values_at" s_values_at f fd) (z_tuple : mg "tuple" = none) : FnOk P w K mg base CX0 1 f fd ["row", "places"] spVals := by
  refine F.ok sc_values_at (fun vs H Q E h => ?_) (fun cdv A outer s H vs Q E hr h => ?_)
  · obtain ⟨a, b, us, js, rfl, ha, hb, hj, hl, q⟩ := h
    rfl
  obtain ⟨a, b, us, js, rfl, ha, hb, hj, hl, q⟩ := h
  have hu := hr.units
  have hgd := hr.gd
  refine by_Q (qss_one (qs_ret (qe_call_tuple_of (Kq := K) rfl rfl z_tuple (qa_c (by exact (qe_lc (N' := ["place", "row"]) (idx := [none, some 0]) (lcs_of rfl rfl (by decide +kernel) rfl rfl rfl) rfl (qi_seq (Kq := K) rfl (qv 1)) (fun _ _ _ _ _ => by exact (qg_name (i := 0) (by show (["place", "row"] : List Str).Nodup; decide +kernel) rfl (Or.inl rfl))) (fun _ _ _ _ _ => by exact qts_nil) (fun _ _ _ _ _ => by exact (qe_ixF (qv 1) (qv 0) plain_name)))) qa_nil)))) ?_
  walk_at "rd"
  refine .inl ⟨js.map nI, hb, ?_⟩
  refine lcW_lst (xs := js.map nI) (fun k σ acc G => G = H ∧ acc = (js.take k).map (uAt us) ∧ ∃ o, σ = [o, some (.ref a)]) ⟨rfl, rfl, _, rfl⟩ (fun k σ acc G hk h => by
    obtain ⟨rfl, rfl, _⟩ := h
    exact ⟨hb, by simp; omega⟩) (Nat.le_trans (by simpa using hl) (by decide)) (fun k x σ acc G hx h => ?_) (fun σ acc G h p hp => ?_)
  · obtain ⟨rfl, rfl, o, rfl⟩ := h
    obtain ⟨j, hjk, rfl⟩ := map_get hx
    have f1 : ixF G (.ref a) (nI j) = some (uAt us j) := by
      rw [show nI j = V.int (j : Int) from rfl, ix_tupF ha]; exact uAt_atI (hj j (List.mem_of_getElem? hjk))
    wp_walk using f1
    refine ⟨?_, by simp⟩
    rw [take_snoc hjk, List.map_append]; rfl
  · obtain ⟨rfl, rfl, o, rfl⟩ := h
    rw [List.length_map, List.take_length]
    walk_at "rd"
    refine ⟨_, .inl ⟨SqL.of upd_same, fun p2 hp2 => ?_⟩⟩
    exact q p2 _ ((same_new' hp _).trans (same_new' hp2 _)) upd_same
def colC (W : Wd) (j : Nat) : List (Option (List V)) := W.rows.map fun r => cAt r.2 j
def spCU : Sp := fun vs H Q _ => ∃ (v : V) (W : Wd) (i : Int) (j : Nat), vs = [v, .int i] ∧ i = (j : Int) ∧ j < W.heads.length ∧ Tr H W.d v ∧ W.Ok ∧ ∀ p us H', Same H H' → H' p = some (.tup us) → TrL H' ((colC W j).map cellD) us → Q (.ref p) H'
theorem ok_cells_under {f : Addr} {fd : FuncData} (F : Fun K "cells_under" "cells_under" s_cells_under f fd) (z_tuple : mg "tuple" = none) : FnOk P w K mg base CX0 1 f fd ["wide", "place"] spCU := by
  refine F.ok sc_cells_under (fun vs H Q E h => ?_) (fun cdv A outer s H vs Q E hr h => ?_)
  · obtain ⟨v, W, i, j, rfl, rfl, hj, t, ok, q⟩ := h
    rfl
  obtain ⟨v, W, i, j, rfl, rfl, hj, t, ok, q⟩ := h
  have hu := hr.units
  have hgd := hr.gd
  refine by_Q (qss_one (qs_ret (qe_call_tuple_of (Kq := K) rfl rfl z_tuple (qa_c (by exact (qe_lc (N' := ["part", "cells", "place"]) (idx := [none, none, some 1]) (lcs_of rfl rfl (by decide +kernel) rfl rfl rfl) rfl (qi_seq (Kq := K) rfl (qe_ixF (qv 0) qe_int plain_int)) (fun _ _ _ _ _ => by exact (qg_tup (Kq := K) rfl (n := 2) rfl (qgs_cons (qg_name (i := 0) (by show (["part", "cells", "place"] : List Str).Nodup; decide +kernel) rfl (Or.inl rfl)) (qgs_cons (qg_name (i := 1) (by show (["part", "cells", "place"] : List Str).Nodup; decide +kernel) rfl (Or.inl rfl)) qgs_nil)))) (fun _ _ _ _ _ => by exact qts_nil) (fun _ _ _ _ _ => by exact (qe_ixF (qv 1) (qv 2) plain_name)))) qa_nil)))) ?_
  obtain ⟨a, a0, a1, a2, a3, a4, hvs, rvs, rfl, e, e0, e1, e2, e3, th, e4, tr⟩ := Wd.parts ok t
  have rl := tr.length
  rw [List.length_map] at rl
  have rl12 := ok.rlen
  have hl := th.length
  rw [List.length_map] at hl
  have hl12 := ok.hlen
  have f4 : ixF H (.ref a) (.int 4) = some (.ref a4) := by rw [ix_tupF e]; exact atI_nat (j := 4) rfl
  wp_walk using f4
  refine .inr ⟨rvs, e4, ?_⟩
  refine lcW_pairs (xs := rvs) (fun k σ acc G => G = H ∧ acc.length = k ∧ TrL H (((W.rows.take k).map fun r => cAt r.2 j).map cellD) acc ∧ ∃ o1 o2, σ = [o1, o2, some (.int (j : Int))]) ⟨rfl, rfl, rfl, _, _, rfl⟩ (fun k σ acc G hk h => by
    obtain ⟨rfl, h1, _⟩ := h
    exact ⟨e4, Nat.le_of_eq h1⟩) (Nat.le_trans (by omega : _ ≤ 12) (by decide)) (fun k v σ acc G hv h => ?_) (fun σ acc G h p hp => ?_)
  · obtain ⟨rfl, h1, t1, o1, o2, rfl⟩ := h
    obtain ⟨dr, hd, tv⟩ := tr.get hv
    obtain ⟨r, hr2, rfl⟩ := map_get hd
    have rok := ok.rows r (List.mem_of_getElem? hr2)
    obtain ⟨qq, pp, cc, cvs, rfl, w0, w1, w2, tc⟩ := row_parts rok tv
    have cl := tc.length
    rw [List.length_map, rok.clen] at cl
    refine ⟨qq, .ref pp, .ref cc, rfl, w0, ?_⟩
    have f1 : ixF G (.ref cc) (.int (j : Int)) = some (uAt cvs j) := by rw [ix_tupF w2]; exact uAt_atI (by omega)
    wp_walk using f1
    refine ⟨by simp [h1], ?_, by simp⟩
    rw [take_snoc hr2, List.map_append, List.map_append]
    exact t1.app (TrL.at (d0 := none) tc (js := [j]) fun i hi => by rw [List.mem_singleton.mp hi]; omega)
  · obtain ⟨rfl, h1, t1, o1, o2, rfl⟩ := h
    rw [← rl, List.take_length] at t1
    walk_at "rd"
    refine ⟨acc, .inl ⟨SqL.of upd_same, fun p2 hp2 => ?_⟩⟩
    have S := (same_new' hp (.lst acc)).trans (same_new' hp2 (.tup acc))
    exact q p2 acc _ S upd_same (TrL.same S t1)
def someC (cs : List (Option (List V))) : Bool := cs.any fun c => c.isSome
theorem noneC : ∀ cs : List (Option (List V)), (cs.map fun c => c.isNone).all id = !someC cs
  | [] => rfl
  | c :: r => by
    have := noneC r
    unfold someC at *
    rw [List.map_cons, List.all_cons, List.any_cons, this]
    cases c <;> rfl
def spHG : Sp := fun vs H Q _ => ∃ (c : Addr) (cvs : List V) (cs : List (Option (List V))), vs = [.ref c] ∧ H c = some (.tup cvs) ∧ TrL H (cs.map cellD) cvs ∧ (∀ c ∈ cs, FVc c) ∧ cs.length ≤ 12 ∧ ∀ H', Same H H' → Q (.bl (!someC cs)) H'
theorem ok_has_gaps_alone {f : Addr} {fd : FuncData} (F : Fun K "has_gaps_alone" "has_gaps_alone" s_has_gaps_alone f fd) (z_all : mg "all" = none) : FnOk P w K mg base CX0 1 f fd ["cells"] spHG := by
  refine F.ok sc_has_gaps_alone (fun vs H Q E h => ?_) (fun cdv A outer s H vs Q E hr h => ?_)
  · obtain ⟨c, cvs, cs, rfl, hc, tc, fc, lc, q⟩ := h
    rfl
  obtain ⟨c, cvs, cs, rfl, hc, tc, fc, lc, q⟩ := h
  have hu := hr.units
  have hgd := hr.gd
  refine by_Q (qss_one (qs_ret (qe_call_allL (Kq := K) rfl rfl rfl z_all (qa_c (by exact (qe_lc (N' := ["each"]) (idx := [none]) (lcs_of rfl rfl (by decide +kernel) rfl rfl rfl) rfl (qi_seq (Kq := K) rfl (qv 0)) (fun _ _ _ _ _ => by exact (qg_name (i := 0) (by show (["each"] : List Str).Nodup; decide +kernel) rfl (Or.inl rfl))) (fun _ _ _ _ _ => by exact qts_nil) (fun _ _ _ _ _ => by exact (qe_op_isN (qv 0) qe_non)))) qa_nil)))) ?_
  walk_at "rd"
  refine .inr ⟨cvs, hc, ?_⟩
  have cl := tc.length
  rw [List.length_map] at cl
  refine lcW_tup (xs := cvs) (fun k σ acc G => G = H ∧ acc = ((cs.take k).map fun c => c.isNone).map V.bl ∧ ∃ o, σ = [o]) ⟨rfl, rfl, _, rfl⟩ (fun k σ acc G hk h => by
    obtain ⟨rfl, rfl, _⟩ := h
    exact ⟨hc, by simp; omega⟩) (Nat.le_trans (by omega : _ ≤ 12) (by decide)) (fun k x σ acc G hx h => ?_) (fun σ acc G h p hp => ?_)
  · obtain ⟨rfl, rfl, o, rfl⟩ := h
    obtain ⟨d, hd, tx⟩ := tc.get hx
    obtain ⟨cl1, hcl, rfl⟩ := map_get hd
    have fcl := fc cl1 (List.mem_of_getElem? hcl)
    cases cl1 with
    | none =>
      cases (show x = .non from tx)
      walk_at "rd"
      refine ⟨?_, by simp⟩
      rw [take_snoc hcl, List.map_append, List.map_append]; rfl
    | some cs1 =>
      obtain ⟨cy, rfl, ec⟩ := tupD_back (fcl cs1 rfl).1 tx
      walk_at "rd"
      refine ⟨?_, by simp⟩
      rw [take_snoc hcl, List.map_append, List.map_append]; rfl
  · obtain ⟨rfl, rfl, o, rfl⟩ := h
    rw [← cl, List.take_length]
    walk_at "rd"
    refine ⟨cs.map fun c => c.isNone, SqL.of upd_same, ?_⟩
    rw [noneC]
    exact q _ (same_new' hp _)
def spWH : Sp := fun vs H Q _ => ∃ (v : V) (b : Addr) (W : Wd) (js : List Nat), vs = [v, .ref b] ∧ Tr H W.d v ∧ W.Ok ∧ H b = some (.lst (js.map nI)) ∧ (∀ j ∈ js, j < W.heads.length) ∧ js.length ≤ 12 ∧ ∀ r H', Same H H' → Tr H' (W.at js).d r → Q r H'
theorem ok_with_heads_at {f : Addr} {fd : FuncData} (F : Fun K "with_heads_at" "with_heads_at" s_with_heads_at f fd) (D_values_at : Def P w K mg base "values_at" 1 ["row", "places"] spVals) (z_tuple : mg "tuple" = none) : FnOk P w K mg base CX0 2 f fd ["wide", "places"] spWH := by
  obtain ⟨f_values_at, fd_values_at, G_values_at, b_values_at, kp_values_at, m_values_at⟩ := D_values_at
  refine F.ok sc_with_heads_at (fun vs H Q E h => ?_) (fun cdv A outer s H vs Q E hr h => ?_)
  · obtain ⟨v, b, W, js, rfl, t, ok, hb, hj, lj, q⟩ := h
    rfl
  obtain ⟨v, b, W, js, rfl, t, ok, hb, hj, lj, q⟩ := h
  have hu := hr.units
  have hgd := hr.gd
  refine by_Q (qss_cons (by exact (qs_setLC (i := 2) sc_with_heads_at.nd rfl (Or.inl rfl) (N' := ["part", "cells", "places"]) (idx := [none, none, some 1]) (lcs_of rfl rfl (by decide +kernel) rfl rfl rfl) rfl (qi_seq (Kq := K) rfl (qe_ixF (qv 0) qe_int plain_int)) (fun _ _ _ _ _ => by exact (qg_tup (Kq := K) rfl (n := 2) rfl (qgs_cons (qg_name (i := 0) (by show (["part", "cells", "places"] : List Str).Nodup; decide +kernel) rfl (Or.inl rfl)) (qgs_cons (qg_name (i := 1) (by show (["part", "cells", "places"] : List Str).Nodup; decide +kernel) rfl (Or.inl rfl)) qgs_nil)))) (fun _ _ _ _ _ => by exact qts_nil) (fun _ _ _ _ _ => by exact (qe_tup (qa_c (qv 0) (qa_c (qe_callU G_values_at (hr.mono (by omega)) rfl m_values_at kp_values_at b_values_at .nil pass0 (qa_c (qv 1) (qa_c (qv 2) qa_nil))) qa_nil))))))
      (qss_one (qs_ret (qe_op_cat2 (qe_slice sl_tup (qv 0) qo_none (qo_some qe_int)) (qe_tup (qa_c (qe_callU G_values_at (hr.mono (by omega)) rfl m_values_at kp_values_at b_values_at .nil pass0 (qa_c (qe_ixF (qv 0) qe_int plain_int) (qa_c (qv 1) qa_nil))) (qa_c (qe_call_tuple_of (Kq := K) rfl rfl z_tuple (qa_c (qv 2) qa_nil)) qa_nil))))))) ?_
  obtain ⟨a, a0, a1, a2, a3, a4, hvs, rvs, rfl, e, e0, e1, e2, e3, th, e4, tr⟩ := Wd.parts ok t
  have rl := tr.length
  rw [List.length_map] at rl
  have rl12 := ok.rlen
  have hl := th.length
  rw [List.length_map] at hl
  have hl12 := ok.hlen
  have f4 : ixF H (.ref a) (.int 4) = some (.ref a4) := by rw [ix_tupF e]; exact atI_nat (j := 4) rfl
  refine seq_step fun k1 hk1 => ?_
  wp_walk using f4
  refine .inr ⟨rvs, e4, ?_⟩
  refine lcW_pairs (xs := rvs) (fun k σ acc G => Same H G ∧ acc.length = k ∧ TrL G (((W.rows.take k).map (rAt js)).map rowD) acc ∧ ∃ o1 o2, σ = [o1, o2, some (.ref b)]) ⟨Same.refl, rfl, rfl, _, _, rfl⟩ (fun k σ acc G hk h => ⟨h.1 _ _ e4, Nat.le_of_eq h.2.1⟩) (Nat.le_trans (by omega : _ ≤ 12) (by decide)) (fun k v σ acc G hv h => ?_) (fun σ acc G h pl hpl => ?_)
  · obtain ⟨SG, hak, tk, o1, o2, rfl⟩ := h
    obtain ⟨dr, hd, tv⟩ := tr.get hv
    obtain ⟨r, hr2, rfl⟩ := map_get hd
    have rok := ok.rows r (List.mem_of_getElem? hr2)
    obtain ⟨qq, pp, cc, cvs, rfl, w0, w1, w2, tc⟩ := row_parts rok tv
    have cl := tc.length
    rw [List.length_map, rok.clen] at cl
    have hjc : ∀ j ∈ js, j < cvs.length := fun j hj' => by have := hj j hj'; omega
    refine ⟨qq, .ref pp, .ref cc, rfl, SG _ _ w0, ?_⟩
    walk_at "rd"
    refine ⟨cc, b, cvs, js, rfl, SG _ _ w2, SG _ _ hb, hjc, lj, fun p1 G1 S1 h1 => ⟨by decide, fun p2 hp2 => ?_⟩⟩
    have Y := S1.trans (same_new' hp2 (.tup [.ref pp, .ref p1]))
    refine ⟨SG.trans Y, by simp [hak], ?_, by simp⟩
    rw [take_snoc hr2, List.map_append, List.map_append]
    have tc' : TrL H ((js.map (cAt r.2)).map cellD) (js.map (uAt cvs)) := TrL.at (d0 := none) tc hjc
    exact (TrL.same Y tk).app (TrL.one ⟨p2, _, rfl, upd_same, _, _, rfl, tupD_tr rok.part (Y _ _ (SG _ _ w1)), _, _, rfl, ⟨p1, _, rfl, (same_new' hp2 _) _ _ h1, TrL.same (SG.trans Y) tc'⟩, rfl⟩)
  · obtain ⟨SG, hak, tk, o1, o2, rfl⟩ := h
    rw [← rl, List.take_length] at tk
    refine hk1 _ _ ?_
    have Sl := same_new' hpl (.lst acc)
    have hl1 : upd G pl (.lst acc) pl = some (.lst acc) := upd_same
    have U1 := SG.trans Sl
    have tk1 := TrL.same Sl tk
    generalize upd G pl (.lst acc) = G1 at Sl hl1 U1 tk1
    walk_at "rd"
    refine ⟨a, _, rfl, SqT.of (U1 _ _ e), fun h => absurd (show (3 : Nat) = 5 from h.2) (by decide), fun p1 hp1 => ?_⟩
    have c3 : cutV [V.ref a0, .ref a1, .ref a2, .ref a3, .ref a4] none (some 3) = [.ref a0, .ref a1, .ref a2] := rfl
    rw [c3]
    have T1 := same_new' hp1 (.tup [.ref a0, .ref a1, .ref a2])
    have h1 : upd G1 p1 (.tup [.ref a0, .ref a1, .ref a2]) p1 = some (.tup [.ref a0, .ref a1, .ref a2]) := upd_same
    generalize upd G1 p1 (.tup [.ref a0, .ref a1, .ref a2]) = G2 at T1 h1
    have U2 := U1.trans T1
    have f3 : ixF G2 (.ref a) (.int 3) = some (.ref a3) := by rw [ix_tupF (U2 _ _ e)]; exact atI_3 _ _ _ _ _
    refine ⟨_, f3, a3, b, hvs, js, rfl, U2 _ _ e3, U2 _ _ hb, fun j hj' => by have := hj j hj'; omega, lj, fun p2 G3 S3 h2 => ?_⟩
    refine ⟨acc, .inl ⟨SqL.of (S3 _ _ (T1 _ _ hl1)), fun p3 hp3 => ⟨by decide, fun p4 hp4 => ?_⟩⟩⟩
    have Z := (same_new' hp3 (.tup acc)).trans (same_new' hp4 (.tup [.ref p2, .ref p3]))
    refine ⟨p1, rfl, [.ref a0, .ref a1, .ref a2], Z _ _ (S3 _ _ h1), (show 3 + 2 ≤ sizeLine by decide), fun p5 G5 S5 h5 => ?_⟩
    have Z2 := Z.trans S5
    have U5 := U2.trans (S3.trans Z2)
    have th' : TrL H ((js.map fun j => W.heads.getD j []).map tupD) (js.map (uAt hvs)) := TrL.at th fun j hj' => by have := hj j hj'; omega
    exact q _ _ U5 ⟨p5, _, rfl, h5, _, _, rfl, tupD_tr ok.key (U5 _ _ e0), _, _, rfl, tupD_tr ok.names (U5 _ _ e1), _, _, rfl, tupD_tr ok.vals (U5 _ _ e2), _, _, rfl, ⟨p2, _, rfl, Z2 _ _ h2, TrL.same U5 th'⟩, _, _, rfl, ⟨p3, acc, rfl, ((same_new' hp4 _).trans S5) _ _ upd_same, TrL.same (T1.trans (S3.trans Z2)) tk1⟩, rfl⟩
end
end K
namespace K
open PySem L2
local macro_rules | `(tactic| walk_at "rd") => `(tactic| simp only [tSeq, tIfS, tTest, tB, tOp, tUn, tVar, tC, tAsg, gName, gSub, tRet, tRetN, tDrop, tNext, tNil, tCons, tCB, tCall, tTup, tLst, tNot, tAnd, tOr, tNotV, tAndV, tOrV, tIf, rIxF, rI0, rI, rU, rSetL, rCat, rRep, rEq, rNe, L2.start, List.map_cons, List.map_nil, List.cons_append, List.nil_append, List.append_nil, List.length_cons, List.length_nil, List.replicate, List.getElem?_cons_zero, List.getElem?_cons_succ, List.set_cons_zero, List.set_cons_succ, V.int.injEq, V.ref.injEq, V.bl.injEq, V.str.injEq, V.ty.injEq, Option.some.injEq, List.cons.injEq, reduceCtorEq, exists_eq_left', exists_eq_left, exists_eq_right, exists_eq_right', exists_and_left, false_and, and_false, true_and, and_true, exists_false, exists_const, or_false, false_or, scal, decide_eq_true_eq, upd_same, Nat.zero_add, Nat.reduceAdd, Nat.reduceSub, HO.lst.injEq, HO.tup.injEq, atI_0, atI_1, atI_2, atI_3, ixN_30, ixN_31, ixN_32, Int.reduceNeg, tK, tBM, rAppF, rr_isi, rr_isi2, rr_lenF, rr_abs, rr_int_i, rr_int_b, rr_any, rr_all, rr_sum, rr_strI, rr_strD, rr_tuple, rr_list, kv_non, kv_bl, kv_int, kv_str, sk_NoneType_int, sk_NoneType_str, sk_NoneType_bool, sk_NoneType_list, sk_NoneType_tuple, sk_bool_int, sk_bool_str, sk_bool_bool, sk_bool_list, sk_bool_tuple, sk_int_int, sk_int_str, sk_int_bool, sk_int_list, sk_int_tuple, sk_str_int, sk_str_str, sk_str_bool, sk_str_list, sk_str_tuple, sk_list_int, sk_list_str, sk_list_bool, sk_list_list, sk_list_tuple, sk_tuple_int, sk_tuple_str, sk_tuple_bool, sk_tuple_list, sk_tuple_tuple, decide_true, decide_false, Bool.false_eq_true, if_true, if_false, ite_true, ite_false, ne_eq, not_false_eq_true, not_true_eq_false, Bool.not_true, Bool.not_false, lw_seq, lw_rng, fw_seq, fw_rng, tYes, cst, Option.map_some, Option.map_none, Option.bind_some, Option.bind_none, Option.getD_some, Option.getD_none, Option.bind_eq_bind, Option.join_some, Option.join_none, tNever, List.getD_cons_zero, List.getD_cons_succ, List.getElem?_nil, tMM, rSetK, rLenSet, fw_zip, lw_zip, fw_enum, lw_enum, tPar, tPar3, tSl, tNoPart, tPart, rCat2, rSlL, exP2])
local macro_rules | `(tactic| wp_walk using $ts,*) => `(tactic| simp only [tSeq, tIfS, tTest, tB, tOp, tUn, tVar, tC, tAsg, gName, gSub, tRet, tRetN, tDrop, tNext, tNil, tCons, tCB, tCall, tTup, tLst, tNot, tAnd, tOr, tNotV, tAndV, tOrV, tIf, rIxF, rI0, rI, rU, rSetL, rCat, rRep, rEq, rNe, L2.start, List.map_cons, List.map_nil, List.cons_append, List.nil_append, List.append_nil, List.length_cons, List.length_nil, List.replicate, List.getElem?_cons_zero, List.getElem?_cons_succ, List.set_cons_zero, List.set_cons_succ, V.int.injEq, V.ref.injEq, V.bl.injEq, V.str.injEq, V.ty.injEq, Option.some.injEq, List.cons.injEq, reduceCtorEq, exists_eq_left', exists_eq_left, exists_eq_right, exists_eq_right', exists_and_left, false_and, and_false, true_and, and_true, exists_false, exists_const, or_false, false_or, scal, decide_eq_true_eq, upd_same, Nat.zero_add, Nat.reduceAdd, Nat.reduceSub, HO.lst.injEq, HO.tup.injEq, atI_0, atI_1, atI_2, atI_3, ixN_30, ixN_31, ixN_32, Int.reduceNeg, tK, tBM, rAppF, rr_isi, rr_isi2, rr_lenF, rr_abs, rr_int_i, rr_int_b, rr_any, rr_all, rr_sum, rr_strI, rr_strD, rr_tuple, rr_list, kv_non, kv_bl, kv_int, kv_str, sk_NoneType_int, sk_NoneType_str, sk_NoneType_bool, sk_NoneType_list, sk_NoneType_tuple, sk_bool_int, sk_bool_str, sk_bool_bool, sk_bool_list, sk_bool_tuple, sk_int_int, sk_int_str, sk_int_bool, sk_int_list, sk_int_tuple, sk_str_int, sk_str_str, sk_str_bool, sk_str_list, sk_str_tuple, sk_list_int, sk_list_str, sk_list_bool, sk_list_list, sk_list_tuple, sk_tuple_int, sk_tuple_str, sk_tuple_bool, sk_tuple_list, sk_tuple_tuple, decide_true, decide_false, Bool.false_eq_true, if_true, if_false, ite_true, ite_false, ne_eq, not_false_eq_true, not_true_eq_false, Bool.not_true, Bool.not_false, lw_seq, lw_rng, fw_seq, fw_rng, tYes, cst, Option.map_some, Option.map_none, Option.bind_some, Option.bind_none, Option.getD_some, Option.getD_none, Option.bind_eq_bind, Option.join_some, Option.join_none, tNever, List.getD_cons_zero, List.getD_cons_succ, List.getElem?_nil, tMM, rSetK, rLenSet, fw_zip, lw_zip, fw_enum, lw_enum, tPar, tPar3, tSl, tNoPart, tPart, rCat2, rSlL, exP2, $[$ts:term],*])
section
variable {P : Program} {w : World} {K : PySem.W.Frag} {mg : Str → Option Value} {base : Heap}
theorem someC_col (W : Wd) (j : Nat) : someC (colC W j) = colOn W.rows j := by
  unfold someC colC colOn
  rw [List.any_map]; rfl
theorem colC_ok {W : Wd} (ok : W.Ok) (j : Nat) : ∀ c ∈ colC W j, FVc c := fun c hc => by
  obtain ⟨r, hr, rfl⟩ := List.mem_map.mp hc
  exact cAt_ok (ok.rows r hr) j
theorem colC_len {W : Wd} (ok : W.Ok) (j : Nat) : (colC W j).length ≤ 12 := by
  unfold colC
  rw [List.length_map]; exact ok.rlen
theorem pl_yes {rows : List Rw} {k : Nat} (h : colOn rows k = true) : ((List.range (k + 1)).filter (colOn rows)).map nI = ((List.range k).filter (colOn rows)).map nI ++ [nI k] := by
  rw [List.range_succ, List.filter_append, List.map_append]
  simp [h]
theorem pl_no {rows : List Rw} {k : Nat} (h : colOn rows k = false) : ((List.range (k + 1)).filter (colOn rows)).map nI = ((List.range k).filter (colOn rows)).map nI := by
  rw [List.range_succ, List.filter_append]
  simp [h]
theorem rs_yes {rows : List Rw} {k : Nat} {r : Rw} (e : rows[k]? = some r) (h : rowOn r = true) : ((rows.take (k + 1)).filter rowOn) = ((rows.take k).filter rowOn) ++ [r] := by
  rw [take_snoc e, List.filter_append]
  simp [h]
theorem rs_no {rows : List Rw} {k : Nat} {r : Rw} (e : rows[k]? = some r) (h : rowOn r = false) : ((rows.take (k + 1)).filter rowOn) = ((rows.take k).filter rowOn) := by
  rw [take_snoc e, List.filter_append]
  simp [h]
def spEmp : Sp := fun vs H Q _ => ∃ (v : V) (W : Wd), vs = [v] ∧ Tr H W.d v ∧ W.Ok ∧ ∀ r H', Same H H' → Tr H' W.emp.d r → Q r H'
theorem ok_emptied {f : Addr} {fd : FuncData} (F : Fun K "emptied" "emptied" s_emptied f fd) (D_cells_under : Def P w K mg base "cells_under" 1 ["wide", "place"] spCU) (D_has_gaps_alone : Def P w K mg base "has_gaps_alone" 1 ["cells"] spHG) (D_with_heads_at : Def P w K mg base "with_heads_at" 2 ["wide", "places"] spWH) (z_len : mg "len" = none) (z_range : mg "range" = none) (z_tuple : mg "tuple" = none) : FnOk P w K mg base CX0 3 f fd ["wide"] spEmp := by
  obtain ⟨f_cells_under, fd_cells_under, G_cells_under, b_cells_under, kp_cells_under, m_cells_under⟩ := D_cells_under
  obtain ⟨f_has_gaps_alone, fd_has_gaps_alone, G_has_gaps_alone, b_has_gaps_alone, kp_has_gaps_alone, m_has_gaps_alone⟩ := D_has_gaps_alone
  obtain ⟨f_with_heads_at, fd_with_heads_at, G_with_heads_at, b_with_heads_at, kp_with_heads_at, m_with_heads_at⟩ := D_with_heads_at
  refine F.ok sc_emptied (fun vs H Q E h => ?_) (fun cdv A outer s H vs Q E hr h => ?_)
  · obtain ⟨v, W, rfl, t, ok, q⟩ := h
    rfl
  obtain ⟨v, W, rfl, t, ok, q⟩ := h
  have hu := hr.units
  have hgd := hr.gd
  refine by_Q (qss_cons (by exact (qs_setLC (i := 1) sc_emptied.nd rfl (Or.inl rfl) (N' := ["place", "wide"]) (idx := [none, some 0]) (lcs_of rfl rfl (by decide +kernel) rfl rfl rfl) rfl (qi_range1 rfl z_range (qa_c (qe_call_lenF (Kq := K) rfl rfl z_len (qa_c (qe_ixF (qv 0) qe_int plain_int) qa_nil)) qa_nil)) (fun _ _ _ _ _ => by exact (qg_name (i := 0) (by show (["place", "wide"] : List Str).Nodup; decide +kernel) rfl (Or.inl rfl))) (fun _ _ _ _ _ => by exact (qts_one (qt_not (qt_val (qe_callU G_has_gaps_alone (hr.mono (by omega)) rfl m_has_gaps_alone kp_has_gaps_alone b_has_gaps_alone .nil pass0 (qa_c (qe_callU G_cells_under (hr.mono (by omega)) rfl m_cells_under kp_cells_under b_cells_under .nil pass0 (qa_c (qv 1) (qa_c (qv 0) qa_nil))) qa_nil)))))) (fun _ _ _ _ _ => by exact (qv 0))))
      (qss_cons (by exact (qs_setLC (i := 2) sc_emptied.nd rfl (Or.inl rfl) (N' := ["row"]) (idx := [none]) (lcs_of rfl rfl (by decide +kernel) rfl rfl rfl) rfl (qi_seq (Kq := K) rfl (qe_ixF (qv 0) qe_int plain_int)) (fun _ _ _ _ _ => by exact (qg_name (i := 0) (by show (["row"] : List Str).Nodup; decide +kernel) rfl (Or.inl rfl))) (fun _ _ _ _ _ => by exact (qts_one (qt_not (qt_val (qe_callU G_has_gaps_alone (hr.mono (by omega)) rfl m_has_gaps_alone kp_has_gaps_alone b_has_gaps_alone .nil pass0 (qa_c (qe_ixF (qv 0) qe_int plain_int) qa_nil)))))) (fun _ _ _ _ _ => by exact (qv 0))))
      (qss_one (qs_ret (qe_callU G_with_heads_at (hr.mono (by omega)) rfl m_with_heads_at kp_with_heads_at b_with_heads_at .nil pass0 (qa_c (qe_op_cat2 (qe_slice sl_tup (qv 0) qo_none (qo_some qe_int)) (qe_tup (qa_c (qe_call_tuple_of (Kq := K) rfl rfl z_tuple (qa_c (qv 2) qa_nil)) qa_nil))) (qa_c (qv 1) qa_nil))))))) ?_
  obtain ⟨a, a0, a1, a2, a3, a4, hvs, rvs, rfl, e, e0, e1, e2, e3, th, e4, tr⟩ := Wd.parts ok t
  have rl := tr.length
  rw [List.length_map] at rl
  have rl12 := ok.rlen
  have hl := th.length
  rw [List.length_map] at hl
  have hl12 := ok.hlen
  have f3 : ixF H (.ref a) (.int 3) = some (.ref a3) := by rw [ix_tupF e]; exact atI_3 _ _ _ _ _
  refine seq_step fun k1 hk1 => ?_
  wp_walk using f3, len_tup e3
  refine ⟨by omega, by omega, ?_⟩
  refine lc_range (fun k σ acc G => Same H G ∧ acc = ((List.range k).filter (colOn W.rows)).map nI ∧ ∃ o, σ = [o, some (.ref a)]) ⟨Same.refl, rfl, _, rfl⟩ (fun k σ acc G hk h => by
    obtain ⟨_, rfl, _⟩ := h
    rw [List.length_map]
    have := List.length_filter_le (colOn W.rows) (List.range k)
    rw [List.length_range] at this
    exact this) (Nat.le_trans (by omega : _ ≤ 12) (by decide)) (fun k σ acc G hk h => ?_) (fun σ acc G h pp hpp => ?_)
  · obtain ⟨SG, rfl, o, rfl⟩ := h
    walk_at "rd"
    refine ⟨_, W, _, k, rfl, by simp, by omega, Tr.same SG t, ok, fun p us G1 S1 h1 t1 => ?_⟩
    refine ⟨p, us, colC W k, rfl, h1, t1, colC_ok ok k, colC_len ok k, fun G2 S2 => ?_⟩
    rw [someC_col]
    cases hc : colOn W.rows k with
    | true =>
      rw [pl_yes hc]
      refine ⟨false, rfl, ?_⟩
      exact ⟨SG.trans (S1.trans S2), by simp [nI], by simp⟩
    | false =>
      rw [pl_no hc]
      refine ⟨true, rfl, ?_⟩
      exact ⟨SG.trans (S1.trans S2), rfl, by simp⟩
  · obtain ⟨SG, rfl, o, rfl⟩ := h
    have hjs : ((List.range (Int.toNat (hvs.length : Int))).filter (colOn W.rows)) = W.pl := by
      unfold Wd.pl
      rw [hl]; rfl
    rw [hjs] at *
    refine hk1 _ _ ?_
    have Sp := same_new' hpp (.lst (W.pl.map nI))
    have hp1 : upd G pp (.lst (W.pl.map nI)) pp = some (.lst (W.pl.map nI)) := upd_same
    generalize upd G pp (.lst (W.pl.map nI)) = G1 at Sp hp1
    have S1 := SG.trans Sp
    have f4 : ixF G1 (.ref a) (.int 4) = some (.ref a4) := by rw [ix_tupF (S1 _ _ e)]; exact atI_nat (j := 4) rfl
    refine seq_step fun k2 hk2 => ?_
    wp_walk using f4
    refine .inr ⟨rvs, S1 _ _ e4, ?_⟩
    refine lcW_tup (xs := rvs) (fun k σ acc G => Same G1 G ∧ acc.length ≤ k ∧ TrL G (((W.rows.take k).filter rowOn).map rowD) acc ∧ ∃ o, σ = [o]) ⟨Same.refl, Nat.le_refl _, rfl, _, rfl⟩ (fun k σ acc G hk h => ⟨h.1 _ _ (S1 _ _ e4), h.2.1⟩) (Nat.le_trans (by omega : _ ≤ 12) (by decide)) (fun k v σ acc G2 hv h => ?_) (fun σ acc G2 h pl hpl => ?_)
    · obtain ⟨SG2, lk, tk, o, rfl⟩ := h
      obtain ⟨dr, hd, tv⟩ := tr.get hv
      obtain ⟨r, hr2, rfl⟩ := map_get hd
      have rok := ok.rows r (List.mem_of_getElem? hr2)
      have S2 := S1.trans SG2
      obtain ⟨qq, pp', cc, cvs, rfl, w0, w1, w2, tc⟩ := row_parts rok (Tr.same S2 tv)
      have f1 : ixF G2 (.ref qq) (.int 1) = some (.ref cc) := by rw [ix_tupF w0]; exact atI_1 _ _ _
      wp_walk using f1
      refine ⟨cc, cvs, r.2, rfl, w2, tc, rok.cells, by rw [rok.clen]; exact hl12, fun G3 S3 => ?_⟩
      have hS : someC r.2 = rowOn r := rfl
      rw [hS]
      cases hc : rowOn r with
      | true =>
        rw [rs_yes hr2 hc, List.map_append]
        refine ⟨false, rfl, ?_⟩
        exact ⟨SG2.trans S3, by simp; omega, (TrL.same S3 tk).app (TrL.one (Tr.same (S2.trans S3) tv)), by simp⟩
      | false =>
        rw [rs_no hr2 hc]
        refine ⟨true, rfl, ?_⟩
        exact ⟨SG2.trans S3, by omega, TrL.same S3 tk, by simp⟩
    · obtain ⟨SG2, lk, tk, o, rfl⟩ := h
      rw [← rl, List.take_length] at tk
      refine hk2 _ _ ?_
      have Sl := same_new' hpl (.lst acc)
      have hl1 : upd G2 pl (.lst acc) pl = some (.lst acc) := upd_same
      have U1 := S1.trans (SG2.trans Sl)
      have hp2 := (SG2.trans Sl) _ _ hp1
      have tk1 := TrL.same Sl tk
      generalize upd G2 pl (.lst acc) = G3 at Sl hl1 U1 hp2 tk1
      walk_at "rd"
      refine ⟨a, _, rfl, SqT.of (U1 _ _ e), fun h => absurd (show (4 : Nat) = 5 from h.2) (by decide), fun p1 hp1 => ?_⟩
      have c4 : cutV [V.ref a0, .ref a1, .ref a2, .ref a3, .ref a4] none (some 4) = [.ref a0, .ref a1, .ref a2, .ref a3] := rfl
      rw [c4]
      have T1 := same_new' hp1 (.tup [.ref a0, .ref a1, .ref a2, .ref a3])
      refine ⟨acc, .inl ⟨SqL.of (T1 _ _ hl1), fun p2 hp2 => ⟨by decide, fun p3 hp3 => ?_⟩⟩⟩
      have T2 := same_new' hp2 (.tup acc)
      have T3 := same_new' hp3 (.tup [.ref p2])
      refine ⟨p1, rfl, [.ref a0, .ref a1, .ref a2, .ref a3], (T2.trans T3) _ _ upd_same, (show 4 + 1 ≤ sizeLine by decide), fun p4 G4 S4 h4 => ?_⟩
      have Z := T1.trans (T2.trans (T3.trans S4))
      have U4 := U1.trans Z
      have t4 : Tr G4 (Wd.d { W with rows := W.rows.filter rowOn }) (.ref p4) := ⟨p4, _, rfl, h4, _, _, rfl, tupD_tr ok.key (U4 _ _ e0), _, _, rfl, tupD_tr ok.names (U4 _ _ e1), _, _, rfl, tupD_tr ok.vals (U4 _ _ e2), _, _, rfl, ⟨a3, hvs, rfl, U4 _ _ e3, TrL.same U4 th⟩, _, _, rfl, ⟨p2, acc, rfl, (T3.trans S4) _ _ upd_same, TrL.same Z tk1⟩, rfl⟩
      refine ⟨.ref p4, pp, { W with rows := W.rows.filter rowOn }, W.pl, rfl, t4, rows_ok ok, Z _ _ (by assumption), pl_lt, pl_len ok, fun r H' S t => ?_⟩
      exact q r H' (U4.trans S) t
end
end K
namespace K
open PySem L2
local macro_rules | `(tactic| walk_at "rd") => `(tactic| simp only [tSeq, tIfS, tTest, tB, tOp, tUn, tVar, tC, tAsg, gName, gSub, tRet, tRetN, tDrop, tNext, tNil, tCons, tCB, tCall, tTup, tLst, tNot, tAnd, tOr, tNotV, tAndV, tOrV, tIf, rIxF, rI0, rI, rU, rSetL, rCat, rRep, rEq, rNe, L2.start, List.map_cons, List.map_nil, List.cons_append, List.nil_append, List.append_nil, List.length_cons, List.length_nil, List.replicate, List.getElem?_cons_zero, List.getElem?_cons_succ, List.set_cons_zero, List.set_cons_succ, V.int.injEq, V.ref.injEq, V.bl.injEq, V.str.injEq, V.ty.injEq, Option.some.injEq, List.cons.injEq, reduceCtorEq, exists_eq_left', exists_eq_left, exists_eq_right, exists_eq_right', exists_and_left, false_and, and_false, true_and, and_true, exists_false, exists_const, or_false, false_or, scal, decide_eq_true_eq, upd_same, Nat.zero_add, Nat.reduceAdd, Nat.reduceSub, HO.lst.injEq, HO.tup.injEq, atI_0, atI_1, atI_2, atI_3, ixN_30, ixN_31, ixN_32, Int.reduceNeg, tK, tBM, rAppF, rr_isi, rr_isi2, rr_lenF, rr_abs, rr_int_i, rr_int_b, rr_any, rr_all, rr_sum, rr_strI, rr_strD, rr_tuple, rr_list, kv_non, kv_bl, kv_int, kv_str, sk_NoneType_int, sk_NoneType_str, sk_NoneType_bool, sk_NoneType_list, sk_NoneType_tuple, sk_bool_int, sk_bool_str, sk_bool_bool, sk_bool_list, sk_bool_tuple, sk_int_int, sk_int_str, sk_int_bool, sk_int_list, sk_int_tuple, sk_str_int, sk_str_str, sk_str_bool, sk_str_list, sk_str_tuple, sk_list_int, sk_list_str, sk_list_bool, sk_list_list, sk_list_tuple, sk_tuple_int, sk_tuple_str, sk_tuple_bool, sk_tuple_list, sk_tuple_tuple, decide_true, decide_false, Bool.false_eq_true, if_true, if_false, ite_true, ite_false, ne_eq, not_false_eq_true, not_true_eq_false, Bool.not_true, Bool.not_false, lw_seq, lw_rng, fw_seq, fw_rng, tYes, cst, Option.map_some, Option.map_none, Option.bind_some, Option.bind_none, Option.getD_some, Option.getD_none, Option.bind_eq_bind, Option.join_some, Option.join_none, tNever, List.getD_cons_zero, List.getD_cons_succ, List.getElem?_nil, tMM, rSetK, rLenSet, fw_zip, lw_zip, fw_enum, lw_enum, tPar, tPar3, tSl, tNoPart, tPart, rCat2, rSlL, exP2])
local macro_rules | `(tactic| wp_walk using $ts,*) => `(tactic| simp only [tSeq, tIfS, tTest, tB, tOp, tUn, tVar, tC, tAsg, gName, gSub, tRet, tRetN, tDrop, tNext, tNil, tCons, tCB, tCall, tTup, tLst, tNot, tAnd, tOr, tNotV, tAndV, tOrV, tIf, rIxF, rI0, rI, rU, rSetL, rCat, rRep, rEq, rNe, L2.start, List.map_cons, List.map_nil, List.cons_append, List.nil_append, List.append_nil, List.length_cons, List.length_nil, List.replicate, List.getElem?_cons_zero, List.getElem?_cons_succ, List.set_cons_zero, List.set_cons_succ, V.int.injEq, V.ref.injEq, V.bl.injEq, V.str.injEq, V.ty.injEq, Option.some.injEq, List.cons.injEq, reduceCtorEq, exists_eq_left', exists_eq_left, exists_eq_right, exists_eq_right', exists_and_left, false_and, and_false, true_and, and_true, exists_false, exists_const, or_false, false_or, scal, decide_eq_true_eq, upd_same, Nat.zero_add, Nat.reduceAdd, Nat.reduceSub, HO.lst.injEq, HO.tup.injEq, atI_0, atI_1, atI_2, atI_3, ixN_30, ixN_31, ixN_32, Int.reduceNeg, tK, tBM, rAppF, rr_isi, rr_isi2, rr_lenF, rr_abs, rr_int_i, rr_int_b, rr_any, rr_all, rr_sum, rr_strI, rr_strD, rr_tuple, rr_list, kv_non, kv_bl, kv_int, kv_str, sk_NoneType_int, sk_NoneType_str, sk_NoneType_bool, sk_NoneType_list, sk_NoneType_tuple, sk_bool_int, sk_bool_str, sk_bool_bool, sk_bool_list, sk_bool_tuple, sk_int_int, sk_int_str, sk_int_bool, sk_int_list, sk_int_tuple, sk_str_int, sk_str_str, sk_str_bool, sk_str_list, sk_str_tuple, sk_list_int, sk_list_str, sk_list_bool, sk_list_list, sk_list_tuple, sk_tuple_int, sk_tuple_str, sk_tuple_bool, sk_tuple_list, sk_tuple_tuple, decide_true, decide_false, Bool.false_eq_true, if_true, if_false, ite_true, ite_false, ne_eq, not_false_eq_true, not_true_eq_false, Bool.not_true, Bool.not_false, lw_seq, lw_rng, fw_seq, fw_rng, tYes, cst, Option.map_some, Option.map_none, Option.bind_some, Option.bind_none, Option.getD_some, Option.getD_none, Option.bind_eq_bind, Option.join_some, Option.join_none, tNever, List.getD_cons_zero, List.getD_cons_succ, List.getElem?_nil, tMM, rSetK, rLenSet, fw_zip, lw_zip, fw_enum, lw_enum, tPar, tPar3, tSl, tNoPart, tPart, rCat2, rSlL, exP2, $[$ts:term],*])
section
variable {P : Program} {w : World} {K : PySem.W.Frag} {mg : Str → Option Value} {base : Heap}
theorem wt_len : ∀ ds : List PyData, 2 * ds.length ≤ wtAll ds
  | [] => Nat.le_refl _
  | d :: r => by have := wt_len r; show 2 * (r.length + 1) ≤ wt d + 2 + wtAll r; omega
theorem wt_mem : ∀ {ds : List PyData} {d : PyData}, d ∈ ds → wt d ≤ wtAll ds
  | a :: r, d, h => by
    show wt d ≤ wt a + 2 + wtAll r
    rcases List.mem_cons.mp h with rfl | h
    · omega
    · have := wt_mem h; omega
theorem dep_mem : ∀ {ds : List PyData} {d : PyData}, d ∈ ds → d.depth ≤ PyData.depthAll ds
  | a :: r, d, h => by
    show d.depth ≤ max a.depth (PyData.depthAll r)
    rcases List.mem_cons.mp h with rfl | h
    · omega
    · have := dep_mem h; omega
def spSame (n : Nat) : Sp := fun vs H Q _ => ∃ x y d, vs = [x, y] ∧ Tr H d x ∧ Tr H d y ∧ d.depth < n ∧ wt d ≤ 16000000 ∧ ∀ H', Same H H' → Q (.bl true) H'
theorem ok__law_same {n : Nat} {f : Addr} {fd : FuncData} (F : Fun K "_law_same" "_law_same" s__law_same f fd) (D__law_same : Def P w K mg base "_law_same" n ["_law_found", "_law_due_here"] (spSame n)) (z_all : mg "all" = none) (z_bool : mg "bool" = none) (z_int : mg "int" = none) (z_isinstance : mg "isinstance" = none) (z_len : mg "len" = none) (z_list : mg "list" = none) (z_str : mg "str" = none) (z_tuple : mg "tuple" = none) (z_zip : mg "zip" = none) : FnOk P w K mg base CX0 (n + 1) f fd ["_law_found", "_law_due_here"] (spSame (n + 1)) := by
  obtain ⟨f__law_same, fd__law_same, G__law_same, b__law_same, kp__law_same, m__law_same⟩ := D__law_same
  refine F.ok sc__law_same (fun vs H Q E h => ?_) (fun cdv A outer s H vs Q E hr h => ?_)
  · obtain ⟨x, y, d, rfl, tx, ty, hdep, hwt, q⟩ := h
    rfl
  obtain ⟨x, y, d, rfl, tx, ty, hdep, hwt, q⟩ := h
  have hu := hr.units
  have hgd := hr.gd
  refine by_Q (qss_cons (qs_if (qt_val (qe_call_isi2 (Kq := K) rfl rfl z_isinstance (qa_c (qv 1) (qa_c (qe_tup (qa_c (qe_bltn (v := .ty "list") rfl z_list bt_list rfl) (qa_c (qe_bltn (v := .ty "tuple") rfl z_tuple bt_tuple rfl) qa_nil))) qa_nil)))) (qss_cons (qs_if (QW.qt (qw_or (qt_op_ne (qe_call_isi (Kq := K) rfl rfl z_isinstance (qa_c (qv 0) (qa_c (qe_bltn (v := .ty "list") rfl z_list bt_list rfl) qa_nil))) (qe_call_isi (Kq := K) rfl rfl z_isinstance (qa_c (qv 1) (qa_c (qe_bltn (v := .ty "list") rfl z_list bt_list rfl) qa_nil)))) (qw_or1 (qt_op_ne (qe_call_isi (Kq := K) rfl rfl z_isinstance (qa_c (qv 0) (qa_c (qe_bltn (v := .ty "tuple") rfl z_tuple bt_tuple rfl) qa_nil))) (qe_call_isi (Kq := K) rfl rfl z_isinstance (qa_c (qv 1) (qa_c (qe_bltn (v := .ty "tuple") rfl z_tuple bt_tuple rfl) qa_nil))))))) (qss_one (qs_ret qe_bl)) qss_nil)
      (qss_one (qs_ret (qe_and (qe_op_eq (qe_call_lenF (Kq := K) rfl rfl z_len (qa_c (qv 0) qa_nil)) (qe_call_lenF (Kq := K) rfl rfl z_len (qa_c (qv 1) qa_nil))) (qe_one (qe_call_allL (Kq := K) rfl rfl rfl z_all (qa_c (by exact (qe_lc (N' := ["_law_one", "_law_other"]) (idx := [none, none]) (lcs_of rfl rfl (by decide +kernel) rfl rfl rfl) rfl (qi_zip rfl z_zip (qa_c (qv 0) (qa_c (qv 1) qa_nil))) (fun _ _ _ _ _ => by exact (qg_tup (Kq := K) rfl (n := 2) rfl (qgs_cons (qg_name (i := 0) (by show (["_law_one", "_law_other"] : List Str).Nodup; decide +kernel) rfl (Or.inl rfl)) (qgs_cons (qg_name (i := 1) (by show (["_law_one", "_law_other"] : List Str).Nodup; decide +kernel) rfl (Or.inl rfl)) qgs_nil)))) (fun _ _ _ _ _ => by exact qts_nil) (fun _ _ _ _ _ => by exact (qe_callU G__law_same (hr.mono (by omega)) rfl m__law_same kp__law_same b__law_same .nil pass0 (qa_c (qv 0) (qa_c (qv 1) qa_nil)))))) qa_nil))))))) qss_nil)
      (qss_cons (qs_if (QW.qt (qw_or (qt_op_isN (qv 1) qe_non) (qw_or1 (qt_val (qe_call_isi (Kq := K) rfl rfl z_isinstance (qa_c (qv 1) (qa_c (qe_bltn (v := .ty "str") rfl z_str bt_str rfl) qa_nil))))))) (qss_one (qs_ret (qe_and (qe_op_eq (qv 0) (qv 1)) (qe_one (qe_op_eq (qe_call_isi (Kq := K) rfl rfl z_isinstance (qa_c (qv 0) (qa_c (qe_bltn (v := .ty "str") rfl z_str bt_str rfl) qa_nil))) (qe_call_isi (Kq := K) rfl rfl z_isinstance (qa_c (qv 1) (qa_c (qe_bltn (v := .ty "str") rfl z_str bt_str rfl) qa_nil)))))))) qss_nil)
      (qss_cons (qs_if (qt_val (qe_call_isi (Kq := K) rfl rfl z_isinstance (qa_c (qv 1) (qa_c (qe_bltn (v := .ty "bool") rfl z_bool bt_bool rfl) qa_nil)))) (qss_one (qs_ret (qe_and (qe_call_isi (Kq := K) rfl rfl z_isinstance (qa_c (qv 0) (qa_c (qe_bltn (v := .ty "bool") rfl z_bool bt_bool rfl) qa_nil))) (qe_one (qe_op_eq (qv 0) (qv 1)))))) qss_nil)
      (qss_one (qs_ret (qe_and (qe_call_isi (Kq := K) rfl rfl z_isinstance (qa_c (qv 0) (qa_c (qe_bltn (v := .ty "int") rfl z_int bt_int rfl) qa_nil))) (qe_and (qe_not (qe_call_isi (Kq := K) rfl rfl z_isinstance (qa_c (qv 0) (qa_c (qe_bltn (v := .ty "bool") rfl z_bool bt_bool rfl) qa_nil)))) (qe_one (qe_op_eq (qv 0) (qv 1)))))))))) ?_
  refine seq_step fun k1 hk1 => ?_
  walk_at "rd"
  refine ⟨by decide, fun p hp => ⟨["list", "tuple"], rfl, ?_⟩⟩
  have S1 := same_new' hp (.tup [.ty "list", .ty "tuple"])
  have tx1 := Tr.same S1 tx
  have ty1 := Tr.same S1 ty
  have q1 : ∀ H', Same (upd H p (.tup [.ty "list", .ty "tuple"])) H' → Q (.bl true) H' := fun H' S => q H' (S1.trans S)
  generalize upd H p (.tup [.ty "list", .ty "tuple"]) = H1 at S1 tx1 ty1 q1
  have fin := q1 H1 Same.refl
  cases d with
  | dict kv => exact tx.elim
  | none =>
    cases (show x = .non from tx)
    cases (show y = .non from ty)
    wp_walk using sub_lt
    refine hk1 _ _ ?_
    refine seq_step fun k2 hk2 => ?_
    walk_at "rd"
    exact fin
  | str z =>
    cases (show x = .str z from tx)
    cases (show y = .str z from ty)
    wp_walk using sub_lt
    refine hk1 _ _ ?_
    refine seq_step fun k2 hk2 => ?_
    walk_at "rd"
    exact fin
  | bool c =>
    cases (show x = .bl c from tx)
    cases (show y = .bl c from ty)
    wp_walk using sub_lt
    refine hk1 _ _ ?_
    refine seq_step fun k2 hk2 => ?_
    walk_at "rd"
    refine hk2 _ _ ?_
    refine seq_step fun k3 hk3 => ?_
    walk_at "rd"
    exact fin
  | int c =>
    cases (show x = .int c from tx)
    cases (show y = .int c from ty)
    wp_walk using sub_lt
    refine hk1 _ _ ?_
    refine seq_step fun k2 hk2 => ?_
    walk_at "rd"
    refine hk2 _ _ ?_
    refine seq_step fun k3 hk3 => ?_
    walk_at "rd"
    refine hk3 _ _ ?_
    walk_at "rd"
    exact fin
  | list ds =>
    obtain ⟨a, xs, rfl, ha, ta⟩ := tx1
    obtain ⟨b, ys, rfl, hb, tb⟩ := ty1
    wp_walk using kv_lst hb, kv_lst ha, sub_lt, len_lst ha, len_lst hb
    have lx := ta.length
    have ly := tb.length
    refine ite2 (fun c => ?_) (fun c => absurd (by omega) c)
    refine ⟨false, false, xs, ha, ys, hb, ?_⟩
    have lz : xs.length ≤ sizeLine := by
      have h2 := wt_len ds
      have h3 : wtAll ds + 4 ≤ 16000000 := hwt
      exact Nat.le_trans (by omega : xs.length ≤ 8000000) (by decide)
    refine lcW_zip (xs := xs) (ys := ys) (fun k σ acc G => Same H1 G ∧ acc.length = k ∧ (∀ v ∈ acc, v = V.bl true) ∧ ∃ o1 o2, σ = [o1, o2]) ⟨Same.refl, rfl, by simp, _, _, rfl⟩ (fun k σ acc G h => ⟨h.1 _ _ ha, h.1 _ _ hb, Nat.le_of_eq h.2.1⟩) lz (fun k x y σ acc G p hx hy h hp => ?_) (fun σ acc G h p hp => ?_)
    · obtain ⟨SG, h1, h2, o1, o2, rfl⟩ := h
      obtain ⟨d, hd, t1⟩ := ta.get hx
      obtain ⟨d', hd', t2⟩ := tb.get hy
      rw [hd] at hd'
      cases hd'
      have Sp := same_new' hp (.tup [x, y])
      have hde : PyData.depthAll ds + 1 < n + 1 := hdep
      have hww : wtAll ds + 4 ≤ 16000000 := hwt
      have mem := List.mem_of_getElem? hd
      have := wt_mem mem
      have := dep_mem mem
      walk_at "rd"
      refine ⟨x, y, d, rfl, Tr.same (SG.trans Sp) t1, Tr.same (SG.trans Sp) t2, by omega, by omega, fun G2 S2 => ?_⟩
      refine ⟨SG.trans (Sp.trans S2), by simp [h1], fun v hv => ?_, by simp⟩
      rcases List.mem_append.mp hv with hv | hv
      · exact h2 v hv
      · exact List.mem_singleton.mp hv
    · obtain ⟨SG, h1, h2, _⟩ := h
      walk_at "rd"
      refine ⟨List.replicate acc.length true, SqL.of (by rw [upd_same, List.map_replicate, List.eq_replicate_iff.mpr ⟨rfl, h2⟩]; simp), ?_⟩
      have e : (List.replicate acc.length true).all id = true := by simp
      rw [e]
      exact q1 _ (SG.trans (same_new' hp _))
  | tuple ds =>
    obtain ⟨a, xs, rfl, ha, ta⟩ := tx1
    obtain ⟨b, ys, rfl, hb, tb⟩ := ty1
    wp_walk using kv_tup hb, kv_tup ha, sub_lt, len_tup ha, len_tup hb
    have lx := ta.length
    have ly := tb.length
    refine ite2 (fun c => ?_) (fun c => absurd (by omega) c)
    refine ⟨true, true, xs, ha, ys, hb, ?_⟩
    have lz : xs.length ≤ sizeLine := by
      have h2 := wt_len ds
      have h3 : wtAll ds + 4 ≤ 16000000 := hwt
      exact Nat.le_trans (by omega : xs.length ≤ 8000000) (by decide)
    refine lcW_zip (xs := xs) (ys := ys) (fun k σ acc G => Same H1 G ∧ acc.length = k ∧ (∀ v ∈ acc, v = V.bl true) ∧ ∃ o1 o2, σ = [o1, o2]) ⟨Same.refl, rfl, by simp, _, _, rfl⟩ (fun k σ acc G h => ⟨h.1 _ _ ha, h.1 _ _ hb, Nat.le_of_eq h.2.1⟩) lz (fun k x y σ acc G p hx hy h hp => ?_) (fun σ acc G h p hp => ?_)
    · obtain ⟨SG, h1, h2, o1, o2, rfl⟩ := h
      obtain ⟨d, hd, t1⟩ := ta.get hx
      obtain ⟨d', hd', t2⟩ := tb.get hy
      rw [hd] at hd'
      cases hd'
      have Sp := same_new' hp (.tup [x, y])
      have hde : PyData.depthAll ds + 1 < n + 1 := hdep
      have hww : wtAll ds + 4 ≤ 16000000 := hwt
      have mem := List.mem_of_getElem? hd
      have := wt_mem mem
      have := dep_mem mem
      walk_at "rd"
      refine ⟨x, y, d, rfl, Tr.same (SG.trans Sp) t1, Tr.same (SG.trans Sp) t2, by omega, by omega, fun G2 S2 => ?_⟩
      refine ⟨SG.trans (Sp.trans S2), by simp [h1], fun v hv => ?_, by simp⟩
      rcases List.mem_append.mp hv with hv | hv
      · exact h2 v hv
      · exact List.mem_singleton.mp hv
    · obtain ⟨SG, h1, h2, _⟩ := h
      walk_at "rd"
      refine ⟨List.replicate acc.length true, SqL.of (by rw [upd_same, List.map_replicate, List.eq_replicate_iff.mpr ⟨rfl, h2⟩]; simp), ?_⟩
      have e : (List.replicate acc.length true).all id = true := by simp
      rw [e]
      exact q1 _ (SG.trans (same_new' hp _))
theorem same_all {f : Addr} {fd : FuncData} (F : Fun K "_law_same" "_law_same" s__law_same f fd) (bF : Binds K fd ["_law_found", "_law_due_here"] []) (mF : mg "_law_same" = some (.ref f)) (z_all : mg "all" = none) (z_bool : mg "bool" = none) (z_int : mg "int" = none) (z_isinstance : mg "isinstance" = none) (z_len : mg "len" = none) (z_list : mg "list" = none) (z_str : mg "str" = none) (z_tuple : mg "tuple" = none) (z_zip : mg "zip" = none) : ∀ n : Nat, FnOk P w K mg base CX0 n f fd ["_law_found", "_law_due_here"] (spSame n)
  | 0 => ⟨fun vs H Q E h => by obtain ⟨_, _, _, _, _, _, h, _⟩ := h; exact absurd h (Nat.not_lt_zero _), fun A outer s H args us vs Q E _ _ _ _ h => by obtain ⟨_, _, _, _, _, _, h, _⟩ := h; exact absurd h (Nat.not_lt_zero _)⟩
  | n + 1 => ok__law_same F ⟨f, fd, same_all F bF mF z_all z_bool z_int z_isinstance z_len z_list z_str z_tuple z_zip n, bF, F.kp, mF⟩ z_all z_bool z_int z_isinstance z_len z_list z_str z_tuple z_zip
end
end K
namespace K
open PySem L2
local macro_rules | `(tactic| walk_at "rd") => `(tactic| simp only [tSeq, tIfS, tTest, tB, tOp, tUn, tVar, tC, tAsg, gName, gSub, tRet, tRetN, tDrop, tNext, tNil, tCons, tCB, tCall, tTup, tLst, tNot, tAnd, tOr, tNotV, tAndV, tOrV, tIf, rIxF, rI0, rI, rU, rSetL, rCat, rRep, rEq, rNe, L2.start, List.map_cons, List.map_nil, List.cons_append, List.nil_append, List.append_nil, List.length_cons, List.length_nil, List.replicate, List.getElem?_cons_zero, List.getElem?_cons_succ, List.set_cons_zero, List.set_cons_succ, V.int.injEq, V.ref.injEq, V.bl.injEq, V.str.injEq, V.ty.injEq, Option.some.injEq, List.cons.injEq, reduceCtorEq, exists_eq_left', exists_eq_left, exists_eq_right, exists_eq_right', exists_and_left, false_and, and_false, true_and, and_true, exists_false, exists_const, or_false, false_or, scal, decide_eq_true_eq, upd_same, Nat.zero_add, Nat.reduceAdd, Nat.reduceSub, HO.lst.injEq, HO.tup.injEq, atI_0, atI_1, atI_2, atI_3, ixN_30, ixN_31, ixN_32, Int.reduceNeg, tK, tBM, rAppF, rr_isi, rr_isi2, rr_lenF, rr_abs, rr_int_i, rr_int_b, rr_any, rr_all, rr_sum, rr_strI, rr_strD, rr_tuple, rr_list, kv_non, kv_bl, kv_int, kv_str, sk_NoneType_int, sk_NoneType_str, sk_NoneType_bool, sk_NoneType_list, sk_NoneType_tuple, sk_bool_int, sk_bool_str, sk_bool_bool, sk_bool_list, sk_bool_tuple, sk_int_int, sk_int_str, sk_int_bool, sk_int_list, sk_int_tuple, sk_str_int, sk_str_str, sk_str_bool, sk_str_list, sk_str_tuple, sk_list_int, sk_list_str, sk_list_bool, sk_list_list, sk_list_tuple, sk_tuple_int, sk_tuple_str, sk_tuple_bool, sk_tuple_list, sk_tuple_tuple, decide_true, decide_false, Bool.false_eq_true, if_true, if_false, ite_true, ite_false, ne_eq, not_false_eq_true, not_true_eq_false, Bool.not_true, Bool.not_false, lw_seq, lw_rng, fw_seq, fw_rng, tYes, cst, Option.map_some, Option.map_none, Option.bind_some, Option.bind_none, Option.getD_some, Option.getD_none, Option.bind_eq_bind, Option.join_some, Option.join_none, tNever, List.getD_cons_zero, List.getD_cons_succ, List.getElem?_nil, tMM, rSetK, rLenSet, fw_zip, lw_zip, fw_enum, lw_enum, tPar, tPar3, tSl, tNoPart, tPart, rCat2, rSlL, exP2])
local macro_rules | `(tactic| wp_walk using $ts,*) => `(tactic| simp only [tSeq, tIfS, tTest, tB, tOp, tUn, tVar, tC, tAsg, gName, gSub, tRet, tRetN, tDrop, tNext, tNil, tCons, tCB, tCall, tTup, tLst, tNot, tAnd, tOr, tNotV, tAndV, tOrV, tIf, rIxF, rI0, rI, rU, rSetL, rCat, rRep, rEq, rNe, L2.start, List.map_cons, List.map_nil, List.cons_append, List.nil_append, List.append_nil, List.length_cons, List.length_nil, List.replicate, List.getElem?_cons_zero, List.getElem?_cons_succ, List.set_cons_zero, List.set_cons_succ, V.int.injEq, V.ref.injEq, V.bl.injEq, V.str.injEq, V.ty.injEq, Option.some.injEq, List.cons.injEq, reduceCtorEq, exists_eq_left', exists_eq_left, exists_eq_right, exists_eq_right', exists_and_left, false_and, and_false, true_and, and_true, exists_false, exists_const, or_false, false_or, scal, decide_eq_true_eq, upd_same, Nat.zero_add, Nat.reduceAdd, Nat.reduceSub, HO.lst.injEq, HO.tup.injEq, atI_0, atI_1, atI_2, atI_3, ixN_30, ixN_31, ixN_32, Int.reduceNeg, tK, tBM, rAppF, rr_isi, rr_isi2, rr_lenF, rr_abs, rr_int_i, rr_int_b, rr_any, rr_all, rr_sum, rr_strI, rr_strD, rr_tuple, rr_list, kv_non, kv_bl, kv_int, kv_str, sk_NoneType_int, sk_NoneType_str, sk_NoneType_bool, sk_NoneType_list, sk_NoneType_tuple, sk_bool_int, sk_bool_str, sk_bool_bool, sk_bool_list, sk_bool_tuple, sk_int_int, sk_int_str, sk_int_bool, sk_int_list, sk_int_tuple, sk_str_int, sk_str_str, sk_str_bool, sk_str_list, sk_str_tuple, sk_list_int, sk_list_str, sk_list_bool, sk_list_list, sk_list_tuple, sk_tuple_int, sk_tuple_str, sk_tuple_bool, sk_tuple_list, sk_tuple_tuple, decide_true, decide_false, Bool.false_eq_true, if_true, if_false, ite_true, ite_false, ne_eq, not_false_eq_true, not_true_eq_false, Bool.not_true, Bool.not_false, lw_seq, lw_rng, fw_seq, fw_rng, tYes, cst, Option.map_some, Option.map_none, Option.bind_some, Option.bind_none, Option.getD_some, Option.getD_none, Option.bind_eq_bind, Option.join_some, Option.join_none, tNever, List.getD_cons_zero, List.getD_cons_succ, List.getElem?_nil, tMM, rSetK, rLenSet, fw_zip, lw_zip, fw_enum, lw_enum, tPar, tPar3, tSl, tNoPart, tPart, rCat2, rSlL, exP2, $[$ts:term],*])
section
variable {P : Program} {w : World} {K : PySem.W.Frag} {mg : Str → Option Value} {base : Heap}
def spNames : Sp := fun vs H Q _ => ∃ (b : Addr) (m n : Nat), vs = [.ref b, .int (m : Int)] ∧ m ≤ 12 ∧ n < 2 ^ 38 ∧ Bx H b n ∧ ∀ (p : Addr) (xs : List V) (H' : Hp), H p = none → xs.length = m → FVs xs → SameX b H H' → H' p = some (.lst xs) → Bx H' b (n + 12) → Q (.ref p) H'
theorem Bx.updO {H : Hp} {b p : Addr} {n : Nat} {o : HO} (B : Bx H b n) (h : b ≠ p) : Bx (upd H p o) b n := by
  obtain ⟨x, y, z, e, r⟩ := B
  exact ⟨x, y, z, by rw [upd_ne h]; exact e, r⟩
theorem Bx.some {H : Hp} {b : Addr} {n : Nat} (B : Bx H b n) : ∃ o, H b = some o := by
  obtain ⟨x, y, z, e, r⟩ := B
  exact ⟨_, e⟩
theorem fresh_back {H G : Hp} {b p : Addr} (S : SameX b H G) (hp : G p = none) (hb : b ≠ p) : H p = none := by
  cases e : H p with
  | none => rfl
  | some o => have := S p o hb.symm e; rw [hp] at this; cases this
theorem seq_at {r : Int} {n : Nat} (h0 : 0 ≤ r) (h1 : r < n) : seqIndex? r n = some r.toNat := by
  unfold seqIndex?
  have e : (if r < 0 then r + (n : Int) else r) = r := if_neg (by omega)
  simp only [e]
  rw [if_pos (by simp; omega)]
theorem ok__law_names {f : Addr} {fd : FuncData} (F : Fun K "_law_names" "_law_names" s__law_names f fd) (D__law_take : Def P w K mg base "_law_take" 1 ["_law_box_here", "_law_many_here"] spTake) (z_len : mg "len" = none) (z_range : mg "range" = none) : FnOk P w K mg base CX0 2 f fd ["_law_box_here", "_law_many_here"] spNames := by
  obtain ⟨f__law_take, fd__law_take, G__law_take, b__law_take, kp__law_take, m__law_take⟩ := D__law_take
  refine F.ok sc__law_names (fun vs H Q E h => ?_) (fun cdv A outer s H vs Q E hr h => ?_)
  · obtain ⟨b, m, n, rfl, hm, hn, hB, q⟩ := h
    rfl
  obtain ⟨b, m, n, rfl, hm, hn, hB, q⟩ := h
  have hu := hr.units
  have hgd := hr.gd
  refine by_Q (qss_cons (qs_set (i := 2) sc__law_names.nd rfl (Or.inr rfl) (qe_lst (qa_consts (vs := [.str (Str.ofString "b"), .str (Str.ofString "a"), .str (Str.ofString "year"), .str (Str.ofString "z"), .str (Str.ofString "ab"), .str (Str.ofString "month"), .str (Str.ofString "aa"), .str (Str.ofString "quantity"), .str (Str.ofString "c"), .str (Str.ofString "town"), .str (Str.ofString "zz"), .str (Str.ofString "ba")]) rfl)))
      (qss_one (qs_ret (by exact (qe_lc (N' := ["_law_turn", "_law_some", "_law_box_here"]) (idx := [none, some 2, some 0]) (lcs_of rfl rfl (by decide +kernel) rfl rfl rfl) rfl (qi_range1 rfl z_range (qa_c (qv 1) qa_nil)) (fun _ _ _ _ _ => by exact (qg_name (i := 0) (by show (["_law_turn", "_law_some", "_law_box_here"] : List Str).Nodup; decide +kernel) rfl (Or.inl rfl))) (fun _ _ _ _ _ => by exact qts_nil) (fun _ _ _ _ _ => by exact (qe_bm (Kq := K) rfl PySem.F.plainAttrs_list PySem.F.slot_list_pop PySem.F.type_list_pop mt_popAt (qv 1) (qa_c (qe_callU G__law_take (hr.mono (by omega)) rfl m__law_take kp__law_take b__law_take .nil pass0 (qa_c (qv 2) (qa_c (qe_call_lenF (Kq := K) rfl rfl z_len (qa_c (qv 1) qa_nil)) qa_nil))) qa_nil)))))))) ?_
  refine seq_step fun k1 hk1 => ?_
  walk_at "rd"
  refine ⟨by decide, fun p0 hp0 => ?_⟩
  refine hk1 _ _ ?_
  have hb0 : b ≠ p0 := (hB.ne hp0).symm
  obtain ⟨ys0, hys⟩ : ∃ ys0 : List V, ys0 = [V.str (Str.ofString "b"), V.str (Str.ofString "a"), V.str (Str.ofString "year"), V.str (Str.ofString "z"), V.str (Str.ofString "ab"), V.str (Str.ofString "month"), V.str (Str.ofString "aa"), V.str (Str.ofString "quantity"), V.str (Str.ofString "c"), V.str (Str.ofString "town"), V.str (Str.ofString "zz"), V.str (Str.ofString "ba")] := ⟨_, rfl⟩
  have fy : FVs ys0 := by
    rw [hys]
    intro v hv
    simp only [List.mem_cons, List.not_mem_nil, or_false] at hv
    rcases hv with rfl | rfl | rfl | rfl | rfl | rfl | rfl | rfl | rfl | rfl | rfl | rfl <;> exact fv_str (by decide +kernel)
  have ly : ys0.length = 12 := by rw [hys]; rfl
  rw [← hys]
  have S1 := same_new' hp0 (.lst ys0)
  have B1 : Bx (upd H p0 (.lst ys0)) b n := hB.updO hb0
  have h1 : upd H p0 (.lst ys0) p0 = some (.lst ys0) := upd_same
  generalize upd H p0 (.lst ys0) = H1 at S1 B1 h1
  walk_at "rd"
  refine ⟨by omega, by omega, ?_⟩
  have em : (m : Int).toNat = m := by omega
  rw [em]
  refine lc_range (fun i σ acc G => (∀ x o, x ≠ b → x ≠ p0 → H1 x = some o → G x = some o) ∧ Bx G b (n + i) ∧ (∃ ys, G p0 = some (.lst ys) ∧ ys.length = 12 - i ∧ FVs ys) ∧ acc.length = i ∧ FVs acc ∧ ∃ o, σ = [o, some (.ref p0), some (.ref b)])
    ⟨fun _ _ _ _ e => e, B1, ⟨ys0, h1, ly, fy⟩, rfl, fun v hv => by simp at hv, _, rfl⟩ (fun i σ acc G hi h => by omega) (Nat.le_trans hm (by decide)) (fun i σ acc G hi h => ?_) (fun σ acc G h p hp => ?_)
  · obtain ⟨SG, BG, ⟨ys, hG, hl, hf⟩, ha, hfa, o, rfl⟩ := h
    wp_walk using len_lst hG
    refine ⟨tyV_list hG, ?_⟩
    refine ⟨b, ys.length, n + i, rfl, by omega, by omega, by omega, BG, fun r G2 r0 r1 S2 B2 => ?_⟩
    have hG2 := S2 p0 _ hb0.symm hG
    have rl : r.toNat < ys.length := by omega
    refine ⟨p0, ys, r, r.toNat, ys[r.toNat], rfl, rfl, hG2, by omega, by omega, seq_at r0 r1, by simp [rl], ?_⟩
    refine ⟨fun x o n1 n2 e => ?_, B2.updO hb0, ⟨_, upd_same, ?_, fun v hv => hf v (List.mem_of_mem_eraseIdx hv)⟩, by simp [ha], fun v hv => ?_, _, rfl⟩
    · rw [upd_ne n2]; exact S2 x o n1 (SG x o n1 n2 e)
    · rw [List.length_eraseIdx_of_lt rl]; omega
    · rcases List.mem_append.mp hv with hv | hv
      · exact hfa v hv
      · rw [List.mem_singleton.mp hv]; exact hf _ (List.getElem_mem rl)
  · obtain ⟨SG, BG, ⟨ys, hG, hl, hf⟩, ha, hfa, o, rfl⟩ := h
    have SX : SameX b H G := fun x o n1 e => SG x o n1 (ne_of_none e hp0) (S1 x o e)
    have hbp : b ≠ p := (BG.ne hp).symm
    exact q p acc _ (fresh_back SX hp hbp) ha hfa (SX.trans (SameX.same (same_new' hp _))) upd_same ((BG.updO hbp).mono (by omega))
def spPool : Sp := fun vs H Q _ => ∃ (b : Addr) (m n : Nat), vs = [.ref b, .int (m : Int)] ∧ 1 ≤ m ∧ m ≤ 12 ∧ n < 2 ^ 38 ∧ Bx H b n ∧ ∀ (p : Addr) (xs : List V) (H' : Hp), H p = none → xs ≠ [] → xs.length ≤ 12 → FVs xs → SameX b H H' → H' p = some (.lst xs) → Bx H' b (n + 24) → Q (.ref p) H'
theorem FV.flat {v : V} (h : FV v) : flatV v = true := by rcases h with rfl | ⟨i, rfl, _⟩ | ⟨x, rfl, _⟩ <;> rfl
theorem inV_nil {v : V} : inV v [] = false := rfl
theorem ok__law_pool {f : Addr} {fd : FuncData} (F : Fun K "_law_pool" "_law_pool" s__law_pool f fd) (D__law_value : Def P w K mg base "_law_value" 2 ["_law_box_here"] spValue) (z_range : mg "range" = none) : FnOk P w K mg base CX0 3 f fd ["_law_box_here", "_law_many_here"] spPool := by
  obtain ⟨f__law_value, fd__law_value, G__law_value, b__law_value, kp__law_value, m__law_value⟩ := D__law_value
  refine F.ok sc__law_pool (fun vs H Q E h => ?_) (fun cdv A outer s H vs Q E hr h => ?_)
  · obtain ⟨b, m, n, rfl, hm1, hm, hn, hB, q⟩ := h
    rfl
  obtain ⟨b, m, n, rfl, hm1, hm, hn, hB, q⟩ := h
  have hu := hr.units
  have hgd := hr.gd
  refine by_Q (qss_cons (qs_set (i := 2) sc__law_pool.nd rfl (Or.inl rfl) (qe_lst qa_nil))
      (qss_cons (qs_for PassesOwn.never rfl (qi_range1 rfl z_range (qa_c (qv 1) qa_nil)) (qg_name (i := 3) sc__law_pool.nd rfl (Or.inl rfl)) (qss_cons (qs_set (i := 4) sc__law_pool.nd rfl (Or.inl rfl) (qe_callU G__law_value (hr.mono (by omega)) rfl m__law_value kp__law_value b__law_value .nil pass0 (qa_c (qv 0) qa_nil)))
      (qss_one (qs_if (qt_op_notIn_seq (Kq := K) rfl (qv 4) (qv 2) (by with_unfolding_all rfl)) (qss_one (qs_expr (qe_append (Kq := K) rfl (qv 2) (qv 4)))) qss_nil))))
      (qss_one (qs_ret (qv 2))))) ?_
  refine seq_step fun k1 hk1 => ?_
  walk_at "rd"
  refine ⟨by decide, fun p0 hp0 => ?_⟩
  refine hk1 _ _ ?_
  have hb0 : b ≠ p0 := (hB.ne hp0).symm
  have S1 := same_new' hp0 (.lst [])
  have B1 : Bx (upd H p0 (.lst [])) b n := hB.updO hb0
  have h1 : upd H p0 (.lst []) p0 = some (.lst []) := upd_same
  generalize upd H p0 (.lst []) = H1 at S1 B1 h1
  refine seq_step fun k2 hk2 => ?_
  walk_at "rd"
  refine ⟨by omega, by omega, ?_⟩
  have em : (m : Int).toNat = m := by omega
  rw [em]
  refine forW_rng (fun i σ G => (∀ x o, x ≠ b → x ≠ p0 → H1 x = some o → G x = some o) ∧ Bx G b (n + 2 * i) ∧ (∃ ys, G p0 = some (.lst ys) ∧ ys.length ≤ i ∧ FVs ys ∧ (1 ≤ i → ys ≠ [])) ∧ ∃ o1 o2, σ = [some (.ref b), some (.int (m : Int)), some (.ref p0), o1, o2])
    ⟨fun _ _ _ _ e => e, B1, ⟨[], h1, Nat.le_refl _, fun v hv => by simp at hv, fun h => absurd h (by decide)⟩, _, _, rfl⟩ (fun i σ G hi h => ?_) (fun σ G h => ?_)
  · obtain ⟨SG, BG, ⟨ys, hG, hl, hf, hne⟩, o1, o2, rfl⟩ := h
    walk_at "rd"
    refine ⟨b, n + 2 * i, rfl, by omega, BG, fun v G2 fv S2 B2 => ?_⟩
    have hG2 := S2 p0 _ hb0.symm hG
    wp_walk using rIn
    refine ⟨ys, .inl (SqL.of hG2), fv.flat, List.all_eq_true.mpr fun u hu => (hf u hu).flat, ?_⟩
    cases hin : inV v ys with
    | true =>
      walk_at "rd"
      refine ⟨fun x o n1 n2 e => S2 x o n1 (SG x o n1 n2 e), B2.mono (by omega), ⟨ys, hG2, by omega, hf, fun _ e => ?_⟩, _, rfl⟩
      rw [e, inV_nil] at hin
      cases hin
    | false =>
      walk_at "rd"
      refine ⟨tyV_list hG2, ys, hG2, Nat.lt_of_le_of_lt (by omega : _ ≤ 12) (by decide), fun x o n1 n2 e => ?_, (B2.updO hb0).mono (by omega), ⟨by simp; omega, fun u hu => ?_, by simp⟩, _, rfl⟩
      · rw [upd_ne n2]; exact S2 x o n1 (SG x o n1 n2 e)
      · rcases List.mem_append.mp hu with hu | hu
        · exact hf u hu
        · rw [List.mem_singleton.mp hu]; exact fv
  · obtain ⟨SG, BG, ⟨ys, hG, hl, hf, hne⟩, o1, o2, rfl⟩ := h
    refine hk2 _ _ ?_
    walk_at "rd"
    exact q p0 ys G hp0 (hne hm1) (by omega) hf (fun x o n1 e => SG x o n1 (ne_of_none e hp0) (S1 x o e)) hG (BG.mono (by omega))
end
end K
namespace K
open PySem L2
local macro_rules | `(tactic| walk_at "rd") => `(tactic| simp only [tSeq, tIfS, tTest, tB, tOp, tUn, tVar, tC, tAsg, gName, gSub, tRet, tRetN, tDrop, tNext, tNil, tCons, tCB, tCall, tTup, tLst, tNot, tAnd, tOr, tNotV, tAndV, tOrV, tIf, rIxF, rI0, rI, rU, rSetL, rCat, rRep, rEq, rNe, L2.start, List.map_cons, List.map_nil, List.cons_append, List.nil_append, List.append_nil, List.length_cons, List.length_nil, List.replicate, List.getElem?_cons_zero, List.getElem?_cons_succ, List.set_cons_zero, List.set_cons_succ, V.int.injEq, V.ref.injEq, V.bl.injEq, V.str.injEq, V.ty.injEq, Option.some.injEq, List.cons.injEq, reduceCtorEq, exists_eq_left', exists_eq_left, exists_eq_right, exists_eq_right', exists_and_left, false_and, and_false, true_and, and_true, exists_false, exists_const, or_false, false_or, scal, decide_eq_true_eq, upd_same, Nat.zero_add, Nat.reduceAdd, Nat.reduceSub, HO.lst.injEq, HO.tup.injEq, atI_0, atI_1, atI_2, atI_3, ixN_30, ixN_31, ixN_32, Int.reduceNeg, tK, tBM, rAppF, rr_isi, rr_isi2, rr_lenF, rr_abs, rr_int_i, rr_int_b, rr_any, rr_all, rr_sum, rr_strI, rr_strD, rr_tuple, rr_list, kv_non, kv_bl, kv_int, kv_str, sk_NoneType_int, sk_NoneType_str, sk_NoneType_bool, sk_NoneType_list, sk_NoneType_tuple, sk_bool_int, sk_bool_str, sk_bool_bool, sk_bool_list, sk_bool_tuple, sk_int_int, sk_int_str, sk_int_bool, sk_int_list, sk_int_tuple, sk_str_int, sk_str_str, sk_str_bool, sk_str_list, sk_str_tuple, sk_list_int, sk_list_str, sk_list_bool, sk_list_list, sk_list_tuple, sk_tuple_int, sk_tuple_str, sk_tuple_bool, sk_tuple_list, sk_tuple_tuple, decide_true, decide_false, Bool.false_eq_true, if_true, if_false, ite_true, ite_false, ne_eq, not_false_eq_true, not_true_eq_false, Bool.not_true, Bool.not_false, lw_seq, lw_rng, fw_seq, fw_rng, tYes, cst, Option.map_some, Option.map_none, Option.bind_some, Option.bind_none, Option.getD_some, Option.getD_none, Option.bind_eq_bind, Option.join_some, Option.join_none, tNever, List.getD_cons_zero, List.getD_cons_succ, List.getElem?_nil, tMM, rSetK, rLenSet, fw_zip, lw_zip, fw_enum, lw_enum, tPar, tPar3, tSl, tNoPart, tPart, rCat2, rSlL, exP2])
local macro_rules | `(tactic| wp_walk using $ts,*) => `(tactic| simp only [tSeq, tIfS, tTest, tB, tOp, tUn, tVar, tC, tAsg, gName, gSub, tRet, tRetN, tDrop, tNext, tNil, tCons, tCB, tCall, tTup, tLst, tNot, tAnd, tOr, tNotV, tAndV, tOrV, tIf, rIxF, rI0, rI, rU, rSetL, rCat, rRep, rEq, rNe, L2.start, List.map_cons, List.map_nil, List.cons_append, List.nil_append, List.append_nil, List.length_cons, List.length_nil, List.replicate, List.getElem?_cons_zero, List.getElem?_cons_succ, List.set_cons_zero, List.set_cons_succ, V.int.injEq, V.ref.injEq, V.bl.injEq, V.str.injEq, V.ty.injEq, Option.some.injEq, List.cons.injEq, reduceCtorEq, exists_eq_left', exists_eq_left, exists_eq_right, exists_eq_right', exists_and_left, false_and, and_false, true_and, and_true, exists_false, exists_const, or_false, false_or, scal, decide_eq_true_eq, upd_same, Nat.zero_add, Nat.reduceAdd, Nat.reduceSub, HO.lst.injEq, HO.tup.injEq, atI_0, atI_1, atI_2, atI_3, ixN_30, ixN_31, ixN_32, Int.reduceNeg, tK, tBM, rAppF, rr_isi, rr_isi2, rr_lenF, rr_abs, rr_int_i, rr_int_b, rr_any, rr_all, rr_sum, rr_strI, rr_strD, rr_tuple, rr_list, kv_non, kv_bl, kv_int, kv_str, sk_NoneType_int, sk_NoneType_str, sk_NoneType_bool, sk_NoneType_list, sk_NoneType_tuple, sk_bool_int, sk_bool_str, sk_bool_bool, sk_bool_list, sk_bool_tuple, sk_int_int, sk_int_str, sk_int_bool, sk_int_list, sk_int_tuple, sk_str_int, sk_str_str, sk_str_bool, sk_str_list, sk_str_tuple, sk_list_int, sk_list_str, sk_list_bool, sk_list_list, sk_list_tuple, sk_tuple_int, sk_tuple_str, sk_tuple_bool, sk_tuple_list, sk_tuple_tuple, decide_true, decide_false, Bool.false_eq_true, if_true, if_false, ite_true, ite_false, ne_eq, not_false_eq_true, not_true_eq_false, Bool.not_true, Bool.not_false, lw_seq, lw_rng, fw_seq, fw_rng, tYes, cst, Option.map_some, Option.map_none, Option.bind_some, Option.bind_none, Option.getD_some, Option.getD_none, Option.bind_eq_bind, Option.join_some, Option.join_none, tNever, List.getD_cons_zero, List.getD_cons_succ, List.getElem?_nil, tMM, rSetK, rLenSet, fw_zip, lw_zip, fw_enum, lw_enum, tPar, tPar3, tSl, tNoPart, tPart, rCat2, rSlL, exP2, $[$ts:term],*])
section
variable {P : Program} {w : World} {K : PySem.W.Frag} {mg : Str → Option Value} {base : Heap}
def spTuples : Sp := fun vs H Q _ => ∃ (b : Addr) (wd m n : Nat), vs = [.ref b, .int (wd : Int), .int (m : Int)] ∧ wd ≤ 9 ∧ m ≤ 12 ∧ n < 2 ^ 37 ∧ Bx H b n ∧ ∀ (p : Addr) (rs : List V) (ts : List (List V)) (H' : Hp), H p = none → TrL H' (ts.map tupD) rs → ts.length ≤ 12 → (∀ t ∈ ts, FVs t ∧ t.length = wd) → SameX b H H' → H' p = some (.lst rs) → Bx H' b (n + 200) → Q (.ref p) H'
theorem tups_ok {ts : List (List V)} {wd : Nat} (hw : wd ≤ 9) (h : ∀ t ∈ ts, FVs t ∧ t.length = wd) : PyData.canLayAll0 (ts.map tupD) = true ∧ noLs (ts.map tupD) = true := by
  have g := Goods.of (n := 1) (w := 17311) (ds := ts.map tupD) fun d hd => by
    obtain ⟨t, ht, rfl⟩ := List.mem_map.mp hd
    exact tupD_good (h t ht).1 (by rw [(h t ht).2]; exact hw)
  exact ⟨g.lay, g.noL⟩
theorem SameX.t {b : Addr} {H H' : Hp} (S : SameX b H H') {n : Nat} (B : Bx H b n) : SameT H H' := fun x xs e => by
  obtain ⟨u, y, z, h, _⟩ := B
  refine S x _ ?_ e
  intro z; rw [z, h] at e; cases e
theorem ok__law_tuples {f : Addr} {fd : FuncData} (F : Fun K "_law_tuples" "_law_tuples" s__law_tuples f fd) (D__law_take : Def P w K mg base "_law_take" 1 ["_law_box_here", "_law_many_here"] spTake) (D__law_pool : Def P w K mg base "_law_pool" 3 ["_law_box_here", "_law_many_here"] spPool) (z_len : mg "len" = none) (z_range : mg "range" = none) (z_tuple : mg "tuple" = none) : FnOk P w K mg base CX0 4 f fd ["_law_box_here", "_law_wide_here", "_law_many_here"] spTuples := by
  obtain ⟨f__law_take, fd__law_take, G__law_take, b__law_take, kp__law_take, m__law_take⟩ := D__law_take
  obtain ⟨f__law_pool, fd__law_pool, G__law_pool, b__law_pool, kp__law_pool, m__law_pool⟩ := D__law_pool
  refine F.ok sc__law_tuples (fun vs H Q E h => ?_) (fun cdv A outer s H vs Q E hr h => ?_)
  · obtain ⟨b, wd, m, n, rfl, hwd, hm, hn, hB, q⟩ := h
    rfl
  obtain ⟨b, wd, m, n, rfl, hwd, hm, hn, hB, q⟩ := h
  have hu := hr.units
  have hgd := hr.gd
  refine by_Q (qss_cons (qs_set (i := 3) sc__law_tuples.nd rfl (Or.inr rfl) (qe_callU G__law_pool (hr.mono (by omega)) rfl m__law_pool kp__law_pool b__law_pool .nil pass0 (qa_c (qv 0) (qa_c qe_int qa_nil))))
      (qss_cons (qs_set (i := 4) sc__law_tuples.nd rfl (Or.inl rfl) (qe_lst qa_nil))
      (qss_cons (qs_for PassesOwn.never rfl (qi_range1 rfl z_range (qa_c (qv 2) qa_nil)) (qg_name (i := 5) sc__law_tuples.nd rfl (Or.inl rfl)) (qss_cons (qs_set (i := 6) sc__law_tuples.nd rfl (Or.inl rfl) (qe_call_tuple_of (Kq := K) rfl rfl z_tuple (qa_c (by exact (qe_lc (N' := ["_law_k", "_law_pool_here", "_law_box_here"]) (idx := [none, some 3, some 0]) (lcs_of rfl rfl (by decide +kernel) rfl rfl rfl) rfl (qi_range1 rfl z_range (qa_c (qv 1) qa_nil)) (fun _ _ _ _ _ => by exact (qg_name (i := 0) (by show (["_law_k", "_law_pool_here", "_law_box_here"] : List Str).Nodup; decide +kernel) rfl (Or.inl rfl))) (fun _ _ _ _ _ => by exact qts_nil) (fun _ _ _ _ _ => by exact (qe_ixF (qv 1) (qe_callU G__law_take (hr.mono (by omega)) rfl m__law_take kp__law_take b__law_take .nil pass0 (qa_c (qv 2) (qa_c (qe_call_lenF (Kq := K) rfl rfl z_len (qa_c (qv 1) qa_nil)) qa_nil))) plain_call)))) qa_nil)))
      (qss_one (qs_if (qt_op_notInD hu (qv 6) (qv 4) (by with_unfolding_all rfl)) (qss_one (qs_expr (qe_append (Kq := K) rfl (qv 4) (qv 6)))) qss_nil))))
      (qss_one (qs_ret (qv 4)))))) ?_
  refine seq_step fun k1 hk1 => ?_
  walk_at "rd"
  refine ⟨b, 6, n, rfl, by decide, by decide, by omega, hB, fun pp pool H1 hpp ne pl fp S1 h1 B1 => ?_⟩
  refine hk1 _ _ ?_
  have hbpp : b ≠ pp := by
    intro z
    obtain ⟨o, e⟩ := hB.some
    rw [z, hpp] at e; cases e
  have ppos : 0 < pool.length := List.length_pos_iff.mpr ne
  refine seq_step fun k2 hk2 => ?_
  walk_at "rd"
  refine ⟨by decide, fun p0 hp0 => ?_⟩
  refine hk2 _ _ ?_
  have hb0 : b ≠ p0 := (B1.ne hp0).symm
  have hpp0 : pp ≠ p0 := ne_of_none h1 hp0
  have hf0 : H p0 = none := fresh_back S1 hp0 hb0
  have S2 : SameX b H (upd H1 p0 (.lst [])) := S1.trans (SameX.same (same_new' hp0 _))
  have B2 : Bx (upd H1 p0 (.lst [])) b (n + 24) := B1.updO hb0
  have h2 : upd H1 p0 (.lst []) p0 = some (.lst []) := upd_same
  have h1' : upd H1 p0 (.lst []) pp = some (.lst pool) := same_new' hp0 _ _ _ h1
  generalize upd H1 p0 (.lst []) = H2 at S2 B2 h2 h1'
  refine seq_step fun k3 hk3 => ?_
  walk_at "rd"
  refine ⟨by omega, by omega, ?_⟩
  have em : (m : Int).toNat = m := by omega
  rw [em]
  refine forW_rng (fun i σ G => (∀ x o, x ≠ b → x ≠ p0 → H2 x = some o → G x = some o) ∧ Bx G b (n + 24 + 9 * i) ∧ (∃ (rs : List V) (ts : List (List V)), G p0 = some (.lst rs) ∧ TrL G (ts.map tupD) rs ∧ ts.length ≤ i ∧ ∀ t ∈ ts, FVs t ∧ t.length = wd) ∧ ∃ o1 o2, σ = [some (.ref b), some (.int (wd : Int)), some (.int (m : Int)), some (.ref pp), some (.ref p0), o1, o2])
    ⟨fun _ _ _ _ e => e, B2, ⟨[], [], h2, rfl, Nat.le_refl _, fun v hv => by simp at hv⟩, _, _, rfl⟩ (fun i σ G hi h => ?_) (fun σ G h => ?_)
  · obtain ⟨SG, BG, ⟨rs, ts, hG, tG, hl, hf⟩, o1, o2, rfl⟩ := h
    have hi12 : i < 12 := by omega
    have hpG : G pp = some (.lst pool) := SG pp _ hbpp.symm hpp0 h1'
    refine seq_step fun k4 hk4 => ?_
    walk_at "rd"
    refine ⟨by omega, by omega, ?_⟩
    have ew : (wd : Int).toNat = wd := by omega
    rw [ew]
    refine lc_range (fun j σ acc G2 => SameX b G G2 ∧ Bx G2 b (n + 24 + 9 * i + j) ∧ acc.length = j ∧ FVs acc ∧ ∃ o, σ = [o, some (.ref pp), some (.ref b)]) ⟨SameX.refl _ _, BG, rfl, fun v hv => by simp at hv, _, rfl⟩ (fun j σ acc G2 hj h => by omega) (Nat.le_trans hwd (by decide)) (fun j σ acc G2 hj h => ?_) (fun σ acc G2 h pl0 hpl => ?_)
    · obtain ⟨S3, B3, ha, hfa, o, rfl⟩ := h
      have hp2 := S3 pp _ hbpp.symm hpG
      wp_walk using len_lst hp2
      refine ⟨b, pool.length, n + 24 + 9 * i + j, rfl, by omega, by omega, by omega, B3, fun r G3 r0 r1 S4 B4 => ?_⟩
      obtain ⟨v, e, fv⟩ := ix_draw (Pv := FV) (S4 pp _ hbpp.symm hp2) r0 r1 fp
      refine ⟨v, e, S3.trans S4, B4, by simp [ha], fun u hu => ?_, _, rfl⟩
      rcases List.mem_append.mp hu with hu | hu
      · exact hfa u hu
      · rw [List.mem_singleton.mp hu]; exact fv
    · obtain ⟨S3, B3, ha, hfa, o, rfl⟩ := h
      walk_at "rd"
      have T1 := same_new' hpl (.lst acc)
      refine ⟨acc, .inl ⟨SqL.of upd_same, fun pt hpt => ?_⟩⟩
      have T2 := same_new' hpt (.tup acc)
      refine hk4 _ _ ?_
      have S5 : SameX b G (upd (upd G2 pl0 (.lst acc)) pt (.tup acc)) := S3.trans (SameX.same (T1.trans T2))
      have B5 : Bx (upd (upd G2 pl0 (.lst acc)) pt (.tup acc)) b (n + 24 + 9 * i + wd) := B3.same (T1.trans T2)
      have h5 : upd (upd G2 pl0 (.lst acc)) pt (.tup acc) pt = some (.tup acc) := upd_same
      generalize upd (upd G2 pl0 (.lst acc)) pt (.tup acc) = G5 at S5 B5 h5
      have hG5 := S5 p0 _ hb0.symm hG
      obtain ⟨lay, nol⟩ := tups_ok hwd hf
      have tG5 := tG.sameT (S5.t BG) nol
      have tt := tupD_tr hfa h5
      have gt := tupD_good (k := 9) hfa (by omega)
      wp_walk using rInD
      refine ⟨tupD acc, tt, ts.map tupD, .inl ⟨p0, rs, rfl, hG5, tG5⟩, gt.flat (by decide), lay, ?_⟩
      have SS : ∀ x o, x ≠ b → x ≠ p0 → H2 x = some o → G5 x = some o := fun x o n1 n2 e => S5 x o n1 (SG x o n1 n2 e)
      have rl := tG.length
      rw [List.length_map] at rl
      cases hin : (ts.map tupD).any (fun e => PyData.eqv e (tupD acc)) with
      | true =>
        walk_at "rd"
        exact ⟨SS, B5.mono (by omega), ⟨rs, hG5, ts, tG5, by omega, hf⟩, _, rfl⟩
      | false =>
        walk_at "rd"
        refine ⟨tyV_list hG5, rs, hG5, Nat.lt_of_le_of_lt (by omega : _ ≤ 12) (by decide), fun x o n1 n2 e => ?_, (B5.updO hb0).mono (by omega), ?_⟩
        · rw [upd_ne n2]; exact SS x o n1 n2 e
        · refine ⟨⟨ts ++ [acc], out_more (H := H) Same.refl hG5 tG5 (fun o ho => (hf o ho).1) hfa h5, by simp; omega, fun t ht => ?_⟩, _, rfl⟩
          rcases List.mem_append.mp ht with ht | ht
          · exact hf t ht
          · rw [List.mem_singleton.mp ht]; exact ⟨hfa, ha⟩
  · obtain ⟨SG, BG, ⟨rs, ts, hG, tG, hl, hf⟩, o1, o2, rfl⟩ := h
    refine hk3 _ _ ?_
    walk_at "rd"
    exact q p0 rs ts G hf0 tG (by omega) hf (fun x o n1 e => SG x o n1 (ne_of_none e hf0) (S2 x o n1 e)) hG (BG.mono (by omega))
theorem keepT {b p : Addr} {G G2 : Hp} {n : Nat} {l : List V} (S : ∀ x o, x ≠ b → x ≠ p → G x = some o → G2 x = some o) (B : Bx G b n) (h : G p = some (.lst l)) : SameT G G2 := fun x xs e => by
  obtain ⟨u, y, z, hb, _⟩ := B
  refine S x _ ?_ ?_ e
  · intro z; rw [z, hb] at e; cases e
  · intro z; rw [z, h] at e; cases e
theorem cut_fv {xs : List V} {lo hi : Option Int} (h : FVs xs) : FVs (cutV xs lo hi) := fun v hv => h v (List.mem_of_mem_drop (List.mem_of_mem_take hv))
theorem cellD_tr {H : Hp} {c : Option (List V)} {v : V} (h : FVc c) (e : c = none ∧ v = .non ∨ ∃ vs p, c = some vs ∧ v = .ref p ∧ H p = some (.tup vs)) : Tr H (cellD c) v := by
  rcases e with ⟨rfl, rfl⟩ | ⟨vs, p, rfl, rfl, e⟩
  · rfl
  · exact tupD_tr (h vs rfl).1 e
theorem cells_noL {cs : List (Option (List V))} (h : ∀ c ∈ cs, FVc c) : noLs (cs.map cellD) = true := noLs_of fun d hd => by
  obtain ⟨c, hc, rfl⟩ := List.mem_map.mp hd
  exact (cellD_good (h c hc)).noL
theorem rows_noL {n : Nat} {rs : List (List V × List (Option (List V)))} (hn : n ≤ 12) (h : ∀ r ∈ rs, RowOk n r) : noLs (rs.map rowD) = true := noLs_of fun d hd => by
  obtain ⟨c, hc, rfl⟩ := List.mem_map.mp hd
  exact (rowD_good (h c hc) hn).noL
theorem ie {r : Int} (h : 0 ≤ r) : r = ((r.toNat : Nat) : Int) := by omega
def spWide : Sp := fun vs H Q _ => ∃ (b : Addr) (n : Nat), vs = [.ref b, .bl false] ∧ n < 2 ^ 36 ∧ Bx H b n ∧ ∀ (r : V) (W : Wd) (H' : Hp), Tr H' W.d r → W.Ok → SameX b H H' → Bx H' b (n + 4000) → Q r H'
theorem ok__law_wide {f : Addr} {fd : FuncData} (F : Fun K "_law_wide" "_law_wide" s__law_wide f fd) (D__law_take : Def P w K mg base "_law_take" 1 ["_law_box_here", "_law_many_here"] spTake) (D__law_many : Def P w K mg base "_law_many" 2 ["_law_box_here", "_law_least", "_law_few", "_law_most"] spMany) (D__law_names : Def P w K mg base "_law_names" 2 ["_law_box_here", "_law_many_here"] spNames) (D__law_value : Def P w K mg base "_law_value" 2 ["_law_box_here"] spValue) (D__law_number : Def P w K mg base "_law_number" 2 ["_law_box_here"] spNumber) (D__law_tuples : Def P w K mg base "_law_tuples" 4 ["_law_box_here", "_law_wide_here", "_law_many_here"] spTuples) (z_tuple : mg "tuple" = none) : FnOk P w K mg base CX0 5 f fd ["_law_box_here", "_law_numbers"] spWide := by
  obtain ⟨f__law_take, fd__law_take, G__law_take, b__law_take, kp__law_take, m__law_take⟩ := D__law_take
  obtain ⟨f__law_many, fd__law_many, G__law_many, b__law_many, kp__law_many, m__law_many⟩ := D__law_many
  obtain ⟨f__law_names, fd__law_names, G__law_names, b__law_names, kp__law_names, m__law_names⟩ := D__law_names
  obtain ⟨f__law_value, fd__law_value, G__law_value, b__law_value, kp__law_value, m__law_value⟩ := D__law_value
  obtain ⟨f__law_number, fd__law_number, G__law_number, b__law_number, kp__law_number, m__law_number⟩ := D__law_number
  obtain ⟨f__law_tuples, fd__law_tuples, G__law_tuples, b__law_tuples, kp__law_tuples, m__law_tuples⟩ := D__law_tuples
  refine F.ok sc__law_wide (fun vs H Q E h => ?_) (fun cdv A outer s H vs Q E hr h => ?_)
  · obtain ⟨b, n, rfl, hn, hB, q⟩ := h
    rfl
  obtain ⟨b, n, rfl, hn, hB, q⟩ := h
  have hu := hr.units
  have hgd := hr.gd
  refine by_Q (qss_cons (qs_set (i := 2) sc__law_wide.nd rfl (Or.inl rfl) (qe_callU G__law_names (hr.mono (by omega)) rfl m__law_names kp__law_names b__law_names .nil pass0 (qa_c (qv 0) (qa_c qe_int qa_nil))))
      (qss_cons (qs_par3 (i := 3) (j := 4) (k := 5) rfl sc__law_wide.nd rfl rfl rfl (by decide) (by decide) (by decide) rfl rfl rfl (qa_c (qe_callU G__law_take (hr.mono (by omega)) rfl m__law_take kp__law_take b__law_take .nil pass0 (qa_c (qv 0) (qa_c qe_int qa_nil))) (qa_c (qe_callU G__law_take (hr.mono (by omega)) rfl m__law_take kp__law_take b__law_take .nil pass0 (qa_c (qv 0) (qa_c qe_int qa_nil))) (qa_c (qe_op_add qe_int (qe_callU G__law_take (hr.mono (by omega)) rfl m__law_take kp__law_take b__law_take .nil pass0 (qa_c (qv 0) (qa_c qe_int qa_nil)))) qa_nil))) rfl)
      (qss_cons (qs_if (qt_op_eq (qe_callU G__law_take (hr.mono (by omega)) rfl m__law_take kp__law_take b__law_take .nil pass0 (qa_c (qv 0) (qa_c qe_int qa_nil))) qe_int) (qss_one (qs_set (i := 5) sc__law_wide.nd rfl (Or.inl rfl) (qe_op_add qe_int (qe_callU G__law_take (hr.mono (by omega)) rfl m__law_take kp__law_take b__law_take .nil pass0 (qa_c (qv 0) (qa_c qe_int qa_nil)))))) qss_nil)
      (qss_cons (qs_par (i := 6) (j := 7) rfl sc__law_wide.nd rfl rfl (by decide) rfl rfl (qa_c (qe_slice sl_list (qv 2) qo_none (qo_some (qv 3))) (qa_c (qe_slice sl_list (qv 2) (qo_some (qv 3)) (qo_some (qe_op_add (qv 3) (qv 4)))) qa_nil)) rfl)
      (qss_cons (qs_set (i := 8) sc__law_wide.nd rfl (Or.inl rfl) (qe_slice sl_list (qv 2) (qo_some (qe_op_add (qv 3) (qv 4))) (qo_some (qe_op_add (qe_op_add (qv 3) (qv 4)) (qv 5)))))
      (qss_cons (qs_set (i := 9) sc__law_wide.nd rfl (Or.inl rfl) (qe_callU G__law_tuples (hr.mono (by omega)) rfl m__law_tuples kp__law_tuples b__law_tuples .nil pass0 (qa_c (qv 0) (qa_c (qv 4) (qa_c (qe_callU G__law_many (hr.mono (by omega)) rfl m__law_many kp__law_many b__law_many .nil pass0 (qa_c (qv 0) (qa_c qe_int (qa_c qe_int (qa_c qe_int qa_nil))))) qa_nil)))))
      (qss_cons (qs_set (i := 10) sc__law_wide.nd rfl (Or.inl rfl) (qe_ixF (qe_lst (qa_c qe_int (qa_c qe_int (qa_c qe_int qa_nil)))) (qe_callU G__law_take (hr.mono (by omega)) rfl m__law_take kp__law_take b__law_take .nil pass0 (qa_c (qv 0) (qa_c qe_int qa_nil))) plain_call))
      (qss_cons (qs_set (i := 11) sc__law_wide.nd rfl (Or.inl rfl) (qe_lst qa_nil))
      (qss_cons (qs_for PassesOwn.never rfl (qi_seq (Kq := K) rfl (qe_callU G__law_tuples (hr.mono (by omega)) rfl m__law_tuples kp__law_tuples b__law_tuples .nil pass0 (qa_c (qv 0) (qa_c (qv 3) (qa_c (qe_callU G__law_many (hr.mono (by omega)) rfl m__law_many kp__law_many b__law_many .nil pass0 (qa_c (qv 0) (qa_c qe_int (qa_c qe_int (qa_c qe_int qa_nil))))) qa_nil))))) (qg_name (i := 12) sc__law_wide.nd rfl (Or.inl rfl)) (qss_cons (qs_set (i := 13) sc__law_wide.nd rfl (Or.inl rfl) (qe_lst qa_nil))
      (qss_cons (qs_for PassesOwn.never rfl (qi_seq (Kq := K) rfl (qv 9)) (qg_name (i := 14) sc__law_wide.nd rfl (Or.inl rfl)) (qss_cons (qs_set (i := 15) sc__law_wide.nd rfl (Or.inl rfl) (qe_call_tuple_of (Kq := K) rfl rfl z_tuple (qa_c (by exact (qe_lc (N' := ["_law_name", "_law_numbers", "_law_box_here"]) (idx := [none, some 1, some 0]) (lcs_of rfl rfl (by decide +kernel) rfl rfl rfl) rfl (qi_seq (Kq := K) rfl (qv 8)) (fun _ _ _ _ _ => by exact (qg_name (i := 0) (by show (["_law_name", "_law_numbers", "_law_box_here"] : List Str).Nodup; decide +kernel) rfl (Or.inl rfl))) (fun _ _ _ _ _ => by exact qts_nil) (fun _ _ _ _ _ => by exact (qe_ifExp (qt_val (qv 1)) (qe_callU G__law_number (hr.mono (by omega)) rfl m__law_number kp__law_number b__law_number .nil pass0 (qa_c (qv 2) qa_nil)) (qe_callU G__law_value (hr.mono (by omega)) rfl m__law_value kp__law_value b__law_value .nil pass0 (qa_c (qv 2) qa_nil)))))) qa_nil)))
      (qss_one (qs_expr (qe_append (Kq := K) rfl (qv 13) (qe_ifExp (qt_op_eq (qe_callU G__law_take (hr.mono (by omega)) rfl m__law_take kp__law_take b__law_take .nil pass0 (qa_c (qv 0) (qa_c (qv 10) qa_nil))) qe_int) qe_non (qv 15)))))))
      (qss_one (qs_expr (qe_append (Kq := K) rfl (qv 11) (qe_tup (qa_c (qv 12) (qa_c (qe_call_tuple_of (Kq := K) rfl rfl z_tuple (qa_c (qv 13) qa_nil)) qa_nil)))))))))
      (qss_one (qs_ret (qe_tup (qa_c (qe_call_tuple_of (Kq := K) rfl rfl z_tuple (qa_c (qv 6) qa_nil)) (qa_c (qe_call_tuple_of (Kq := K) rfl rfl z_tuple (qa_c (qv 7) qa_nil)) (qa_c (qe_call_tuple_of (Kq := K) rfl rfl z_tuple (qa_c (qv 8) qa_nil)) (qa_c (qe_call_tuple_of (Kq := K) rfl rfl z_tuple (qa_c (qv 9) qa_nil)) (qa_c (qe_call_tuple_of (Kq := K) rfl rfl z_tuple (qa_c (qv 11) qa_nil)) qa_nil))))))))))))))))) ?_
  refine seq_step fun k1 hk1 => ?_
  walk_at "rd"
  refine ⟨b, 9, n, rfl, by decide, by omega, hB, fun pn names H1 hpn nl fn S1 h1 B1 => ?_⟩
  refine hk1 _ _ ?_
  refine seq_step fun k2 hk2 => ?_
  walk_at "rd"
  refine ⟨b, 3, n + 12, rfl, by decide, by decide, by omega, B1, fun ra H2 a0 a1 S2 B2 => ?_⟩
  refine ⟨b, 3, n + 13, rfl, by decide, by decide, by omega, B2, fun rb H3 b0 b1 S3 B3 => ?_⟩
  refine ⟨b, 2, n + 14, rfl, by decide, by decide, by omega, B3, fun rc H4 c0 c1 S4 B4 => ?_⟩
  walk_at "rd"
  refine ⟨_, _, _, ⟨rfl, rfl, rfl⟩, ?_⟩
  refine hk2 _ _ ?_
  have hbn : b ≠ pn := by
    intro z
    obtain ⟨o, e⟩ := hB.some
    rw [z, hpn] at e; cases e
  have SX4 := S1.trans (S2.trans (S3.trans S4))
  have hn4 := (S2.trans (S3.trans S4)) pn _ hbn.symm h1
  refine seq_step fun k3 hk3 => ?_
  suffices rest : ∀ (vc : Int) (G : Hp), SameX b H4 G → Bx G b (n + 17) → k3 [some (.ref b), some (.bl false), some (.ref pn), some (.int ra), some (.int rb), some (.int vc), none, none, none, none, none, none, none, none, none, none] G by
    walk_at "rd"
    refine ⟨b, 8, n + 15, rfl, by decide, by decide, by omega, B4, fun r8 H5 _ _ S5 B5 => ?_⟩
    walk_at "rd"
    refine ite2 (fun c => ?_) (fun c => ?_)
    · refine ⟨b, 3, n + 16, rfl, by decide, by decide, by omega, B5, fun r9 H6 _ _ S6 B6 => ?_⟩
      walk_at "rd"
      exact rest _ _ (S5.trans S6) B6
    · exact rest _ _ S5 (B5.mono (by omega))
  intro vc G SG BG
  refine hk3 _ _ ?_
  have hnG := SG pn _ hbn.symm hn4
  have SXG := SX4.trans SG
  refine seq_step fun k4 hk4 => ?_
  walk_at "rd"
  refine ⟨names, SqL.of hnG, fun ps hps => ⟨names, SqL.of (same_new' hps _ _ _ hnG), fun po hpo => ?_⟩⟩
  refine ⟨_, _, ⟨rfl, rfl⟩, ?_⟩
  refine hk4 _ _ ?_
  have T1 := same_new' hps (.lst (cutV names none (some ra)))
  have T2 := same_new' hpo (.lst (cutV names (some ra) (some (ra + rb))))
  have g1 : upd (upd G ps (.lst (cutV names none (some ra)))) po (.lst (cutV names (some ra) (some (ra + rb)))) ps = some (.lst (cutV names none (some ra))) := T2 _ _ upd_same
  have g2 : upd (upd G ps (.lst (cutV names none (some ra)))) po (.lst (cutV names (some ra) (some (ra + rb)))) po = some (.lst (cutV names (some ra) (some (ra + rb)))) := upd_same
  have TT := T1.trans T2
  generalize upd (upd G ps (.lst (cutV names none (some ra)))) po (.lst (cutV names (some ra) (some (ra + rb)))) = G1 at g1 g2 TT
  have fks : FVs (cutV names none (some ra)) := cut_fv fn
  have fos : FVs (cutV names (some ra) (some (ra + rb))) := cut_fv fn
  have lks := cutV_length names none (some ra)
  have los := cutV_length names (some ra) (some (ra + rb))
  generalize cutV names none (some ra) = stem at g1 fks lks
  generalize cutV names (some ra) (some (ra + rb)) = over at g2 fos los
  refine seq_step fun k5 hk5 => ?_
  walk_at "rd"
  refine ⟨names, SqL.of (TT _ _ hnG), fun pv hpv => ?_⟩
  refine hk5 _ _ ?_
  have fvs : FVs (cutV names (some (ra + rb)) (some (ra + rb + vc))) := cut_fv fn
  have lvs := cutV_length names (some (ra + rb)) (some (ra + rb + vc))
  generalize cutV names (some (ra + rb)) (some (ra + rb + vc)) = vals at fvs lvs
  have T3 := same_new' hpv (.lst vals)
  have g1' := T3 _ _ g1
  have g2' := T3 _ _ g2
  have g3 : upd G1 pv (.lst vals) pv = some (.lst vals) := upd_same
  have SX5 : SameX b H (upd G1 pv (.lst vals)) := SXG.trans (SameX.same (TT.trans T3))
  have B5 : Bx (upd G1 pv (.lst vals)) b (n + 17) := BG.same (TT.trans T3)
  generalize upd G1 pv (.lst vals) = G2 at g1' g2' g3 SX5 B5
  refine seq_step fun k6 hk6 => ?_
  walk_at "rd"
  refine ⟨b, 0, 5, 12, n + 17, rfl, by decide, by decide, by decide, by decide, by decide, by decide, by omega, B5, fun rm G3 m0 m1 S6 B6 => ?_⟩
  walk_at "rd"
  refine ⟨b, rb.toNat, rm.toNat, n + 19, by rw [← ie b0, ← ie m0], by omega, by omega, by omega, B6, fun ph hvs hs G4 hph th lh fh S7 h7 B7 => ?_⟩
  refine hk6 _ _ ?_
  have hbps : b ≠ ps := (BG.ne hps).symm
  have hbpo : b ≠ po := ((BG.same T1).ne hpo).symm
  have hbpv : b ≠ pv := ((BG.same TT).ne hpv).symm
  have hbph : b ≠ ph := by
    intro z
    obtain ⟨o, e⟩ := B6.some
    rw [z, hph] at e; cases e
  have u1 := (S6.trans S7) ps _ hbps.symm g1'
  have u2 := (S6.trans S7) po _ hbpo.symm g2'
  have u3 := (S6.trans S7) pv _ hbpv.symm g3
  have SX7 := SX5.trans (S6.trans S7)
  have hlh : ∀ h ∈ hs, FVs h ∧ h.length ≤ 9 := fun h hh => ⟨(fh h hh).1, by have := (fh h hh).2; omega⟩
  refine seq_step fun k7 hk7 => ?_
  walk_at "rd"
  refine ⟨by decide, fun pf hpf => ?_⟩
  refine ⟨b, 3, n + 219, rfl, by decide, by decide, by omega, B7.same (same_new' hpf _), fun rf G5 r0 r1 S8 B8 => ?_⟩
  have hbpf : b ≠ pf := (B7.ne hpf).symm
  obtain ⟨_, e8, oft, rfl, of0, of1⟩ := ix_draw (Pv := fun v => ∃ i : Int, v = .int i ∧ 0 < i ∧ i < 100) (S8 pf _ hbpf.symm upd_same) r0 r1 (by
    intro v hv
    simp only [List.mem_cons, List.not_mem_nil, or_false] at hv
    rcases hv with rfl | rfl | rfl <;> exact ⟨_, rfl, by decide, by decide⟩)
  refine ⟨_, e8, ?_⟩
  refine hk7 _ _ ?_
  have S9 : SameX b G4 G5 := (SameX.same (same_new' hpf _)).trans S8
  refine seq_step fun k8 hk8 => ?_
  walk_at "rd"
  refine ⟨by decide, fun pr hpr => ?_⟩
  refine hk8 _ _ ?_
  have hbpr : b ≠ pr := (B8.ne hpr).symm
  have T4 := same_new' hpr (.lst [])
  have S10 : SameX b G4 (upd G5 pr (.lst [])) := S9.trans (SameX.same T4)
  have B9 : Bx (upd G5 pr (.lst [])) b (n + 220) := B8.updO hbpr
  have hr0 : upd G5 pr (.lst []) pr = some (.lst []) := upd_same
  have n4 : G4 pr = none := fresh_back S9 hpr hbpr
  have npr : H pr = none := fresh_back SX7 n4 hbpr
  generalize upd G5 pr (.lst []) = G6 at S10 B9 hr0
  refine seq_step fun k9 hk9 => ?_
  walk_at "rd"
  refine ⟨b, 0, 5, 12, n + 220, rfl, by decide, by decide, by decide, by decide, by decide, by decide, by omega, B9, fun rq G7 q0 q1 S11 B11 => ?_⟩
  walk_at "rd"
  refine ⟨b, ra.toNat, rq.toNat, n + 222, by rw [← ie a0, ← ie q0], by omega, by omega, by omega, B11, fun pq pvs pts G8 hpq tp lp fp S12 h12 B12 => ?_⟩
  wp_walk using h12
  have S13 : SameX b G4 G8 := S10.trans (S11.trans S12)
  have v1 := S13 ps _ hbps.symm u1
  have v2 := S13 po _ hbpo.symm u2
  have v3 := S13 pv _ hbpv.symm u3
  have v4 := S13 ph _ hbph.symm h7
  have v5 := (S11.trans S12) pr _ hbpr.symm hr0
  have th8 := th.sameT (S13.t B7) (tups_ok (wd := rb.toNat) (by omega) fh).2
  have hbpq : b ≠ pq := by
    intro z
    obtain ⟨o, e⟩ := B11.some
    rw [z, hpq] at e; cases e
  have hprq : pr ≠ pq := ne_of_none (S11 pr _ hbpr.symm hr0) hpq
  have npvs : noLs (pts.map tupD) = true := (tups_ok (wd := ra.toNat) (by omega) fp).2
  have nhs : noLs (hs.map tupD) = true := (tups_ok (wd := rb.toNat) (by omega) fh).2
  have hpsr : ps ≠ pr := ne_of_none u1 n4
  have hpor : po ≠ pr := ne_of_none u2 n4
  have hpvr : pv ≠ pr := ne_of_none u3 n4
  have hphr : ph ≠ pr := ne_of_none h7 n4
  refine forW_lst (xs := pvs) (fun k σ G => (∀ x o, x ≠ b → x ≠ pr → G8 x = some o → G x = some o) ∧ Bx G b (n + 422 + 240 * k) ∧ (∃ (rvs : List V) (rows : List (List V × List (Option (List V)))), G pr = some (.lst rvs) ∧ TrL G (rows.map rowD) rvs ∧ rows.length = k ∧ ∀ r ∈ rows, RowOk hs.length r) ∧ ∃ o1 o2 o3 o4, σ = [some (V.ref b), some (V.bl false), some (V.ref pn), some (V.int ra), some (V.int rb), some (V.int vc), some (V.ref ps), some (V.ref po), some (V.ref pv), some (V.ref ph), some (V.int oft), some (V.ref pr), o1, o2, o3, o4])
    ⟨fun _ _ _ _ e => e, B12, ⟨[], [], v5, rfl, rfl, fun r hr => by simp at hr⟩, _, _, _, _, rfl⟩ (fun k σ G hk h => h.1 pq _ hbpq.symm hprq.symm h12) (fun k x σ G hx h => ?_) (fun σ G h => ?_)
  · obtain ⟨SG, BG, ⟨rvs, rows, hG, tG, lG, fG⟩, o1, o2, o3, o4, rfl⟩ := h
    obtain ⟨dp, hdp, tx⟩ := (tp.sameT (keepT SG B12 v5) npvs).get hx
    obtain ⟨part, hpart, rfl⟩ := map_get hdp
    obtain ⟨fpart, lpart⟩ := fp part (List.mem_of_getElem? hpart)
    have kl : k < 12 := by
      have := (List.getElem?_eq_some_iff.mp hpart).1
      omega
    obtain ⟨px, rfl, ex⟩ := tupD_back fpart tx
    refine seq_step fun k10 hk10 => ?_
    walk_at "rd"
    refine ⟨by decide, fun pc hpc => ?_⟩
    refine hk10 _ _ ?_
    have hbpc : b ≠ pc := (BG.ne hpc).symm
    have hprc : pr ≠ pc := ne_of_none hG hpc
    have hphc : ph ≠ pc := ne_of_none (SG ph _ hbph.symm hphr v4) hpc
    have hpvc : pv ≠ pc := ne_of_none (SG pv _ hbpv.symm hpvr v3) hpc
    have T5 := same_new' hpc (.lst [])
    have Bc : Bx (upd G pc (.lst [])) b (n + 422 + 240 * k) := BG.updO hbpc
    have hc0 : upd G pc (.lst []) pc = some (.lst []) := upd_same
    have w1 := T5 _ _ hG
    have w2 := T5 _ _ (SG ph _ hbph.symm hphr v4)
    have w3 := T5 _ _ (SG pv _ hbpv.symm hpvr v3)
    have w4 := T5 _ _ ex
    have tG1 := TrL.same T5 tG
    have SGc : ∀ x o, x ≠ b → x ≠ pr → G8 x = some o → upd G pc (.lst []) x = some o := fun x o n1 n2 e => T5 x o (SG x o n1 n2 e)
    generalize upd G pc (.lst []) = Gc at T5 Bc hc0 w1 w2 w3 w4 tG1 SGc
    refine seq_step fun k11 hk11 => ?_
    wp_walk using w2
    refine forW_lst (xs := hvs) (fun j σ G2 => (∀ x o, x ≠ b → x ≠ pc → Gc x = some o → G2 x = some o) ∧ Bx G2 b (n + 422 + 240 * k + 19 * j) ∧ (∃ (cvs : List V) (cs : List (Option (List V))), G2 pc = some (.lst cvs) ∧ TrL G2 (cs.map cellD) cvs ∧ cs.length = j ∧ ∀ c ∈ cs, FVc c) ∧ ∃ o3 o4, σ = [some (V.ref b), some (V.bl false), some (V.ref pn), some (V.int ra), some (V.int rb), some (V.int vc), some (V.ref ps), some (V.ref po), some (V.ref pv), some (V.ref ph), some (V.int oft), some (V.ref pr), some (V.ref px), some (V.ref pc), o3, o4])
      ⟨fun _ _ _ _ e => e, Bc, ⟨[], [], hc0, rfl, rfl, fun r hr => by simp at hr⟩, _, _, rfl⟩ (fun j σ G2 hj h => h.1 ph _ hbph.symm hphc w2) (fun j xh σ G2 hxh h => ?_) (fun σ G2 h => ?_)
    · obtain ⟨S2', B2', ⟨cvs, cs, hc2, tc2, lc2, fc2⟩, o3, o4, rfl⟩ := h
      have jl : j < 12 := by
        have a1 := (List.getElem?_eq_some_iff.mp hxh).1
        have a2 := th.length
        rw [List.length_map] at a2
        omega
      have hv2 := S2' pv _ hbpv.symm hpvc w3
      refine seq_step fun k15 hk15 => ?_
      wp_walk using hv2
      refine lcW_lst (xs := vals) (fun l σ acc G3 => SameX b G2 G3 ∧ Bx G3 b (n + 422 + 240 * k + 19 * j + 2 * l) ∧ acc.length = l ∧ FVs acc ∧ ∃ o, σ = [o, some (.bl false), some (.ref b)]) ⟨SameX.refl _ _, B2', rfl, fun v hv => by simp at hv, _, rfl⟩ (fun l σ acc G3 hl h => ⟨h.1 pv _ hbpv.symm hv2, by omega⟩) (Nat.le_trans (by omega : _ ≤ 9) (by decide)) (fun l xv σ acc G3 hxv h => ?_) (fun σ acc G3 h pl hpl => ?_)
      · obtain ⟨S3', B3', ha3, hf3, o, rfl⟩ := h
        have ll : l < 9 := by
          have := (List.getElem?_eq_some_iff.mp hxv).1
          omega
        walk_at "rd"
        refine ⟨b, n + 422 + 240 * k + 19 * j + 2 * l, rfl, by omega, B3', fun v G4' fv' S4' B4' => ?_⟩
        refine ⟨S3'.trans S4', B4'.mono (by omega), by simp [ha3], fun u hu => ?_, _, rfl⟩
        rcases List.mem_append.mp hu with hu | hu
        · exact hf3 u hu
        · rw [List.mem_singleton.mp hu]; exact fv'
      · obtain ⟨S3', B3', ha3, hf3, o, rfl⟩ := h
        walk_at "rd"
        refine ⟨acc, .inl ⟨SqL.of upd_same, fun pt hpt => ?_⟩⟩
        refine hk15 _ _ ?_
        have T6 := (same_new' hpl (.lst acc)).trans (same_new' hpt (.tup acc))
        have S5' : SameX b G2 (upd (upd G3 pl (.lst acc)) pt (.tup acc)) := S3'.trans (SameX.same T6)
        have B5' : Bx (upd (upd G3 pl (.lst acc)) pt (.tup acc)) b (n + 422 + 240 * k + 19 * j + 18) := (B3'.same T6).mono (by omega)
        have h5 : upd (upd G3 pl (.lst acc)) pt (.tup acc) pt = some (.tup acc) := upd_same
        generalize upd (upd G3 pl (.lst acc)) pt (.tup acc) = G5' at S5' B5' h5
        have hc5 := S5' pc _ hbpc.symm hc2
        walk_at "rd"
        refine ⟨tyV_list hc5, ?_⟩
        refine ⟨b, oft, n + 422 + 240 * k + 19 * j + 18, rfl, of0, by omega, by omega, B5', fun r9 G6' _ _ S6' B6' => ?_⟩
        walk_at "rd"
        have hc6 := S6' pc _ hbpc.symm hc5
        have h6 := S6' pt _ (by intro z; obtain ⟨_, _, _, e, _⟩ := B5'; rw [z, e] at h5; cases h5) h5
        have ST : SameT G2 G6' := (S5'.t B2').trans (S6'.t B5')
        have tc6 := tc2.sameT ST (cells_noL fc2)
        have lcv := tc2.length
        rw [List.length_map] at lcv
        have fin : ∀ (c : Option (List V)) (v : V), FVc c → (c = none ∧ v = .non ∨ ∃ vs p, c = some vs ∧ v = .ref p ∧ G6' p = some (.tup vs)) →
            (∃ x, G6' pc = some (.lst x) ∧ x.length < sizeLine ∧ (∀ x_1 o, x_1 ≠ b → x_1 ≠ pc → Gc x_1 = some o → upd G6' pc (.lst (x ++ [v])) x_1 = some o) ∧ Bx (upd G6' pc (.lst (x ++ [v]))) b (n + 422 + 240 * k + 19 * (j + 1)) ∧ ∃ cs : List (Option (List V)), TrL (upd G6' pc (.lst (x ++ [v]))) (cs.map cellD) (x ++ [v]) ∧ cs.length = j + 1 ∧ ∀ c ∈ cs, FVc c) := by
          intro c v fcv hcv
          refine ⟨cvs, hc6, Nat.lt_of_le_of_lt (by omega : _ ≤ 12) (by decide), fun x o n1 n2 e => ?_, (B6'.updO hbpc).mono (by omega), cs ++ [c], ?_, by simp [lc2], fun c' hc' => ?_⟩
          · rw [upd_ne n2]; exact S6' x o n1 (S5' x o n1 (S2' x o n1 n2 e))
          · rw [List.map_append]
            exact (tc6.sameT (SameT.updL hc6) (cells_noL fc2)).app (TrL.one (Tr.sameT (SameT.updL hc6) (cellD_good fcv).noL (cellD_tr fcv hcv)))
          · rcases List.mem_append.mp hc' with hc' | hc'
            · exact fc2 c' hc'
            · rw [List.mem_singleton.mp hc']; exact fcv
        refine ite2 (fun c => ?_) (fun c => ?_)
        · obtain ⟨x, y1, y2, y3, y4, cs', y5, y6, y7⟩ := fin none .non (fun vs e => by cases e) (.inl ⟨rfl, rfl⟩)
          exact ⟨x, y1, y2, y3, y4, ⟨cs', y5, y6, y7⟩, _, rfl⟩
        · obtain ⟨x, y1, y2, y3, y4, cs', y5, y6, y7⟩ := fin (some acc) (.ref pt) (fun vs e => by cases e; exact ⟨hf3, by omega⟩) (.inr ⟨acc, pt, rfl, rfl, h6⟩)
          exact ⟨x, y1, y2, y3, y4, ⟨cs', y5, y6, y7⟩, _, rfl⟩
    · obtain ⟨S2', B2', ⟨cvs, cs, hc2, tc2, lc2, fc2⟩, o3, o4, rfl⟩ := h
      refine hk11 _ _ ?_
      have lhv := th.length
      rw [List.length_map] at lhv
      have hr2 := S2' pr _ hbpr.symm hprc w1
      have ex2 := S2' px _ (by intro z; obtain ⟨_, _, _, e, _⟩ := Bc; rw [z, e] at w4; cases w4) (by intro z; rw [z, hc0] at w4; cases w4) w4
      walk_at "rd"
      refine ⟨tyV_list hr2, cvs, .inl ⟨SqL.of hc2, fun pt hpt => ⟨by decide, fun pp hpp => ?_⟩⟩⟩
      have T7 := (same_new' hpt (.tup cvs)).trans (same_new' hpp (.tup [.ref px, .ref pt]))
      have hr3 := T7 _ _ hr2
      refine ⟨rvs, hr3, ?_⟩
      have lrv := tG.length
      rw [List.length_map] at lrv
      have pl9 : part.length ≤ 9 := by omega
      have cl9 : cs.length = hs.length := by omega
      have rok : RowOk hs.length (part, cs) := ⟨fpart, pl9, fc2, cl9⟩
      have ST : SameT Gc (upd (upd G2 pt (.tup cvs)) pp (.tup [.ref px, .ref pt])) := (keepT S2' Bc hc0).trans T7.t
      have trow : Tr (upd (upd G2 pt (.tup cvs)) pp (.tup [.ref px, .ref pt])) (rowD (part, cs)) (.ref pp) :=
        ⟨pp, _, rfl, upd_same, _, _, rfl, tupD_tr fpart (T7 _ _ ex2), _, _, rfl, ⟨pt, cvs, rfl, (same_new' hpp _) _ _ upd_same, TrL.same T7 tc2⟩, rfl⟩
      have trows := tG1.sameT ST (rows_noL (by omega) fG)
      have Bf : Bx (upd (upd G2 pt (.tup cvs)) pp (.tup [.ref px, .ref pt])) b (n + 422 + 240 * k + 228) := (B2'.same T7).mono (by omega)
      refine ⟨Nat.lt_of_le_of_lt (by omega : _ ≤ 12) (by decide), fun x o n1 n2 e => ?_, (Bf.updO hbpr).mono (by omega), ?_⟩
      · rw [upd_ne n2]
        exact T7 x o (S2' x o n1 (ne_of_none (SG x o n1 n2 e) hpc) (SGc x o n1 n2 e))
      · refine ⟨⟨rows ++ [(part, cs)], ?_, by simp [lG], fun r hr => ?_⟩, _, rfl⟩
        · rw [List.map_append]
          exact (trows.sameT (SameT.updL hr3) (rows_noL (by omega) fG)).app (TrL.one (Tr.sameT (SameT.updL hr3) (rowD_good rok (by omega)).noL trow))
        · rcases List.mem_append.mp hr with hr | hr
          · exact fG r hr
          · rw [List.mem_singleton.mp hr]; exact rok
  · obtain ⟨SG, BG, ⟨rvs, rows, hG, tG, lG, fG⟩, o1, o2, o3, o4, rfl⟩ := h
    refine hk9 _ _ ?_
    have lpv := tp.length
    rw [List.length_map] at lpv
    have x1 := SG ps _ hbps.symm hpsr v1
    have x2 := SG po _ hbpo.symm hpor v2
    have x3 := SG pv _ hbpv.symm hpvr v3
    have x4 := SG ph _ hbph.symm hphr v4
    walk_at "rd"
    refine ⟨stem, .inl ⟨SqL.of x1, fun t1 ht1 => ⟨over, .inl ⟨SqL.of ((same_new' ht1 _) _ _ x2), fun t2 ht2 => ?_⟩⟩⟩⟩
    have E1 := same_new' ht1 (.tup stem)
    have E2 := same_new' ht2 (.tup over)
    have U1 := E1.trans E2
    refine ⟨vals, .inl ⟨SqL.of (U1 _ _ x3), fun t3 ht3 => ?_⟩⟩
    have E3 := same_new' ht3 (.tup vals)
    have U2 := U1.trans E3
    refine ⟨hvs, .inl ⟨SqL.of (U2 _ _ x4), fun t4 ht4 => ?_⟩⟩
    have E4 := same_new' ht4 (.tup hvs)
    have U3 := U2.trans E4
    refine ⟨rvs, .inl ⟨SqL.of (U3 _ _ hG), fun t5 ht5 => ⟨by decide, fun t6 ht6 => ?_⟩⟩⟩
    have E5 := same_new' ht5 (.tup rvs)
    have E6 := same_new' ht6 (.tup [.ref t1, .ref t2, .ref t3, .ref t4, .ref t5])
    have U5 := U3.trans (E5.trans E6)
    have l1 : stem.length ≤ 9 := by omega
    have l2 : over.length ≤ 9 := by omega
    have l3 : vals.length ≤ 9 := by omega
    have l4 : rows.length ≤ 12 := by omega
    refine q (.ref t6) ⟨stem, over, vals, hs, rows⟩ _ ?_ ⟨fks, l1, fos, l2, fvs, l3, hlh, lh, fG, l4⟩ (fun x o n1 e => ?_) ((BG.same U5).mono (by omega))
    · refine ⟨t6, _, rfl, upd_same, _, _, rfl, tupD_tr fks ((E2.trans (E3.trans (E4.trans (E5.trans E6)))) _ _ upd_same), _, _, rfl, tupD_tr fos ((E3.trans (E4.trans (E5.trans E6))) _ _ upd_same), _, _, rfl, tupD_tr fvs ((E4.trans (E5.trans E6)) _ _ upd_same), _, _, rfl, ⟨t4, hvs, rfl, (E5.trans E6) _ _ upd_same, ?_⟩, _, _, rfl, ⟨t5, rvs, rfl, E6 _ _ upd_same, ?_⟩, rfl⟩
      · exact TrL.same U5 (th8.sameT (keepT SG B12 v5) nhs)
      · exact TrL.same U5 tG
    · exact U5 x o (SG x o n1 (ne_of_none e npr) (S13 x o n1 (SX7 x o n1 e)))
end
end K
namespace K
open PySem L2
local macro_rules | `(tactic| walk_at "rd") => `(tactic| simp only [tSeq, tIfS, tTest, tB, tOp, tUn, tVar, tC, tAsg, gName, gSub, tRet, tRetN, tDrop, tNext, tNil, tCons, tCB, tCall, tTup, tLst, tNot, tAnd, tOr, tNotV, tAndV, tOrV, tIf, rIxF, rI0, rI, rU, rSetL, rCat, rRep, rEq, rNe, L2.start, List.map_cons, List.map_nil, List.cons_append, List.nil_append, List.append_nil, List.length_cons, List.length_nil, List.replicate, List.getElem?_cons_zero, List.getElem?_cons_succ, List.set_cons_zero, List.set_cons_succ, V.int.injEq, V.ref.injEq, V.bl.injEq, V.str.injEq, V.ty.injEq, Option.some.injEq, List.cons.injEq, reduceCtorEq, exists_eq_left', exists_eq_left, exists_eq_right, exists_eq_right', exists_and_left, false_and, and_false, true_and, and_true, exists_false, exists_const, or_false, false_or, scal, decide_eq_true_eq, upd_same, Nat.zero_add, Nat.reduceAdd, Nat.reduceSub, HO.lst.injEq, HO.tup.injEq, atI_0, atI_1, atI_2, atI_3, ixN_30, ixN_31, ixN_32, Int.reduceNeg, tK, tBM, rAppF, rr_isi, rr_isi2, rr_lenF, rr_abs, rr_int_i, rr_int_b, rr_any, rr_all, rr_sum, rr_strI, rr_strD, rr_tuple, rr_list, kv_non, kv_bl, kv_int, kv_str, sk_NoneType_int, sk_NoneType_str, sk_NoneType_bool, sk_NoneType_list, sk_NoneType_tuple, sk_bool_int, sk_bool_str, sk_bool_bool, sk_bool_list, sk_bool_tuple, sk_int_int, sk_int_str, sk_int_bool, sk_int_list, sk_int_tuple, sk_str_int, sk_str_str, sk_str_bool, sk_str_list, sk_str_tuple, sk_list_int, sk_list_str, sk_list_bool, sk_list_list, sk_list_tuple, sk_tuple_int, sk_tuple_str, sk_tuple_bool, sk_tuple_list, sk_tuple_tuple, decide_true, decide_false, Bool.false_eq_true, if_true, if_false, ite_true, ite_false, ne_eq, not_false_eq_true, not_true_eq_false, Bool.not_true, Bool.not_false, lw_seq, lw_rng, fw_seq, fw_rng, tYes, cst, Option.map_some, Option.map_none, Option.bind_some, Option.bind_none, Option.getD_some, Option.getD_none, Option.bind_eq_bind, Option.join_some, Option.join_none, tNever, List.getD_cons_zero, List.getD_cons_succ, List.getElem?_nil, tMM, rSetK, rLenSet, fw_zip, lw_zip, fw_enum, lw_enum, tPar, tPar3, tSl, tNoPart, tPart, rCat2, rSlL, exP2])
local macro_rules | `(tactic| wp_walk using $ts,*) => `(tactic| simp only [tSeq, tIfS, tTest, tB, tOp, tUn, tVar, tC, tAsg, gName, gSub, tRet, tRetN, tDrop, tNext, tNil, tCons, tCB, tCall, tTup, tLst, tNot, tAnd, tOr, tNotV, tAndV, tOrV, tIf, rIxF, rI0, rI, rU, rSetL, rCat, rRep, rEq, rNe, L2.start, List.map_cons, List.map_nil, List.cons_append, List.nil_append, List.append_nil, List.length_cons, List.length_nil, List.replicate, List.getElem?_cons_zero, List.getElem?_cons_succ, List.set_cons_zero, List.set_cons_succ, V.int.injEq, V.ref.injEq, V.bl.injEq, V.str.injEq, V.ty.injEq, Option.some.injEq, List.cons.injEq, reduceCtorEq, exists_eq_left', exists_eq_left, exists_eq_right, exists_eq_right', exists_and_left, false_and, and_false, true_and, and_true, exists_false, exists_const, or_false, false_or, scal, decide_eq_true_eq, upd_same, Nat.zero_add, Nat.reduceAdd, Nat.reduceSub, HO.lst.injEq, HO.tup.injEq, atI_0, atI_1, atI_2, atI_3, ixN_30, ixN_31, ixN_32, Int.reduceNeg, tK, tBM, rAppF, rr_isi, rr_isi2, rr_lenF, rr_abs, rr_int_i, rr_int_b, rr_any, rr_all, rr_sum, rr_strI, rr_strD, rr_tuple, rr_list, kv_non, kv_bl, kv_int, kv_str, sk_NoneType_int, sk_NoneType_str, sk_NoneType_bool, sk_NoneType_list, sk_NoneType_tuple, sk_bool_int, sk_bool_str, sk_bool_bool, sk_bool_list, sk_bool_tuple, sk_int_int, sk_int_str, sk_int_bool, sk_int_list, sk_int_tuple, sk_str_int, sk_str_str, sk_str_bool, sk_str_list, sk_str_tuple, sk_list_int, sk_list_str, sk_list_bool, sk_list_list, sk_list_tuple, sk_tuple_int, sk_tuple_str, sk_tuple_bool, sk_tuple_list, sk_tuple_tuple, decide_true, decide_false, Bool.false_eq_true, if_true, if_false, ite_true, ite_false, ne_eq, not_false_eq_true, not_true_eq_false, Bool.not_true, Bool.not_false, lw_seq, lw_rng, fw_seq, fw_rng, tYes, cst, Option.map_some, Option.map_none, Option.bind_some, Option.bind_none, Option.getD_some, Option.getD_none, Option.bind_eq_bind, Option.join_some, Option.join_none, tNever, List.getD_cons_zero, List.getD_cons_succ, List.getElem?_nil, tMM, rSetK, rLenSet, fw_zip, lw_zip, fw_enum, lw_enum, tPar, tPar3, tSl, tNoPart, tPart, rCat2, rSlL, exP2, $[$ts:term],*])
section
variable {P : Program} {w : World} {K : PySem.W.Frag} {mg : Str → Option Value} {base : Heap}
theorem cell_at {H : Hp} {cs : List (Option (List V))} {cvs : List V} {k : Nat} (tc : TrL H (cs.map cellD) cvs) (h : k < cvs.length) : Tr H (cellD (cAt cs k)) (uAt cvs k) := by
  obtain ⟨v, r, e, t, _⟩ := TrL.at (d0 := none) tc (js := [k]) fun i hi => by rw [List.mem_singleton.mp hi]; exact h
  cases e; exact t
theorem rAt_ok {n : Nat} {js : List Nat} {r : Rw} (h : RowOk n r) : RowOk js.length (rAt js r) := ⟨h.part, h.plen, fun c hc => by
  obtain ⟨j, _, rfl⟩ := List.mem_map.mp hc
  exact cAt_ok h j, by (show (js.map (cAt r.2)).length = _; rw [List.length_map])⟩
theorem rs_noL {W : Wd} (ok : W.Ok) {k : Nat} : noLs ((((W.rows.take k).filter rowOn).map (rAt W.pl)).map rowD) = true := noLs_of fun d hd => by
  obtain ⟨r, hr, rfl⟩ := List.mem_map.mp hd
  obtain ⟨r', hr', rfl⟩ := List.mem_map.mp hr
  exact (rowD_good (rAt_ok (ok.rows r' (List.mem_of_mem_take (List.mem_filter.mp hr').1))) (pl_len ok)).noL
theorem cells_flat {cs : List (Option (List V))} (h : ∀ c ∈ cs, FVc c) : Flat (.list (cs.map cellD)) := by
  have g := Goods.of (n := 1) (w := 17311) (ds := cs.map cellD) fun d hd => by
    obtain ⟨c, hc, rfl⟩ := List.mem_map.mp hd
    exact cellD_good (h c hc)
  refine ⟨g.lay, ?_⟩
  show PyData.depthAll (cs.map cellD) + 1 ≤ 40
  have := g.dep
  omega
theorem some_nil (cs : List (Option (List V))) : PyData.eqv (.list ((cs.filter fun c => c.isSome).map cellD)) (.list []) = !someC cs := by
  unfold someC
  cases h : cs.any fun c => c.isSome with
  | true =>
    obtain ⟨c, hc, hs⟩ := List.any_eq_true.mp h
    have : c ∈ cs.filter fun c => c.isSome := List.mem_filter.mpr ⟨hc, hs⟩
    cases e : cs.filter fun c => c.isSome with
    | nil => rw [e] at this; cases this
    | cons x r => rfl
  | false =>
    have : (cs.filter fun c => c.isSome) = [] := List.filter_eq_nil_iff.mpr fun c hc => by
      intro hs
      rw [List.any_eq_true.mpr ⟨c, hc, hs⟩] at h
      cases h
    rw [this]; rfl
theorem ok__law_due {f : Addr} {fd : FuncData} (F : Fun K "_law_due" "_law_due" s__law_due f fd) (z_any : mg "any" = none) (z_len : mg "len" = none) (z_range : mg "range" = none) (z_tuple : mg "tuple" = none) : FnOk P w K mg base CX0 1 f fd ["_law_wide_here"] spEmp := by
  refine F.ok sc__law_due (fun vs H Q E h => ?_) (fun cdv A outer s H vs Q E hr h => ?_)
  · obtain ⟨v, W, rfl, t, ok, q⟩ := h
    rfl
  obtain ⟨v, W, rfl, t, ok, q⟩ := h
  have hu := hr.units
  have hgd := hr.gd
  refine by_Q (qss_cons (qs_set (i := 1) sc__law_due.nd rfl (Or.inl rfl) (qe_lst qa_nil))
      (qss_cons (qs_for PassesOwn.never rfl (qi_range1 rfl z_range (qa_c (qe_call_lenF (Kq := K) rfl rfl z_len (qa_c (qe_ixF (qv 0) qe_int plain_int) qa_nil)) qa_nil)) (qg_name (i := 2) sc__law_due.nd rfl (Or.inr rfl)) (qss_one (qs_if (qt_val (qe_call_anyL (Kq := K) rfl rfl rfl z_any (qa_c (by exact (qe_lc (N' := ["_law_part", "_law_cells", "_law_place"]) (idx := [none, none, some 2]) (lcs_of rfl rfl (by decide +kernel) rfl rfl rfl) rfl (qi_seq (Kq := K) rfl (qe_ixF (qv 0) qe_int plain_int)) (fun _ _ _ _ _ => by exact (qg_tup (Kq := K) rfl (n := 2) rfl (qgs_cons (qg_name (i := 0) (by show (["_law_part", "_law_cells", "_law_place"] : List Str).Nodup; decide +kernel) rfl (Or.inl rfl)) (qgs_cons (qg_name (i := 1) (by show (["_law_part", "_law_cells", "_law_place"] : List Str).Nodup; decide +kernel) rfl (Or.inl rfl)) qgs_nil)))) (fun _ _ _ _ _ => by exact qts_nil) (fun _ _ _ _ _ => by exact (qe_op_notN (qe_ixF (qv 1) (qv 2) plain_name) qe_non)))) qa_nil))) (qss_one (qs_expr (qe_append (Kq := K) rfl (qv 1) (qv 2)))) qss_nil)))
      (qss_cons (qs_set (i := 3) sc__law_due.nd rfl (Or.inl rfl) (qe_lst qa_nil))
      (qss_cons (qs_for PassesOwn.never rfl (qi_seq (Kq := K) rfl (qe_ixF (qv 0) qe_int plain_int)) (qg_tup (Kq := K) rfl (n := 2) rfl (qgs_cons (qg_name (i := 4) sc__law_due.nd rfl (Or.inl rfl)) (qgs_cons (qg_name (i := 5) sc__law_due.nd rfl (Or.inr rfl)) qgs_nil))) (qss_one (qs_if (qt_op_neD hu (by exact (qe_lc (N' := ["_law_one"]) (idx := [none]) (lcs_of rfl rfl (by decide +kernel) rfl rfl rfl) rfl (qi_seq (Kq := K) rfl (qv 5)) (fun _ _ _ _ _ => by exact (qg_name (i := 0) (by show (["_law_one"] : List Str).Nodup; decide +kernel) rfl (Or.inl rfl))) (fun _ _ _ _ _ => by exact (qts_one (qt_op_notN (qv 0) qe_non))) (fun _ _ _ _ _ => by exact (qv 0)))) (qe_lst qa_nil)) (qss_one (qs_expr (qe_append (Kq := K) rfl (qv 3) (qe_tup (qa_c (qv 4) (qa_c (qe_call_tuple_of (Kq := K) rfl rfl z_tuple (qa_c (by exact (qe_lc (N' := ["_law_place", "_law_cells"]) (idx := [none, some 5]) (lcs_of rfl rfl (by decide +kernel) rfl rfl rfl) rfl (qi_seq (Kq := K) rfl (qv 1)) (fun _ _ _ _ _ => by exact (qg_name (i := 0) (by show (["_law_place", "_law_cells"] : List Str).Nodup; decide +kernel) rfl (Or.inl rfl))) (fun _ _ _ _ _ => by exact qts_nil) (fun _ _ _ _ _ => by exact (qe_ixF (qv 1) (qv 0) plain_name)))) qa_nil)) qa_nil)))))) qss_nil)))
      (qss_one (qs_ret (qe_op_cat2 (qe_slice sl_tup (qv 0) qo_none (qo_some qe_int)) (qe_tup (qa_c (qe_call_tuple_of (Kq := K) rfl rfl z_tuple (qa_c (by exact (qe_lc (N' := ["_law_place", "_law_wide_here"]) (idx := [none, some 0]) (lcs_of rfl rfl (by decide +kernel) rfl rfl rfl) rfl (qi_seq (Kq := K) rfl (qv 1)) (fun _ _ _ _ _ => by exact (qg_name (i := 0) (by show (["_law_place", "_law_wide_here"] : List Str).Nodup; decide +kernel) rfl (Or.inl rfl))) (fun _ _ _ _ _ => by exact qts_nil) (fun _ _ _ _ _ => by exact (qe_ixF (qe_ixF (qv 1) qe_int plain_int) (qv 0) plain_name)))) qa_nil)) (qa_c (qe_call_tuple_of (Kq := K) rfl rfl z_tuple (qa_c (qv 3) qa_nil)) qa_nil)))))))))) ?_
  obtain ⟨a, a0, a1, a2, a3, a4, hvs, rvs, rfl, e, e0, e1, e2, e3, th, e4, tr⟩ := Wd.parts ok t
  have rl := tr.length
  rw [List.length_map] at rl
  have rl12 := ok.rlen
  have hl := th.length
  rw [List.length_map] at hl
  have hl12 := ok.hlen
  refine seq_step fun k1 hk1 => ?_
  walk_at "rd"
  refine ⟨by decide, fun ph hph => ?_⟩
  refine hk1 _ _ ?_
  have S1 := same_new' hph (.lst [])
  have hh1 : upd H ph (.lst []) ph = some (.lst []) := upd_same
  generalize upd H ph (.lst []) = H1 at S1 hh1
  have f3 : ixF H1 (.ref a) (.int 3) = some (.ref a3) := by rw [ix_tupF (S1 _ _ e)]; exact atI_3 _ _ _ _ _
  refine seq_step fun k2 hk2 => ?_
  wp_walk using f3, len_tup (S1 _ _ e3)
  refine ⟨by omega, by omega, ?_⟩
  refine forW_rng (fun k σ G => Same H G ∧ G ph = some (.lst (((List.range k).filter (colOn W.rows)).map nI)) ∧ ∃ o2 o3 o4 o5, σ = [some (.ref a), some (.ref ph), o2, o3, o4, o5]) ⟨S1, hh1, _, _, _, _, rfl⟩ (fun k σ G hk h => ?_) (fun σ G h => ?_)
  · obtain ⟨SG, hG, o2, o3, o4, o5, rfl⟩ := h
    have hk' : k < hvs.length := hk
    have f4 : ixF G (.ref a) (.int 4) = some (.ref a4) := by rw [ix_tupF (SG _ _ e)]; exact atI_nat (j := 4) rfl
    wp_walk using f4
    refine .inr ⟨rvs, SG _ _ e4, ?_⟩
    refine lcW_pairs (xs := rvs) (fun j σ acc G2 => G2 = G ∧ acc = ((W.rows.take j).map fun r => (cAt r.2 k).isSome).map V.bl ∧ ∃ o1 o2, σ = [o1, o2, some (.int (0 + (k : Int)))]) ⟨rfl, rfl, _, _, rfl⟩ (fun j σ acc G2 hj h => by
      obtain ⟨rfl, rfl, _⟩ := h
      exact ⟨SG _ _ e4, by simp; omega⟩) (Nat.le_trans (by omega : _ ≤ 12) (by decide)) (fun j v σ acc G2 hv h => ?_) (fun σ acc G2 h pl hpl => ?_)
    · obtain ⟨rfl, rfl, o1, o2, rfl⟩ := h
      obtain ⟨dr, hd, tv⟩ := tr.get hv
      obtain ⟨r, hr2, rfl⟩ := map_get hd
      have rok := ok.rows r (List.mem_of_getElem? hr2)
      obtain ⟨qq, pp, cc, cvs, rfl, w0, w1, w2, tc⟩ := row_parts rok (Tr.same SG tv)
      have cl := tc.length
      rw [List.length_map, rok.clen] at cl
      refine ⟨qq, .ref pp, .ref cc, rfl, w0, ?_⟩
      have f1 : ixF G2 (.ref cc) (.int (0 + (k : Int))) = some (uAt cvs k) := by rw [ix_tupF w2, Int.zero_add]; exact uAt_atI (by omega)
      have tu := cell_at (k := k) tc (by omega)
      have fc := cAt_ok rok k
      rw [take_snoc hr2, List.map_append, List.map_append]
      generalize uAt cvs k = x at f1 tu
      cases hc : cAt r.2 k with
      | none =>
        rw [hc] at tu
        cases (show x = .non from tu)
        wp_walk using f1, hc
        simp [hc]
      | some cs1 =>
        rw [hc] at tu fc
        obtain ⟨cy, rfl, ec⟩ := tupD_back (fc cs1 rfl).1 tu
        wp_walk using f1, hc
        simp [hc]
    · obtain ⟨rfl, rfl, o1, o2, rfl⟩ := h
      rw [← rl, List.take_length]
      have Sl := same_new' hpl (.lst ((W.rows.map fun r => (cAt r.2 k).isSome).map V.bl))
      walk_at "rd"
      refine ⟨W.rows.map fun r => (cAt r.2 k).isSome, SqL.of upd_same, ?_⟩
      have hE : (W.rows.map fun r => (cAt r.2 k).isSome).any id = colOn W.rows k := by
        unfold colOn
        rw [List.any_map]; rfl
      rw [hE]
      cases hc : colOn W.rows k with
      | false =>
        refine ⟨SG.trans Sl, ?_, by simp⟩
        rw [pl_no hc]
        exact Sl _ _ hG
      | true =>
        have hG' := Sl _ _ hG
        have ll := List.length_filter_le (colOn W.rows) (List.range k)
        rw [List.length_range] at ll
        refine ⟨tyV_list hG', _, hG', Nat.lt_of_le_of_lt (by rw [List.length_map]; omega : _ ≤ 12) (by decide), ?_⟩
        refine ⟨same_upd' hph (SG.trans Sl), ?_, by simp⟩
        rw [pl_yes hc]
        simp [nI]
  · obtain ⟨SG, hG, o2, o3, o4, o5, rfl⟩ := h
    have hjs : ((List.range (Int.toNat (hvs.length : Int))).filter (colOn W.rows)) = W.pl := by
      unfold Wd.pl
      rw [hl]; rfl
    rw [hjs] at hG
    refine hk2 _ _ ?_
    refine seq_step fun k3 hk3 => ?_
    walk_at "rd"
    refine ⟨by decide, fun pr hpr => ?_⟩
    refine hk3 _ _ ?_
    have S3 := same_new' hpr (.lst [])
    have npr : H pr = none := by
      cases ex : H pr with
      | none => rfl
      | some o => have := SG pr o ex; rw [hpr] at this; cases this
    have nhr : ph ≠ pr := ne_of_none hG hpr
    have hh3 := S3 _ _ hG
    have hr3 : upd G pr (.lst []) pr = some (.lst []) := upd_same
    have U3 := SG.trans S3
    generalize upd G pr (.lst []) = G3 at S3 hh3 hr3 U3
    have f4 : ixF G3 (.ref a) (.int 4) = some (.ref a4) := by rw [ix_tupF (U3 _ _ e)]; exact atI_nat (j := 4) rfl
    refine seq_step fun k4 hk4 => ?_
    wp_walk using f4
    refine .inr ⟨rvs, U3 _ _ e4, ?_⟩
    refine forW_pairs (xs := rvs) (fun k σ G => Same H G ∧ G ph = some (.lst (W.pl.map nI)) ∧ (∃ acc, G pr = some (.lst acc) ∧ acc.length ≤ k ∧ TrL G ((((W.rows.take k).filter rowOn).map (rAt W.pl)).map rowD) acc) ∧ ∃ o2 o4 o5, σ = [some (.ref a), some (.ref ph), o2, some (.ref pr), o4, o5])
      ⟨U3, hh3, ⟨[], hr3, Nat.le_refl _, rfl⟩, _, _, _, rfl⟩ (fun k σ G hk h => h.1 _ _ e4) (fun k v σ G hv h => ?_) (fun σ G h => ?_)
    · obtain ⟨SG, hG, ⟨acc, ha, la, ta⟩, o2, o4, o5, rfl⟩ := h
      obtain ⟨dr, hd, tv⟩ := tr.get hv
      obtain ⟨r, hr2, rfl⟩ := map_get hd
      have kl : k < 12 := by
        have := (List.getElem?_eq_some_iff.mp hr2).1
        omega
      have rok := ok.rows r (List.mem_of_getElem? hr2)
      obtain ⟨qq, pp, cc, cvs, rfl, w0, w1, w2, tc⟩ := row_parts rok (Tr.same SG tv)
      have cl := tc.length
      rw [List.length_map] at cl
      have cl' := rok.clen
      refine ⟨qq, .ref pp, .ref cc, rfl, w0, ?_⟩
      walk_at "rd"
      refine .inr ⟨cvs, w2, ?_⟩
      refine lcW_tup (xs := cvs) (fun j σ us G2 => G2 = G ∧ us.length ≤ j ∧ TrL G (((r.2.take j).filter fun c => c.isSome).map cellD) us ∧ ∃ o, σ = [o]) ⟨rfl, Nat.le_refl _, rfl, _, rfl⟩ (fun j σ us G2 hj h => by
        obtain ⟨rfl, h1, _⟩ := h
        exact ⟨w2, h1⟩) (Nat.le_trans (by omega : _ ≤ 12) (by decide)) (fun j x σ us G2 hx h => ?_) (fun σ us G2 h pl hpl => ?_)
      · obtain ⟨rfl, h1, t1, o, rfl⟩ := h
        obtain ⟨d, hd, tx⟩ := tc.get hx
        obtain ⟨c, hc, rfl⟩ := map_get hd
        have fc := rok.cells c (List.mem_of_getElem? hc)
        rw [take_snoc hc, List.filter_append, List.map_append]
        cases c with
        | none =>
          cases (show x = .non from tx)
          walk_at "rd"
          refine ⟨by omega, ?_, by simp⟩
          simpa using t1
        | some cs1 =>
          obtain ⟨cy, rfl, ec⟩ := tupD_back (fc cs1 rfl).1 tx
          walk_at "rd"
          refine ⟨by simp; omega, t1.app (TrL.one tx), by simp⟩
      · obtain ⟨rfl, h1, t1, o, rfl⟩ := h
        rw [← cl, List.take_length] at t1
        have Sl := same_new' hpl (.lst us)
        refine ⟨by decide, fun pe hpe => ?_⟩
        have Se := same_new' hpe (.lst [])
        have SS := Sl.trans Se
        refine ⟨.list ((r.2.filter fun c => c.isSome).map cellD), .list [], ⟨pl, us, rfl, Se _ _ upd_same, TrL.same SS t1⟩, ⟨pe, [], rfl, upd_same, rfl⟩, cells_flat fun c hc => rok.cells c (List.mem_filter.mp hc).1, ⟨rfl, by decide⟩, ?_⟩
        rw [some_nil, show someC r.2 = rowOn r from rfl]
        have hG' := SS _ _ hG
        have ha' := SS _ _ ha
        have ta' := TrL.same SS ta
        have SG' := SG.trans SS
        have w1' := SS _ _ w1
        have w2' := SS _ _ w2
        have tc' := TrL.same SS tc
        generalize upd (upd G2 pl (.lst us)) pe (.lst []) = G5 at SS hG' ha' ta' SG' w1' w2' tc'
        cases hc : rowOn r with
        | false =>
          refine ⟨false, rfl, ?_⟩
          rw [if_neg (by decide), rs_no hr2 hc]
          exact ⟨SG', hG', ⟨acc, ha', by omega, ta'⟩, _, rfl⟩
        | true =>
          refine ⟨true, rfl, ?_⟩
          rw [if_pos rfl, rs_yes hr2 hc]
          refine ⟨tyV_list ha', .inl ⟨_, hG', ?_⟩⟩
          refine lcW_lst (xs := W.pl.map nI) (fun j σ us G6 => G6 = G5 ∧ us = (W.pl.take j).map (uAt cvs) ∧ ∃ o, σ = [o, some (.ref cc)]) ⟨rfl, rfl, _, rfl⟩ (fun j σ us G6 hj h => by
            obtain ⟨rfl, rfl, _⟩ := h
            exact ⟨hG', by simp; omega⟩) (Nat.le_trans (by simpa using pl_len ok) (by decide)) (fun j x σ us G6 hx h => ?_) (fun σ us G6 h p1 hp1 => ?_)
          · obtain ⟨rfl, rfl, o, rfl⟩ := h
            obtain ⟨i, hi, rfl⟩ := map_get hx
            have il := pl_lt i (List.mem_of_getElem? hi)
            have f1 : ixF G6 (.ref cc) (nI i) = some (uAt cvs i) := by
              rw [show nI i = V.int (i : Int) from rfl, ix_tupF w2']; exact uAt_atI (by omega)
            wp_walk using f1
            refine ⟨?_, by simp⟩
            rw [take_snoc hi, List.map_append]; rfl
          · obtain ⟨rfl, rfl, o, rfl⟩ := h
            rw [List.length_map, List.take_length]
            walk_at "rd"
            refine ⟨_, .inl ⟨SqL.of upd_same, fun p2 hp2 => ⟨by decide, fun p3 hp3 => ?_⟩⟩⟩
            have Y1 := same_new' hp1 (.lst (W.pl.map (uAt cvs)))
            have Y2 := same_new' hp2 (.tup (W.pl.map (uAt cvs)))
            have Y3 := same_new' hp3 (.tup [.ref pp, .ref p2])
            have Y := Y1.trans (Y2.trans Y3)
            have ha7 := Y _ _ ha'
            have tcc : TrL G6 ((W.pl.map (cAt r.2)).map cellD) (W.pl.map (uAt cvs)) := TrL.at (d0 := none) tc' fun i hi => by have := pl_lt i hi; omega
            have tp : Tr (upd (upd (upd G6 p1 (.lst (W.pl.map (uAt cvs)))) p2 (.tup (W.pl.map (uAt cvs)))) p3 (.tup [.ref pp, .ref p2])) (rowD (rAt W.pl r)) (.ref p3) := ⟨p3, _, rfl, upd_same, _, _, rfl, tupD_tr rok.part (Y _ _ w1'), _, _, rfl, ⟨p2, _, rfl, Y3 _ _ upd_same, TrL.same Y tcc⟩, rfl⟩
            refine ⟨acc, ha7, Nat.lt_of_le_of_lt (by omega : _ ≤ 12) (by decide), ?_⟩
            refine ⟨same_upd' npr (SG'.trans Y), by rw [upd_ne nhr]; exact Y _ _ hG', ⟨by simp; omega, ?_⟩, _, rfl⟩
            rw [List.map_append, List.map_append]
            exact ((TrL.same Y ta').sameT (SameT.updL ha7) (rs_noL ok)).app (TrL.one (Tr.sameT (SameT.updL ha7) (rowD_good (rAt_ok rok) (pl_len ok)).noL tp))
    · obtain ⟨SG, hG, ⟨acc, ha, la, ta⟩, o2, o4, o5, rfl⟩ := h
      rw [← rl, List.take_length] at ta
      refine hk4 _ _ ?_
      walk_at "rd"
      refine ⟨a, _, rfl, SqT.of (SG _ _ e), fun h => absurd (show (3 : Nat) = 5 from h.2) (by decide), fun p1 hp1 => ?_⟩
      have c3 : cutV [V.ref a0, .ref a1, .ref a2, .ref a3, .ref a4] none (some 3) = [.ref a0, .ref a1, .ref a2] := rfl
      rw [c3]
      have T1 := same_new' hp1 (.tup [.ref a0, .ref a1, .ref a2])
      have h1 : upd G p1 (.tup [.ref a0, .ref a1, .ref a2]) p1 = some (.tup [.ref a0, .ref a1, .ref a2]) := upd_same
      generalize upd G p1 (.tup [.ref a0, .ref a1, .ref a2]) = G2 at T1 h1
      have U2 := SG.trans T1
      refine .inl ⟨_, T1 _ _ hG, ?_⟩
      refine lcW_lst (xs := W.pl.map nI) (fun j σ us G6 => G6 = G2 ∧ us = (W.pl.take j).map (uAt hvs) ∧ ∃ o, σ = [o, some (.ref a)]) ⟨rfl, rfl, _, rfl⟩ (fun j σ us G6 hj h => by
        obtain ⟨rfl, rfl, _⟩ := h
        exact ⟨T1 _ _ hG, by simp; omega⟩) (Nat.le_trans (by simpa using pl_len ok) (by decide)) (fun j x σ us G6 hx h => ?_) (fun σ us G6 h p2 hp2 => ?_)
      · obtain ⟨rfl, rfl, o, rfl⟩ := h
        obtain ⟨i, hi, rfl⟩ := map_get hx
        have il := pl_lt i (List.mem_of_getElem? hi)
        have f3 : ixF G6 (.ref a) (.int 3) = some (.ref a3) := by rw [ix_tupF (U2 _ _ e)]; exact atI_3 _ _ _ _ _
        have f1 : ixF G6 (.ref a3) (nI i) = some (uAt hvs i) := by
          rw [show nI i = V.int (i : Int) from rfl, ix_tupF (U2 _ _ e3)]; exact uAt_atI (by omega)
        wp_walk using f3, f1
        refine ⟨?_, by simp⟩
        rw [take_snoc hi, List.map_append]; rfl
      · obtain ⟨rfl, rfl, o, rfl⟩ := h
        rw [List.length_map, List.take_length]
        walk_at "rd"
        refine ⟨_, .inl ⟨SqL.of upd_same, fun p3 hp3 => ?_⟩⟩
        have Y := (same_new' hp2 (.lst (W.pl.map (uAt hvs)))).trans (same_new' hp3 (.tup (W.pl.map (uAt hvs))))
        have h3 : upd (upd G6 p2 (.lst (W.pl.map (uAt hvs)))) p3 (.tup (W.pl.map (uAt hvs))) p3 = some (.tup (W.pl.map (uAt hvs))) := upd_same
        generalize upd (upd G6 p2 (.lst (W.pl.map (uAt hvs)))) p3 (.tup (W.pl.map (uAt hvs))) = G7 at Y h3
        refine ⟨acc, .inl ⟨SqL.of (Y _ _ (T1 _ _ ha)), fun p4 hp4 => ⟨by decide, fun p5 hp5 => ?_⟩⟩⟩
        have Z := (same_new' hp4 (.tup acc)).trans (same_new' hp5 (.tup [.ref p3, .ref p4]))
        refine ⟨[.ref a0, .ref a1, .ref a2], Z _ _ (Y _ _ h1), (show 3 + 2 ≤ sizeLine by decide), fun p6 G8 S8 h8 => ?_⟩
        have Z2 := Z.trans S8
        have U8 := U2.trans (Y.trans Z2)
        have th' : TrL H ((W.pl.map fun j => W.heads.getD j []).map tupD) (W.pl.map (uAt hvs)) := TrL.at th fun j hj' => by have := pl_lt j hj'; omega
        exact q _ _ U8 ⟨p6, _, rfl, h8, _, _, rfl, tupD_tr ok.key (U8 _ _ e0), _, _, rfl, tupD_tr ok.names (U8 _ _ e1), _, _, rfl, tupD_tr ok.vals (U8 _ _ e2), _, _, rfl, ⟨p3, _, rfl, Z2 _ _ h3, TrL.same U8 th'⟩, _, _, rfl, ⟨p4, acc, rfl, ((same_new' hp5 _).trans S8) _ _ upd_same, TrL.same (T1.trans (Y.trans Z2)) ta⟩, rfl⟩
end
end K
namespace K
open PySem L2
local macro_rules | `(tactic| walk_at "rd") => `(tactic| simp only [tSeq, tIfS, tTest, tB, tOp, tUn, tVar, tC, tAsg, gName, gSub, tRet, tRetN, tDrop, tNext, tNil, tCons, tCB, tCall, tTup, tLst, tNot, tAnd, tOr, tNotV, tAndV, tOrV, tIf, rIxF, rI0, rI, rU, rSetL, rCat, rRep, rEq, rNe, L2.start, List.map_cons, List.map_nil, List.cons_append, List.nil_append, List.append_nil, List.length_cons, List.length_nil, List.replicate, List.getElem?_cons_zero, List.getElem?_cons_succ, List.set_cons_zero, List.set_cons_succ, V.int.injEq, V.ref.injEq, V.bl.injEq, V.str.injEq, V.ty.injEq, Option.some.injEq, List.cons.injEq, reduceCtorEq, exists_eq_left', exists_eq_left, exists_eq_right, exists_eq_right', exists_and_left, false_and, and_false, true_and, and_true, exists_false, exists_const, or_false, false_or, scal, decide_eq_true_eq, upd_same, Nat.zero_add, Nat.reduceAdd, Nat.reduceSub, HO.lst.injEq, HO.tup.injEq, atI_0, atI_1, atI_2, atI_3, ixN_30, ixN_31, ixN_32, Int.reduceNeg, tK, tBM, rAppF, rr_isi, rr_isi2, rr_lenF, rr_abs, rr_int_i, rr_int_b, rr_any, rr_all, rr_sum, rr_strI, rr_strD, rr_tuple, rr_list, kv_non, kv_bl, kv_int, kv_str, sk_NoneType_int, sk_NoneType_str, sk_NoneType_bool, sk_NoneType_list, sk_NoneType_tuple, sk_bool_int, sk_bool_str, sk_bool_bool, sk_bool_list, sk_bool_tuple, sk_int_int, sk_int_str, sk_int_bool, sk_int_list, sk_int_tuple, sk_str_int, sk_str_str, sk_str_bool, sk_str_list, sk_str_tuple, sk_list_int, sk_list_str, sk_list_bool, sk_list_list, sk_list_tuple, sk_tuple_int, sk_tuple_str, sk_tuple_bool, sk_tuple_list, sk_tuple_tuple, decide_true, decide_false, Bool.false_eq_true, if_true, if_false, ite_true, ite_false, ne_eq, not_false_eq_true, not_true_eq_false, Bool.not_true, Bool.not_false, lw_seq, lw_rng, fw_seq, fw_rng, tYes, cst, Option.map_some, Option.map_none, Option.bind_some, Option.bind_none, Option.getD_some, Option.getD_none, Option.bind_eq_bind, Option.join_some, Option.join_none, tNever, List.getD_cons_zero, List.getD_cons_succ, List.getElem?_nil, tMM, rSetK, rLenSet, fw_zip, lw_zip, fw_enum, lw_enum, tPar, tPar3, tSl, tNoPart, tPart, rCat2, rSlL, exP2])
local macro_rules | `(tactic| wp_walk using $ts,*) => `(tactic| simp only [tSeq, tIfS, tTest, tB, tOp, tUn, tVar, tC, tAsg, gName, gSub, tRet, tRetN, tDrop, tNext, tNil, tCons, tCB, tCall, tTup, tLst, tNot, tAnd, tOr, tNotV, tAndV, tOrV, tIf, rIxF, rI0, rI, rU, rSetL, rCat, rRep, rEq, rNe, L2.start, List.map_cons, List.map_nil, List.cons_append, List.nil_append, List.append_nil, List.length_cons, List.length_nil, List.replicate, List.getElem?_cons_zero, List.getElem?_cons_succ, List.set_cons_zero, List.set_cons_succ, V.int.injEq, V.ref.injEq, V.bl.injEq, V.str.injEq, V.ty.injEq, Option.some.injEq, List.cons.injEq, reduceCtorEq, exists_eq_left', exists_eq_left, exists_eq_right, exists_eq_right', exists_and_left, false_and, and_false, true_and, and_true, exists_false, exists_const, or_false, false_or, scal, decide_eq_true_eq, upd_same, Nat.zero_add, Nat.reduceAdd, Nat.reduceSub, HO.lst.injEq, HO.tup.injEq, atI_0, atI_1, atI_2, atI_3, ixN_30, ixN_31, ixN_32, Int.reduceNeg, tK, tBM, rAppF, rr_isi, rr_isi2, rr_lenF, rr_abs, rr_int_i, rr_int_b, rr_any, rr_all, rr_sum, rr_strI, rr_strD, rr_tuple, rr_list, kv_non, kv_bl, kv_int, kv_str, sk_NoneType_int, sk_NoneType_str, sk_NoneType_bool, sk_NoneType_list, sk_NoneType_tuple, sk_bool_int, sk_bool_str, sk_bool_bool, sk_bool_list, sk_bool_tuple, sk_int_int, sk_int_str, sk_int_bool, sk_int_list, sk_int_tuple, sk_str_int, sk_str_str, sk_str_bool, sk_str_list, sk_str_tuple, sk_list_int, sk_list_str, sk_list_bool, sk_list_list, sk_list_tuple, sk_tuple_int, sk_tuple_str, sk_tuple_bool, sk_tuple_list, sk_tuple_tuple, decide_true, decide_false, Bool.false_eq_true, if_true, if_false, ite_true, ite_false, ne_eq, not_false_eq_true, not_true_eq_false, Bool.not_true, Bool.not_false, lw_seq, lw_rng, fw_seq, fw_rng, tYes, cst, Option.map_some, Option.map_none, Option.bind_some, Option.bind_none, Option.getD_some, Option.getD_none, Option.bind_eq_bind, Option.join_some, Option.join_none, tNever, List.getD_cons_zero, List.getD_cons_succ, List.getElem?_nil, tMM, rSetK, rLenSet, fw_zip, lw_zip, fw_enum, lw_enum, tPar, tPar3, tSl, tNoPart, tPart, rCat2, rSlL, exP2, $[$ts:term],*])
section
variable {P : Program} {w : World} {K : PySem.W.Frag} {mg : Str → Option Value} {base : Heap}
theorem bls_get {bs : List Bool} {k : Nat} (h : k < bs.length) : ∃ c, atI (bs.map V.bl) (k : Int) = some (.bl c) := by
  refine ⟨bs[k], atI_nat ?_⟩
  rw [List.getElem?_map, List.getElem?_eq_getElem h]; rfl
def spHoled : Sp := fun vs H Q _ => ∃ (b : Addr) (v : V) (W : Wd) (n : Nat), vs = [.ref b, v] ∧ n < 2 ^ 36 ∧ Bx H b n ∧ Tr H W.d v ∧ W.Ok ∧ ∀ (r : V) (W' : Wd) (H' : Hp), Tr H' W'.d r → W'.Ok → SameX b H H' → Bx H' b (n + 40) → Q r H'
theorem ok__law_holed {f : Addr} {fd : FuncData} (F : Fun K "_law_holed" "_law_holed" s__law_holed f fd) (D__law_take : Def P w K mg base "_law_take" 1 ["_law_box_here", "_law_many_here"] spTake) (z_enumerate : mg "enumerate" = none) (z_tuple : mg "tuple" = none) : FnOk P w K mg base CX0 2 f fd ["_law_box_here", "_law_wide_here"] spHoled := by
  obtain ⟨f__law_take, fd__law_take, G__law_take, b__law_take, kp__law_take, m__law_take⟩ := D__law_take
  refine F.ok sc__law_holed (fun vs H Q E h => ?_) (fun cdv A outer s H vs Q E hr h => ?_)
  · obtain ⟨b, v, W, n, rfl, hn, B, t, ok, q⟩ := h
    rfl
  obtain ⟨b, v, W, n, rfl, hn, B, t, ok, q⟩ := h
  have hu := hr.units
  have hgd := hr.gd
  refine by_Q (qss_cons (qs_set (i := 2) sc__law_holed.nd rfl (Or.inr rfl) (qe_op_add qe_int (qe_callU G__law_take (hr.mono (by omega)) rfl m__law_take kp__law_take b__law_take .nil pass0 (qa_c (qv 0) (qa_c qe_int qa_nil)))))
      (qss_cons (by exact (qs_setLC (i := 3) sc__law_holed.nd rfl (Or.inl rfl) (N' := ["_law_row", "_law_box_here", "_law_often"]) (idx := [none, some 0, some 2]) (lcs_of rfl rfl (by decide +kernel) rfl rfl rfl) rfl (qi_seq (Kq := K) rfl (qe_ixF (qv 1) qe_int plain_int)) (fun _ _ _ _ _ => by exact (qg_name (i := 0) (by show (["_law_row", "_law_box_here", "_law_often"] : List Str).Nodup; decide +kernel) rfl (Or.inl rfl))) (fun _ _ _ _ _ => by exact qts_nil) (fun _ _ _ _ _ => by exact (qe_op_eq (qe_callU G__law_take (hr.mono (by omega)) rfl m__law_take kp__law_take b__law_take .nil pass0 (qa_c (qv 1) (qa_c (qv 2) qa_nil))) qe_int))))
      (qss_cons (by exact (qs_setLC (i := 4) sc__law_holed.nd rfl (Or.inl rfl) (N' := ["_law_head", "_law_box_here", "_law_often"]) (idx := [none, some 0, some 2]) (lcs_of rfl rfl (by decide +kernel) rfl rfl rfl) rfl (qi_seq (Kq := K) rfl (qe_ixF (qv 1) qe_int plain_int)) (fun _ _ _ _ _ => by exact (qg_name (i := 0) (by show (["_law_head", "_law_box_here", "_law_often"] : List Str).Nodup; decide +kernel) rfl (Or.inl rfl))) (fun _ _ _ _ _ => by exact qts_nil) (fun _ _ _ _ _ => by exact (qe_op_eq (qe_callU G__law_take (hr.mono (by omega)) rfl m__law_take kp__law_take b__law_take .nil pass0 (qa_c (qv 1) (qa_c (qe_op_add (qv 2) qe_int) qa_nil))) qe_int))))
      (qss_cons (qs_set (i := 5) sc__law_holed.nd rfl (Or.inl rfl) (qe_lst qa_nil))
      (qss_cons (qs_for PassesOwn.never rfl (qi_enum rfl z_enumerate (qa_c (qe_ixF (qv 1) qe_int plain_int) qa_nil)) (qg_tup (Kq := K) rfl (n := 2) rfl (qgs_cons (qg_name (i := 6) sc__law_holed.nd rfl (Or.inl rfl)) (qgs_cons (qg_tup (Kq := K) rfl (n := 2) rfl (qgs_cons (qg_name (i := 7) sc__law_holed.nd rfl (Or.inl rfl)) (qgs_cons (qg_name (i := 8) sc__law_holed.nd rfl (Or.inl rfl)) qgs_nil))) qgs_nil))) (qss_cons (qs_set (i := 9) sc__law_holed.nd rfl (Or.inl rfl) (qe_lst qa_nil))
      (qss_cons (qs_for PassesOwn.never rfl (qi_enum rfl z_enumerate (qa_c (qv 8) qa_nil)) (qg_tup (Kq := K) rfl (n := 2) rfl (qgs_cons (qg_name (i := 10) sc__law_holed.nd rfl (Or.inl rfl)) (qgs_cons (qg_name (i := 11) sc__law_holed.nd rfl (Or.inl rfl)) qgs_nil))) (qss_one (qs_expr (qe_append (Kq := K) rfl (qv 9) (qe_ifExp (QW.qt (qw_or (qt_val (qe_ixF (qv 3) (qv 6) plain_name)) (qw_or1 (qt_val (qe_ixF (qv 4) (qv 10) plain_name))))) qe_non (qv 11))))))
      (qss_one (qs_expr (qe_append (Kq := K) rfl (qv 5) (qe_tup (qa_c (qv 7) (qa_c (qe_call_tuple_of (Kq := K) rfl rfl z_tuple (qa_c (qv 9) qa_nil)) qa_nil)))))))))
      (qss_one (qs_ret (qe_op_cat2 (qe_slice sl_tup (qv 1) qo_none (qo_some qe_int)) (qe_tup (qa_c (qe_call_tuple_of (Kq := K) rfl rfl z_tuple (qa_c (qv 5) qa_nil)) qa_nil)))))))))) ?_
  obtain ⟨a, a0, a1, a2, a3, a4, hvs, rvs, rfl, e, e0, e1, e2, e3, th, e4, tr⟩ := Wd.parts ok t
  have rl := tr.length
  rw [List.length_map] at rl
  have rl12 := ok.rlen
  have hl := th.length
  rw [List.length_map] at hl
  have hl12 := ok.hlen
  refine seq_step fun k1 hk1 => ?_
  walk_at "rd"
  refine ⟨b, 3, n, rfl, by decide, by decide, by omega, B, fun m H1 m0 m3 SX1 B1 => ⟨m, rfl, ?_⟩⟩
  refine hk1 _ _ ?_
  have ST1 : SameT H H1 := SX1.t B
  refine seq_step fun k2 hk2 => ?_
  have f4 : ixF H1 (.ref a) (.int 4) = some (.ref a4) := by rw [ix_tupF (ST1 _ _ e)]; exact atI_nat (j := 4) rfl
  wp_walk using f4
  refine .inr ⟨rvs, ST1 _ _ e4, ?_⟩
  refine lcW_tup (xs := rvs) (fun k σ acc G => SameX b H G ∧ Bx G b (n + 1 + k) ∧ (∃ bs : List Bool, acc = bs.map V.bl ∧ bs.length = k) ∧ ∃ o, σ = [o, some (.ref b), some (.int (1 + m))]) ⟨SX1, B1, ⟨[], rfl, rfl⟩, _, rfl⟩ (fun k σ acc G hk h => ⟨h.1.t B _ _ e4, by obtain ⟨_, _, ⟨bs, rfl, h2⟩, _⟩ := h; rw [List.length_map]; omega⟩) (Nat.le_trans (by omega : _ ≤ 12) (by decide)) (fun k x σ acc G hx h => ?_) (fun σ acc G h po hpo => ?_)
  · obtain ⟨SX, BX, ⟨bs, rfl, lb⟩, o, rfl⟩ := h
    have kl := (List.getElem?_eq_some_iff.mp hx).1
    walk_at "rd"
    refine ⟨b, 1 + m, n + 1 + k, rfl, by omega, by omega, by omega, BX, fun z G2 z0 z1 SX2 B2 => ?_⟩
    exact ⟨rfl, SX.trans SX2, B2.mono (by omega), ⟨bs ++ [decide (V.int z = V.int 0)], by simp, by simp [lb]⟩, by simp⟩
  · obtain ⟨SX, BX, ⟨bs, rfl, lb⟩, o, rfl⟩ := h
    refine hk2 _ _ ?_
    have So := same_new' hpo (.lst (bs.map V.bl))
    have nbo : po ≠ b := BX.ne hpo
    have ho1 : upd G po (.lst (bs.map V.bl)) po = some (.lst (bs.map V.bl)) := upd_same
    have B2 := BX.same So
    have SX2 : SameX b H (upd G po (.lst (bs.map V.bl))) := SX.trans (SameX.same So)
    generalize upd G po (.lst (bs.map V.bl)) = H2 at So ho1 B2 SX2
    have ST2 := SX2.t B
    refine seq_step fun k3 hk3 => ?_
    have f3 : ixF H2 (.ref a) (.int 3) = some (.ref a3) := by rw [ix_tupF (ST2 _ _ e)]; exact atI_3 _ _ _ _ _
    wp_walk using f3
    refine .inr ⟨hvs, ST2 _ _ e3, ?_⟩
    refine lcW_tup (xs := hvs) (fun k σ acc G => SameX b H2 G ∧ Bx G b (n + 13 + k) ∧ (∃ bs : List Bool, acc = bs.map V.bl ∧ bs.length = k) ∧ ∃ o, σ = [o, some (.ref b), some (.int (1 + m))]) ⟨SameX.refl _ _, B2.mono (by omega), ⟨[], rfl, rfl⟩, _, rfl⟩ (fun k σ acc G hk h => ⟨h.1.t B2 _ _ (ST2 _ _ e3), by obtain ⟨_, _, ⟨bs, rfl, h2⟩, _⟩ := h; rw [List.length_map]; omega⟩) (Nat.le_trans (by omega : _ ≤ 12) (by decide)) (fun k x σ acc G hx h => ?_) (fun σ acc G h qo hqo => ?_)
    · obtain ⟨SX, BX, ⟨bs, rfl, lb⟩, o, rfl⟩ := h
      have kl := (List.getElem?_eq_some_iff.mp hx).1
      walk_at "rd"
      refine ⟨b, 1 + m + 1, n + 13 + k, rfl, by omega, by omega, by omega, BX, fun z G2 z0 z1 SX2 B2 => ?_⟩
      exact ⟨rfl, SX.trans SX2, B2.mono (by omega), ⟨bs ++ [decide (V.int z = V.int 0)], by simp, by simp [lb]⟩, by simp⟩
    · obtain ⟨SX, BX, ⟨bs2, rfl, lb2⟩, o, rfl⟩ := h
      refine hk3 _ _ ?_
      refine seq_step fun k4 hk4 => ?_
      walk_at "rd"
      refine ⟨by decide, fun pr hpr => ?_⟩
      refine hk4 _ _ ?_
      have Sq := same_new' hqo (.lst (bs2.map V.bl))
      have Sr := same_new' hpr (.lst [])
      have Y := Sq.trans Sr
      have ho3 := Y _ _ (SX po _ nbo ho1)
      have hq3 : upd (upd G qo (.lst (bs2.map V.bl))) pr (.lst []) qo = some (.lst (bs2.map V.bl)) := Sr _ _ upd_same
      have hr3 : upd (upd G qo (.lst (bs2.map V.bl))) pr (.lst []) pr = some (.lst []) := upd_same
      have B3 := (BX.same Y).mono (show n + 13 + hvs.length ≤ n + 40 by omega)
      have SX3 : SameX b H (upd (upd G qo (.lst (bs2.map V.bl))) pr (.lst [])) := SX2.trans (SX.trans (SameX.same Y))
      have nor : po ≠ pr := ne_of_none (Sq _ _ (SX po _ nbo ho1)) hpr
      have nqr : qo ≠ pr := ne_of_none upd_same hpr
      have nrb : pr ≠ b := (BX.same Sq).ne hpr
      have nHr : ∀ x o, x ≠ b → H x = some o → x ≠ pr := fun x o nx ex => ne_of_none (Sq _ _ (SX x _ nx (SX2 x _ nx ex))) hpr
      generalize upd (upd G qo (.lst (bs2.map V.bl))) pr (.lst []) = H3 at Sr Y ho3 hq3 hr3 B3 SX3
      have ST3 := SX3.t B
      refine seq_step fun k5 hk5 => ?_
      have g4 : ixF H3 (.ref a) (.int 4) = some (.ref a4) := by rw [ix_tupF (ST3 _ _ e)]; exact atI_nat (j := 4) rfl
      wp_walk using g4
      refine ⟨true, rvs, ST3 _ _ e4, ?_⟩
      refine forW_enumG (xs := rvs) (fun k σ G => (∀ x o, x ≠ pr → H3 x = some o → G x = some o) ∧ (∃ (acc : List V) (rs : List Rw), G pr = some (.lst acc) ∧ rs.length = k ∧ TrL G (rs.map rowD) acc ∧ ∀ r ∈ rs, RowOk W.heads.length r) ∧ ∃ o6 o7 o8 o9 p0 p1, σ = [some (.ref b), some (.ref a), some (.int (1 + m)), some (.ref po), some (.ref qo), some (.ref pr), o6, o7, o8, o9, p0, p1])
        ⟨fun _ _ _ ex => ex, ⟨[], [], hr3, rfl, rfl, fun r hr => by simp at hr⟩, _, _, _, _, _, _, rfl⟩ (fun k σ G h => h.1 _ _ (by intro z; have := ST3 _ _ e4; rw [z, hr3] at this; cases this) (ST3 _ _ e4)) (fun k x σ G p hx h hp => ?_) (fun σ G h => ?_)
      · obtain ⟨KG, ⟨acc, rs, hacc, lrs, trs, frs⟩, o6, o7, o8, o9, p0, p1, rfl⟩ := h
        have kl := (List.getElem?_eq_some_iff.mp hx).1
        have KT : ∀ x xs, H3 x = some (.tup xs) → G x = some (.tup xs) := fun x xs ex => KG x _ (by intro z; rw [z, hr3] at ex; cases ex) ex
        obtain ⟨dr, hd, tv⟩ := tr.get hx
        obtain ⟨r, hr2, rfl⟩ := map_get hd
        have rok := ok.rows r (List.mem_of_getElem? hr2)
        obtain ⟨qq, pp, cc, cvs, rfl, w0, w1, w2, tc⟩ := row_parts rok tv
        have cl := tc.length
        rw [List.length_map, rok.clen] at cl
        have Sp := same_new' hp (.tup [.int k, .ref qq])
        have hp1 : upd G p (.tup [.int k, .ref qq]) p = some (.tup [.int k, .ref qq]) := upd_same
        have KT1 : ∀ x xs, H3 x = some (.tup xs) → upd G p (.tup [.int k, .ref qq]) x = some (.tup xs) := fun x xs ex => Sp _ _ (KT x xs ex)
        have K1 : ∀ x o, x ≠ pr → H3 x = some o → upd G p (.tup [.int k, .ref qq]) x = some o := fun x o nx ex => Sp _ _ (KG x o nx ex)
        have hacc1 := Sp _ _ hacc
        have trs1 := TrL.same Sp trs
        generalize upd G p (.tup [.int k, .ref qq]) = G1 at Sp hp1 KT1 K1 hacc1 trs1
        refine g3_of hp1 (KT1 _ _ (ST3 _ _ w0)) ?_
        simp only [List.set_cons_zero, List.set_cons_succ]
        refine seq_step fun k6 hk6 => ?_
        walk_at "rd"
        refine ⟨by decide, fun pw hpw => ?_⟩
        refine hk6 _ _ ?_
        have Sw := same_new' hpw (.lst [])
        have npw : pr ≠ pw := ne_of_none hacc1 hpw
        have hw0 : upd G1 pw (.lst []) pw = some (.lst []) := upd_same
        have K2 : ∀ x o, x ≠ pr → H3 x = some o → upd G1 pw (.lst []) x = some o := fun x o nx ex => Sw _ _ (K1 x o nx ex)
        have nw : ∀ x o, x ≠ pr → H3 x = some o → x ≠ pw := fun x o nx ex => ne_of_none (K1 x o nx ex) hpw
        have KT2 : ∀ x xs, H3 x = some (.tup xs) → upd G1 pw (.lst []) x = some (.tup xs) := fun x xs ex => Sw _ _ (KT1 x xs ex)
        have nwT : ∀ x xs, H3 x = some (.tup xs) → x ≠ pw := fun x xs ex => ne_of_none (KT1 x xs ex) hpw
        have hacc2 := Sw _ _ hacc1
        have trs2 := TrL.same Sw trs1
        generalize upd G1 pw (.lst []) = G2 at Sw hw0 K2 KT2 hacc2 trs2
        refine seq_step fun k7 hk7 => ?_
        walk_at "rd"
        refine ⟨true, cvs, KT2 _ _ (ST3 _ _ w2), ?_⟩
        refine forW_enum (xs := cvs) (fun j σ G3 => (∀ x o, x ≠ pw → G2 x = some o → G3 x = some o) ∧ (∃ (us : List V) (cs : List (Option (List V))), G3 pw = some (.lst us) ∧ us.length = j ∧ cs.length = j ∧ TrL G3 (cs.map cellD) us ∧ ∀ c ∈ cs, FVc c) ∧ ∃ p0 p1, σ = [some (.ref b), some (.ref a), some (.int (1 + m)), some (.ref po), some (.ref qo), some (.ref pr), some (.int (k : Int)), some (.ref pp), some (.ref cc), some (.ref pw), p0, p1])
          ⟨fun _ _ _ ex => ex, ⟨[], [], hw0, rfl, rfl, rfl, fun c hc => by simp at hc⟩, _, _, rfl⟩ (fun j σ G3 h => h.1 _ _ (nwT _ _ (ST3 _ _ w2)) (KT2 _ _ (ST3 _ _ w2))) (fun j y σ G3 p5 hy h hp5 => ?_) (fun σ G3 h => ?_)
        · obtain ⟨K3, ⟨us, cs, hus, lus, lcs, tus, fcs⟩, p0', p1', rfl⟩ := h
          have jl := (List.getElem?_eq_some_iff.mp hy).1
          obtain ⟨dc, hdc, ty⟩ := tc.get hy
          obtain ⟨c, hc, rfl⟩ := map_get hdc
          have fc := rok.cells c (List.mem_of_getElem? hc)
          have S5 := same_new' hp5 (.tup [.int j, y])
          have ho5 := S5 _ _ (K3 _ _ (nw _ _ nor ho3) (K2 _ _ nor ho3))
          have hq5 := S5 _ _ (K3 _ _ (nw _ _ nqr hq3) (K2 _ _ nqr hq3))
          have hus5 := S5 _ _ hus
          have tus5 := TrL.same S5 tus
          have K5 : ∀ x o, x ≠ pw → G2 x = some o → upd G3 p5 (.tup [.int j, y]) x = some o := fun x o nx ex => S5 _ _ (K3 x o nx ex)
          generalize upd G3 p5 (.tup [.int j, y]) = G5 at S5 ho5 hq5 hus5 tus5 K5
          have ty5 : Tr G5 (cellD c) y := ty.sameT (fun x xs ex => K5 x _ (nwT x xs (ST3 _ _ ex)) (KT2 x xs (ST3 _ _ ex))) (cellD_good fc).noL
          have add : ∀ (c' : Option (List V)) (v' : V), FVc c' → Tr G5 (cellD c') v' → TrL (upd G5 pw (.lst (us ++ [v']))) ((cs ++ [c']).map cellD) (us ++ [v']) ∧ ∀ c ∈ cs ++ [c'], FVc c := fun c' v' f' t' => ⟨by
            rw [List.map_append]
            exact (tus5.sameT (SameT.updL hus5) (cells_noL fcs)).app (TrL.one (Tr.sameT (SameT.updL hus5) (cellD_good f').noL t')), fun c hc => by
            rcases List.mem_append.mp hc with hc | hc
            · exact fcs c hc
            · rw [List.mem_singleton.mp hc]; exact f'⟩
          have fin : ∀ v' : V, ∀ x o, x ≠ pw → G2 x = some o → upd G5 pw (.lst (us ++ [v'])) x = some o := fun v' x o nx ex => by rw [upd_ne nx]; exact K5 x o nx ex
          obtain ⟨b1, i1⟩ := bls_get (bs := bs) (k := k) (by omega)
          obtain ⟨b2, i2⟩ := bls_get (bs := bs2) (k := j) (by omega)
          rw [← ix_lstF ho5] at i1
          rw [← ix_lstF hq5] at i2
          have fn : FVc none := fun vs h => by cases h
          have le : us.length < sizeLine := Nat.lt_of_le_of_lt (by omega : _ ≤ 12) (by decide)
          cases b1 with
          | true =>
            wp_walk using i1
            refine ⟨tyV_list hus5, us, hus5, le, ?_⟩
            exact ⟨fin _, ⟨by simp [lus], cs ++ [none], by simp [lcs], (add none .non fn rfl).1, (add none .non fn rfl).2⟩, by simp⟩
          | false =>
            cases b2 with
            | true =>
              wp_walk using i1, i2
              refine ⟨tyV_list hus5, us, hus5, le, ?_⟩
              exact ⟨fin _, ⟨by simp [lus], cs ++ [none], by simp [lcs], (add none .non fn rfl).1, (add none .non fn rfl).2⟩, by simp⟩
            | false =>
              wp_walk using i1, i2
              refine ⟨tyV_list hus5, us, hus5, le, ?_⟩
              exact ⟨fin _, ⟨by simp [lus], cs ++ [c], by simp [lcs], (add c y fc ty5).1, (add c y fc ty5).2⟩, by simp⟩
        · obtain ⟨K3, ⟨us, cs, hus, lus, lcs, tus, fcs⟩, p0', p1', rfl⟩ := h
          refine hk7 _ _ ?_
          have hacc3 := K3 _ _ npw hacc2
          have KT3 : SameT G2 G3 := fun x xs ex => K3 x _ (by intro z; rw [z, hw0] at ex; cases ex) ex
          have trs3 := trs2.sameT KT3 (rows_noL hl12 frs)
          walk_at "rd"
          refine ⟨tyV_list hacc3, us, .inl ⟨SqL.of hus, fun p6 hp6 => ⟨by decide, fun p7 hp7 => ?_⟩⟩⟩
          have Y6 := same_new' hp6 (.tup us)
          have Y7 := same_new' hp7 (.tup [.ref pp, .ref p6])
          have Y8 := Y6.trans Y7
          have hacc8 := Y8 _ _ hacc3
          have rok' : RowOk W.heads.length (r.1, cs) := ⟨rok.part, rok.plen, fcs, by (show cs.length = _; omega)⟩
          have tp : Tr (upd (upd G3 p6 (.tup us)) p7 (.tup [.ref pp, .ref p6])) (rowD (r.1, cs)) (.ref p7) := ⟨p7, _, rfl, upd_same, _, _, rfl, tupD_tr rok.part (Y8 _ _ (KT3 _ _ (KT2 _ _ (ST3 _ _ w1)))), _, _, rfl, ⟨p6, us, rfl, Y7 _ _ upd_same, TrL.same Y8 tus⟩, rfl⟩
          have la := trs.length
          rw [List.length_map] at la
          refine ⟨acc, hacc8, Nat.lt_of_le_of_lt (by omega : _ ≤ 12) (by decide), ?_⟩
          refine ⟨fun x o nx ex => by rw [upd_ne nx]; exact Y8 _ _ (K3 _ _ (nw x o nx ex) (K2 x o nx ex)), ⟨rs ++ [(r.1, cs)], by simp [lrs], ?_, fun r' hr' => ?_⟩, by simp⟩
          · rw [List.map_append]
            exact ((TrL.same Y8 trs3).sameT (SameT.updL hacc8) (rows_noL hl12 frs)).app (TrL.one (Tr.sameT (SameT.updL hacc8) (rowD_good rok' hl12).noL tp))
          · rcases List.mem_append.mp hr' with hr' | hr'
            · exact frs r' hr'
            · rw [List.mem_singleton.mp hr']; exact rok'
      · obtain ⟨KG, ⟨acc, rs, hacc, lrs, trs, frs⟩, o6, o7, o8, o9, p0, p1, rfl⟩ := h
        refine hk5 _ _ ?_
        have KT : SameT H3 G := fun x xs ex => KG x _ (by intro z; rw [z, hr3] at ex; cases ex) ex
        have ST := ST3.trans KT
        walk_at "rd"
        refine ⟨a, _, rfl, SqT.of (ST _ _ e), fun h => absurd (show (4 : Nat) = 5 from h.2) (by decide), fun p1 hp1 => ?_⟩
        have c4 : cutV [V.ref a0, .ref a1, .ref a2, .ref a3, .ref a4] none (some 4) = [.ref a0, .ref a1, .ref a2, .ref a3] := rfl
        rw [c4]
        have T1 := same_new' hp1 (.tup [.ref a0, .ref a1, .ref a2, .ref a3])
        refine ⟨acc, .inl ⟨SqL.of (T1 _ _ hacc), fun p2 hp2 => ⟨by decide, fun p3 hp3 => ?_⟩⟩⟩
        have T2 := same_new' hp2 (.tup acc)
        have T3 := same_new' hp3 (.tup [.ref p2])
        refine ⟨p1, rfl, [.ref a0, .ref a1, .ref a2, .ref a3], (T2.trans T3) _ _ upd_same, (show 4 + 1 ≤ sizeLine by decide), fun p4 G4 S4 h4 => ?_⟩
        have Z := T1.trans (T2.trans (T3.trans S4))
        have U4 : SameT H G4 := fun x xs ex => Z _ _ (ST _ _ ex)
        have B4 : Bx G4 b (n + 40) := by
          obtain ⟨x, y, z, eb, r1⟩ := B3
          exact ⟨x, y, z, Z _ _ (KG _ _ nrb.symm eb), r1⟩
        refine q (.ref p4) { W with rows := rs } G4 ?_ ⟨ok.key, ok.klen, ok.names, ok.nlen, ok.vals, ok.vlen, ok.heads, ok.hlen, frs, by (show rs.length ≤ 12; omega)⟩ (fun x o nx ex => Z _ _ (KG x o (nHr x o nx ex) (SX3 x o nx ex))) B4
        exact ⟨p4, _, rfl, h4, _, _, rfl, tupD_tr ok.key (U4 _ _ e0), _, _, rfl, tupD_tr ok.names (U4 _ _ e1), _, _, rfl, tupD_tr ok.vals (U4 _ _ e2), _, _, rfl, ⟨a3, hvs, rfl, U4 _ _ e3, th.sameT U4 (noLs_tup fun h hh => (ok.heads h hh).1)⟩, _, _, rfl, ⟨p2, acc, rfl, (T3.trans S4) _ _ upd_same, TrL.same Z trs⟩, rfl⟩
end
end K
namespace K
open PySem L2
local macro_rules | `(tactic| walk_at "rd") => `(tactic| simp only [tSeq, tIfS, tTest, tB, tOp, tUn, tVar, tC, tAsg, gName, gSub, tRet, tRetN, tDrop, tNext, tNil, tCons, tCB, tCall, tTup, tLst, tNot, tAnd, tOr, tNotV, tAndV, tOrV, tIf, rIxF, rI0, rI, rU, rSetL, rCat, rRep, rEq, rNe, L2.start, List.map_cons, List.map_nil, List.cons_append, List.nil_append, List.append_nil, List.length_cons, List.length_nil, List.replicate, List.getElem?_cons_zero, List.getElem?_cons_succ, List.set_cons_zero, List.set_cons_succ, V.int.injEq, V.ref.injEq, V.bl.injEq, V.str.injEq, V.ty.injEq, Option.some.injEq, List.cons.injEq, reduceCtorEq, exists_eq_left', exists_eq_left, exists_eq_right, exists_eq_right', exists_and_left, false_and, and_false, true_and, and_true, exists_false, exists_const, or_false, false_or, scal, decide_eq_true_eq, upd_same, Nat.zero_add, Nat.reduceAdd, Nat.reduceSub, HO.lst.injEq, HO.tup.injEq, atI_0, atI_1, atI_2, atI_3, ixN_30, ixN_31, ixN_32, Int.reduceNeg, tK, tBM, rAppF, rr_isi, rr_isi2, rr_lenF, rr_abs, rr_int_i, rr_int_b, rr_any, rr_all, rr_sum, rr_strI, rr_strD, rr_tuple, rr_list, kv_non, kv_bl, kv_int, kv_str, sk_NoneType_int, sk_NoneType_str, sk_NoneType_bool, sk_NoneType_list, sk_NoneType_tuple, sk_bool_int, sk_bool_str, sk_bool_bool, sk_bool_list, sk_bool_tuple, sk_int_int, sk_int_str, sk_int_bool, sk_int_list, sk_int_tuple, sk_str_int, sk_str_str, sk_str_bool, sk_str_list, sk_str_tuple, sk_list_int, sk_list_str, sk_list_bool, sk_list_list, sk_list_tuple, sk_tuple_int, sk_tuple_str, sk_tuple_bool, sk_tuple_list, sk_tuple_tuple, decide_true, decide_false, Bool.false_eq_true, if_true, if_false, ite_true, ite_false, ne_eq, not_false_eq_true, not_true_eq_false, Bool.not_true, Bool.not_false, lw_seq, lw_rng, fw_seq, fw_rng, tYes, cst, Option.map_some, Option.map_none, Option.bind_some, Option.bind_none, Option.getD_some, Option.getD_none, Option.bind_eq_bind, Option.join_some, Option.join_none, tNever, List.getD_cons_zero, List.getD_cons_succ, List.getElem?_nil, tMM, rSetK, rLenSet, fw_zip, lw_zip, fw_enum, lw_enum, tPar, tPar3, tSl, tNoPart, tPart, rCat2, rSlL, exP2])
local macro_rules | `(tactic| wp_walk using $ts,*) => `(tactic| simp only [tSeq, tIfS, tTest, tB, tOp, tUn, tVar, tC, tAsg, gName, gSub, tRet, tRetN, tDrop, tNext, tNil, tCons, tCB, tCall, tTup, tLst, tNot, tAnd, tOr, tNotV, tAndV, tOrV, tIf, rIxF, rI0, rI, rU, rSetL, rCat, rRep, rEq, rNe, L2.start, List.map_cons, List.map_nil, List.cons_append, List.nil_append, List.append_nil, List.length_cons, List.length_nil, List.replicate, List.getElem?_cons_zero, List.getElem?_cons_succ, List.set_cons_zero, List.set_cons_succ, V.int.injEq, V.ref.injEq, V.bl.injEq, V.str.injEq, V.ty.injEq, Option.some.injEq, List.cons.injEq, reduceCtorEq, exists_eq_left', exists_eq_left, exists_eq_right, exists_eq_right', exists_and_left, false_and, and_false, true_and, and_true, exists_false, exists_const, or_false, false_or, scal, decide_eq_true_eq, upd_same, Nat.zero_add, Nat.reduceAdd, Nat.reduceSub, HO.lst.injEq, HO.tup.injEq, atI_0, atI_1, atI_2, atI_3, ixN_30, ixN_31, ixN_32, Int.reduceNeg, tK, tBM, rAppF, rr_isi, rr_isi2, rr_lenF, rr_abs, rr_int_i, rr_int_b, rr_any, rr_all, rr_sum, rr_strI, rr_strD, rr_tuple, rr_list, kv_non, kv_bl, kv_int, kv_str, sk_NoneType_int, sk_NoneType_str, sk_NoneType_bool, sk_NoneType_list, sk_NoneType_tuple, sk_bool_int, sk_bool_str, sk_bool_bool, sk_bool_list, sk_bool_tuple, sk_int_int, sk_int_str, sk_int_bool, sk_int_list, sk_int_tuple, sk_str_int, sk_str_str, sk_str_bool, sk_str_list, sk_str_tuple, sk_list_int, sk_list_str, sk_list_bool, sk_list_list, sk_list_tuple, sk_tuple_int, sk_tuple_str, sk_tuple_bool, sk_tuple_list, sk_tuple_tuple, decide_true, decide_false, Bool.false_eq_true, if_true, if_false, ite_true, ite_false, ne_eq, not_false_eq_true, not_true_eq_false, Bool.not_true, Bool.not_false, lw_seq, lw_rng, fw_seq, fw_rng, tYes, cst, Option.map_some, Option.map_none, Option.bind_some, Option.bind_none, Option.getD_some, Option.getD_none, Option.bind_eq_bind, Option.join_some, Option.join_none, tNever, List.getD_cons_zero, List.getD_cons_succ, List.getElem?_nil, tMM, rSetK, rLenSet, fw_zip, lw_zip, fw_enum, lw_enum, tPar, tPar3, tSl, tNoPart, tPart, rCat2, rSlL, exP2, $[$ts:term],*])
section
variable {P : Program} {w : World} {K : PySem.W.Frag} {mg : Str → Option Value} {base : Heap}
def spLaw (K : PySem.W.Frag) : Sp := fun vs H Q _ => ∃ (a : Addr) (ns : List Int), vs = [.ref a] ∧ SqL K H a (ns.map V.int) ∧ ns.length ≤ 63 ∧ ∀ H', Q (.bl true) H'
theorem SqL.same {K : PySem.W.Frag} {H H' : Hp} {a : Addr} {xs : List V} (S : Same H H') (h : SqL K H a xs) : SqL K H' a xs := by
  rcases h with h | h
  · rcases h with h | ⟨o, h⟩
    · exact .inl (.inl (S _ _ h))
    · exact .inl (.inr ⟨o, S _ _ h⟩)
  · exact .inr h
mutual
theorem eqv_same : ∀ d : PyData, noL d = true → PyData.eqv d d = true
  | .none, _ => rfl
  | .bool b, _ => by simp [PyData.eqv]
  | .int i, _ => by simp [PyData.eqv]
  | .str x, _ => by simp [PyData.eqv]
  | .tuple ds, h => eqv_sames ds h
  | .list ds, h => nomatch h
  | .dict kv, h => nomatch h
theorem eqv_sames : ∀ ds : List PyData, noLs ds = true → PyData.eqvAll ds ds = true
  | [], _ => rfl
  | d :: r, h => by
    obtain ⟨n1, n2⟩ := Bool.and_eq_true_iff.mp (show (noL d && noLs r) = true from h)
    show (PyData.eqv d d && PyData.eqvAll r r) = true
    rw [eqv_same d n1, eqv_sames r n2]
    rfl
end
theorem ok_law {f : Addr} {fd : FuncData} (F : Fun K "law" "law" s_law f fd) (D_emptied : Def P w K mg base "emptied" 3 ["wide"] spEmp) (D__law_box : Def P w K mg base "_law_box" 2 ["_law_script", "_law_k"] (spBox K)) (D__law_wide : Def P w K mg base "_law_wide" 5 ["_law_box_here", "_law_numbers"] spWide) (D__law_same : Def P w K mg base "_law_same" 8 ["_law_found", "_law_due_here"] (spSame 8)) (D__law_holed : Def P w K mg base "_law_holed" 2 ["_law_box_here", "_law_wide_here"] spHoled) (D__law_due : Def P w K mg base "_law_due" 1 ["_law_wide_here"] spEmp) (z_range : mg "range" = none) (z_str : mg "str" = none) : FnOk P w K mg base CX0 9 f fd ["_law_script"] (spLaw K) := by
  obtain ⟨f_emptied, fd_emptied, G_emptied, b_emptied, kp_emptied, m_emptied⟩ := D_emptied
  obtain ⟨f__law_box, fd__law_box, G__law_box, b__law_box, kp__law_box, m__law_box⟩ := D__law_box
  obtain ⟨f__law_wide, fd__law_wide, G__law_wide, b__law_wide, kp__law_wide, m__law_wide⟩ := D__law_wide
  obtain ⟨f__law_same, fd__law_same, G__law_same, b__law_same, kp__law_same, m__law_same⟩ := D__law_same
  obtain ⟨f__law_holed, fd__law_holed, G__law_holed, b__law_holed, kp__law_holed, m__law_holed⟩ := D__law_holed
  obtain ⟨f__law_due, fd__law_due, G__law_due, b__law_due, kp__law_due, m__law_due⟩ := D__law_due
  refine F.ok sc_law (fun vs H Q E h => ?_) (fun cdv A outer s H vs Q E hr h => ?_)
  · obtain ⟨a, ns, rfl, hS, hl, q⟩ := h
    rfl
  obtain ⟨a, ns, rfl, hS, hl, q⟩ := h
  have hu := hr.units
  have hgd := hr.gd
  refine by_Q (qss_cons (qs_for PassesOwn.never rfl (qi_range1 rfl z_range (qa_c qe_int qa_nil)) (qg_name (i := 1) sc_law.nd rfl (Or.inl rfl)) (qss_cons (qs_set (i := 2) sc_law.nd rfl (Or.inl rfl) (qe_callU G__law_box (hr.mono (by omega)) rfl m__law_box kp__law_box b__law_box .nil pass0 (qa_c (qv 0) (qa_c (qv 1) qa_nil))))
      (qss_cons (qs_set (i := 3) sc_law.nd rfl (Or.inl rfl) (qe_callU G__law_wide (hr.mono (by omega)) rfl m__law_wide kp__law_wide b__law_wide .nil pass0 (qa_c (qv 2) (qa_c qe_bl qa_nil))))
      (qss_one (qs_for PassesOwn.never rfl (qi_seq (Kq := K) rfl (qe_tup (qa_c (qv 3) (qa_c (qe_callU G__law_holed (hr.mono (by omega)) rfl m__law_holed kp__law_holed b__law_holed .nil pass0 (qa_c (qv 2) (qa_c (qv 3) qa_nil))) (qa_c (qe_callU G__law_holed (hr.mono (by omega)) rfl m__law_holed kp__law_holed b__law_holed .nil pass0 (qa_c (qv 2) (qa_c (qv 3) qa_nil))) qa_nil))))) (qg_name (i := 4) sc_law.nd rfl (Or.inl rfl)) (qss_cons (qs_set (i := 5) sc_law.nd rfl (Or.inl rfl) (qe_callU G__law_due (hr.mono (by omega)) rfl m__law_due kp__law_due b__law_due .nil pass0 (qa_c (qv 4) qa_nil)))
      (qss_cons (qs_set (i := 6) sc_law.nd rfl (Or.inl rfl) (qe_call_strD (Kq := K) rfl hu hgd rfl z_str (qa_c (qv 4) qa_nil)))
      (qss_cons (qs_set (i := 7) sc_law.nd rfl (Or.inl rfl) (qe_callU G_emptied (hr.mono (by omega)) rfl m_emptied kp_emptied b_emptied .nil pass0 (qa_c (qv 4) qa_nil)))
      (qss_one (qs_if (QW.qt (qw_or (qt_not (qt_val (qe_callU G__law_same (hr.mono (by omega)) rfl m__law_same kp__law_same b__law_same .nil pass0 (qa_c (qv 7) (qa_c (qv 5) qa_nil))))) (qw_or (qt_op_neD hu (qe_callU G_emptied (hr.mono (by omega)) rfl m_emptied kp_emptied b_emptied .nil pass0 (qa_c (qv 7) qa_nil)) (qv 5)) (qw_or1 (qt_op_ne (qe_call_strD (Kq := K) rfl hu hgd rfl z_str (qa_c (qv 4) qa_nil)) (qv 6)))))) (qss_one (qs_ret qe_bl)) qss_nil))))))))))
      (qss_one (qs_ret qe_bl))) ?_
  refine seq_step fun k1 hk1 => ?_
  walk_at "rd"
  refine ⟨by decide, by decide, ?_⟩
  refine forW_rng (fun i σ G => Same H G ∧ ∃ o1 o2 o3 o4 o5 o6 o7, σ = [some (.ref a), o1, o2, o3, o4, o5, o6, o7]) ⟨Same.refl, _, _, _, _, _, _, _, rfl⟩ (fun i σ G hi h => ?_) (fun σ G h => ?_)
  · obtain ⟨SG, o1, o2, o3, o4, o5, o6, o7, rfl⟩ := h
    have hi7 : i < 7 := hi
    refine seq_step fun k2 hk2 => ?_
    walk_at "rd"
    refine ⟨a, i, ns, by simp, SqL.same SG hS, hl, by omega, fun b H1 hb S1 B1 => ?_⟩
    refine hk2 _ _ ?_
    refine seq_step fun k3 hk3 => ?_
    walk_at "rd"
    refine ⟨b, 0, rfl, by decide, B1, fun v W H2 tW okW S2 B2 => ?_⟩
    refine hk3 _ _ ?_
    have hb0 : H b = none := by
      cases e : H b with
      | none => rfl
      | some o => have := SG b o e; rw [hb] at this; cases this
    have SH2 : Same H H2 := fun x o e => S2 x o (ne_of_none e hb0) (S1 x o (SG x o e))
    walk_at "rd"
    refine ⟨b, v, W, _, rfl, by decide, B2, tW, okW, fun v3 W3 H3 tW3 okW3 S3 B3 => ?_⟩
    have tW' := tW.sameT (S3.t B2) (Wd.good okW).2.noL
    refine ⟨b, v, W, _, rfl, by decide, B3, tW', okW, fun v4 W4 H4 tW4 okW4 S4 B4 => ⟨by decide, fun p9 hp9 => ?_⟩⟩
    have U4 := S4.t B3
    have t1 := tW'.sameT U4 (Wd.good okW).2.noL
    have t2 := tW3.sameT U4 (Wd.good okW3).2.noL
    have V4 : Same H H4 := fun x o e => S4 x o (ne_of_none e hb0) (S3 x o (ne_of_none e hb0) (SH2 x o e))
    have three : ∀ (m : Nat) (x : V), [v, v3, v4][m]? = some x → ∃ W' : Wd, W'.Ok ∧ Tr H4 W'.d x := by
      intro m x hx
      have hm := List.mem_of_getElem? hx
      simp only [List.mem_cons, List.not_mem_nil, or_false] at hm
      rcases hm with rfl | rfl | rfl
      · exact ⟨W, okW, t1⟩
      · exact ⟨W3, okW3, t2⟩
      · exact ⟨W4, okW4, tW4⟩
    have T9 := same_new' hp9 (.tup [v, v3, v4])
    have h9 : upd H4 p9 (.tup [v, v3, v4]) p9 = some (.tup [v, v3, v4]) := upd_same
    generalize upd H4 p9 (.tup [v, v3, v4]) = H5 at T9 h9
    refine forW_tup (xs := [v, v3, v4]) (fun m σ G => Same H5 G ∧ ∃ o4 o5 o6 o7, σ = [some (.ref a), some (.int (0 + (i : Int))), some (.ref b), some v, o4, o5, o6, o7]) ⟨Same.refl, _, _, _, _, rfl⟩ (fun m σ G hm h => h.1 _ _ h9) (fun m x σ G hm h => ?_) (fun σ G h => ?_)
    · obtain ⟨SGm, o4, o5, o6, o7, rfl⟩ := h
      obtain ⟨W', ok', tx⟩ := three m x hm
      have tx := Tr.same (T9.trans SGm) tx
      obtain ⟨ax, rfl⟩ : ∃ ax, x = .ref ax := by obtain ⟨a, _, e, _⟩ := tx; exact ⟨a, e⟩
      obtain ⟨s2, s3, s4, s5⟩ := Good.str (Wd.good ok').2
      have oke := emp_ok ok'
      have ge := (Wd.good oke).2
      refine seq_step fun k4 hk4 => ?_
      walk_at "rd"
      refine ⟨_, W', rfl, tx, ok', fun rdue Gd Sd td => ?_⟩
      refine hk4 _ _ ?_
      refine seq_step fun k5 hk5 => ?_
      walk_at "rd"
      refine ⟨_, Tr.same Sd tx, s2, s3, s4, s5, ?_⟩
      refine hk5 _ _ ?_
      refine seq_step fun k6 hk6 => ?_
      walk_at "rd"
      refine ⟨_, W', rfl, Tr.same Sd tx, ok', fun r1 G1 Sr1 tr1 => ?_⟩
      refine hk6 _ _ ?_
      walk_at "rd"
      refine ⟨r1, rdue, W'.emp.d, rfl, tr1, Tr.same Sr1 td, Nat.lt_of_le_of_lt ge.dep (by decide), Nat.le_trans ge.wgt (by decide), fun G2 Sr2 => ?_⟩
      refine ⟨true, rfl, ?_⟩
      rw [if_neg (by decide)]
      have SS := Sd.trans (Sr1.trans Sr2)
      refine ⟨r1, W'.emp, rfl, Tr.same Sr2 tr1, oke, fun r2 G3 Sr3 tr2 => ?_⟩
      rw [emp_emp ok'] at tr2
      refine ⟨W'.emp.d, W'.emp.d, tr2, Tr.same (Sr1.trans (Sr2.trans Sr3)) td, ge.flat (by decide), ge.flat (by decide), ?_⟩
      rw [eqv_same _ ge.noL]
      refine ⟨false, rfl, ?_⟩
      rw [if_neg (by decide)]
      refine ⟨W'.d, Tr.same (SS.trans Sr3) tx, s2, s3, s4, s5, ?_⟩
      rw [decide_eq_true rfl, if_neg (by decide)]
      exact ⟨SGm.trans (SS.trans Sr3), by simp⟩
    · obtain ⟨SGm, o4, o5, o6, o7, rfl⟩ := h
      exact ⟨fun x o e => SGm x o (T9 x o (V4 x o e)), _, _, _, _, _, _, _, rfl⟩
  · obtain ⟨SG, o1, o2, o3, o4, o5, o6, o7, rfl⟩ := h
    refine hk1 _ _ ?_
    walk_at "rd"
    exact q _
end
end K
namespace K
open PySem L2
theorem all_mk {l : PySem.W.OpenLaw} {w : World} {K : PySem.W.Frag} {h : Heap} {mg : Str → Option Value} {fa f1 f2 f3 f4 f5 f6 f7 f8 f9 f10 f11 f12 f13 f14 f15 f16 f17 f18 f19 : Addr} (X : K.In h) (G : h.Ns mainGlobals mg) (hfa : mg "law" = some (.ref fa))
    {od1 an1 od2 an2 od3 an3 od4 an4 od5 an5 od6 an6 od7 an7 od8 an8 od9 an9 od10 an10 od11 an11 od12 an12 od13 an13 od14 an14 od15 an15 od16 an16 od17 an17 od18 an18 od19 an19 : Option Addr} {sl1 sl2 sl3 sl4 sl5 sl6 sl7 sl8 sl9 sl10 sl11 sl12 sl13 sl14 sl15 sl16 sl17 sl18 sl19 : Array (Option Value)} {oc1 kV1 dc1 pm1 cd1 ct1 oc2 kV2 dc2 pm2 cd2 ct2 oc3 kV3 dc3 pm3 cd3 ct3 oc4 kV4 dc4 pm4 cd4 ct4 oc5 kV5 dc5 pm5 cd5 ct5 oc6 kV6 dc6 pm6 cd6 ct6 oc7 kV7 dc7 pm7 cd7 ct7 oc8 kV8 dc8 pm8 cd8 ct8 oc9 kV9 dc9 pm9 cd9 ct9 oc10 kV10 dc10 pm10 cd10 ct10 oc11 kV11 dc11 pm11 cd11 ct11 oc12 kV12 dc12 pm12 cd12 ct12 oc13 kV13 dc13 pm13 cd13 ct13 oc14 kV14 dc14 pm14 cd14 ct14 oc15 kV15 dc15 pm15 cd15 ct15 oc16 kV16 dc16 pm16 cd16 ct16 oc17 kV17 dc17 pm17 cd17 ct17 oc18 kV18 dc18 pm18 cd18 ct18 oc19 kV19 dc19 pm19 cd19 ct19 : Value}
    (a1 : PySem.W.nsIn K mainGlobals "values_at" = some (some (.ref f1))) (l1 : K.lookup f1 = some ⟨oc1, od1, .func (PySem.W.fnOf "values_at" "values_at" (defArgs s_values_at) (defBody s_values_at) (defScope s_values_at) .none kV1 dc1 pm1 an1 cd1 ct1), sl1⟩) (c1 : PySem.W.codeIn K cd1 "values_at" = true) (k1 : PySem.W.keepIn K (.ref f1) = true)
    (a2 : PySem.W.nsIn K mainGlobals "cells_under" = some (some (.ref f2))) (l2 : K.lookup f2 = some ⟨oc2, od2, .func (PySem.W.fnOf "cells_under" "cells_under" (defArgs s_cells_under) (defBody s_cells_under) (defScope s_cells_under) .none kV2 dc2 pm2 an2 cd2 ct2), sl2⟩) (c2 : PySem.W.codeIn K cd2 "cells_under" = true) (k2 : PySem.W.keepIn K (.ref f2) = true)
    (a3 : PySem.W.nsIn K mainGlobals "has_gaps_alone" = some (some (.ref f3))) (l3 : K.lookup f3 = some ⟨oc3, od3, .func (PySem.W.fnOf "has_gaps_alone" "has_gaps_alone" (defArgs s_has_gaps_alone) (defBody s_has_gaps_alone) (defScope s_has_gaps_alone) .none kV3 dc3 pm3 an3 cd3 ct3), sl3⟩) (c3 : PySem.W.codeIn K cd3 "has_gaps_alone" = true) (k3 : PySem.W.keepIn K (.ref f3) = true)
    (a4 : PySem.W.nsIn K mainGlobals "with_heads_at" = some (some (.ref f4))) (l4 : K.lookup f4 = some ⟨oc4, od4, .func (PySem.W.fnOf "with_heads_at" "with_heads_at" (defArgs s_with_heads_at) (defBody s_with_heads_at) (defScope s_with_heads_at) .none kV4 dc4 pm4 an4 cd4 ct4), sl4⟩) (c4 : PySem.W.codeIn K cd4 "with_heads_at" = true) (k4 : PySem.W.keepIn K (.ref f4) = true)
    (a5 : PySem.W.nsIn K mainGlobals "emptied" = some (some (.ref f5))) (l5 : K.lookup f5 = some ⟨oc5, od5, .func (PySem.W.fnOf "emptied" "emptied" (defArgs s_emptied) (defBody s_emptied) (defScope s_emptied) .none kV5 dc5 pm5 an5 cd5 ct5), sl5⟩) (c5 : PySem.W.codeIn K cd5 "emptied" = true) (k5 : PySem.W.keepIn K (.ref f5) = true)
    (a6 : PySem.W.nsIn K mainGlobals "_law_cell_at" = some (some (.ref f6))) (l6 : K.lookup f6 = some ⟨oc6, od6, .func (PySem.W.fnOf "_law_cell_at" "_law_cell_at" (defArgs s__law_cell_at) (defBody s__law_cell_at) (defScope s__law_cell_at) .none kV6 dc6 pm6 an6 cd6 ct6), sl6⟩) (c6 : PySem.W.codeIn K cd6 "_law_cell_at" = true) (k6 : PySem.W.keepIn K (.ref f6) = true)
    (a7 : PySem.W.nsIn K mainGlobals "_law_box" = some (some (.ref f7))) (l7 : K.lookup f7 = some ⟨oc7, od7, .func (PySem.W.fnOf "_law_box" "_law_box" (defArgs s__law_box) (defBody s__law_box) (defScope s__law_box) .none kV7 dc7 pm7 an7 cd7 ct7), sl7⟩) (c7 : PySem.W.codeIn K cd7 "_law_box" = true) (k7 : PySem.W.keepIn K (.ref f7) = true)
    (a8 : PySem.W.nsIn K mainGlobals "_law_take" = some (some (.ref f8))) (l8 : K.lookup f8 = some ⟨oc8, od8, .func (PySem.W.fnOf "_law_take" "_law_take" (defArgs s__law_take) (defBody s__law_take) (defScope s__law_take) .none kV8 dc8 pm8 an8 cd8 ct8), sl8⟩) (c8 : PySem.W.codeIn K cd8 "_law_take" = true) (k8 : PySem.W.keepIn K (.ref f8) = true)
    (a9 : PySem.W.nsIn K mainGlobals "_law_many" = some (some (.ref f9))) (l9 : K.lookup f9 = some ⟨oc9, od9, .func (PySem.W.fnOf "_law_many" "_law_many" (defArgs s__law_many) (defBody s__law_many) (defScope s__law_many) .none kV9 dc9 pm9 an9 cd9 ct9), sl9⟩) (c9 : PySem.W.codeIn K cd9 "_law_many" = true) (k9 : PySem.W.keepIn K (.ref f9) = true)
    (a10 : PySem.W.nsIn K mainGlobals "_law_names" = some (some (.ref f10))) (l10 : K.lookup f10 = some ⟨oc10, od10, .func (PySem.W.fnOf "_law_names" "_law_names" (defArgs s__law_names) (defBody s__law_names) (defScope s__law_names) .none kV10 dc10 pm10 an10 cd10 ct10), sl10⟩) (c10 : PySem.W.codeIn K cd10 "_law_names" = true) (k10 : PySem.W.keepIn K (.ref f10) = true)
    (a11 : PySem.W.nsIn K mainGlobals "_law_value" = some (some (.ref f11))) (l11 : K.lookup f11 = some ⟨oc11, od11, .func (PySem.W.fnOf "_law_value" "_law_value" (defArgs s__law_value) (defBody s__law_value) (defScope s__law_value) .none kV11 dc11 pm11 an11 cd11 ct11), sl11⟩) (c11 : PySem.W.codeIn K cd11 "_law_value" = true) (k11 : PySem.W.keepIn K (.ref f11) = true)
    (a12 : PySem.W.nsIn K mainGlobals "_law_number" = some (some (.ref f12))) (l12 : K.lookup f12 = some ⟨oc12, od12, .func (PySem.W.fnOf "_law_number" "_law_number" (defArgs s__law_number) (defBody s__law_number) (defScope s__law_number) .none kV12 dc12 pm12 an12 cd12 ct12), sl12⟩) (c12 : PySem.W.codeIn K cd12 "_law_number" = true) (k12 : PySem.W.keepIn K (.ref f12) = true)
    (a13 : PySem.W.nsIn K mainGlobals "_law_pool" = some (some (.ref f13))) (l13 : K.lookup f13 = some ⟨oc13, od13, .func (PySem.W.fnOf "_law_pool" "_law_pool" (defArgs s__law_pool) (defBody s__law_pool) (defScope s__law_pool) .none kV13 dc13 pm13 an13 cd13 ct13), sl13⟩) (c13 : PySem.W.codeIn K cd13 "_law_pool" = true) (k13 : PySem.W.keepIn K (.ref f13) = true)
    (a14 : PySem.W.nsIn K mainGlobals "_law_tuples" = some (some (.ref f14))) (l14 : K.lookup f14 = some ⟨oc14, od14, .func (PySem.W.fnOf "_law_tuples" "_law_tuples" (defArgs s__law_tuples) (defBody s__law_tuples) (defScope s__law_tuples) .none kV14 dc14 pm14 an14 cd14 ct14), sl14⟩) (c14 : PySem.W.codeIn K cd14 "_law_tuples" = true) (k14 : PySem.W.keepIn K (.ref f14) = true)
    (a15 : PySem.W.nsIn K mainGlobals "_law_wide" = some (some (.ref f15))) (l15 : K.lookup f15 = some ⟨oc15, od15, .func (PySem.W.fnOf "_law_wide" "_law_wide" (defArgs s__law_wide) (defBody s__law_wide) (defScope s__law_wide) .none kV15 dc15 pm15 an15 cd15 ct15), sl15⟩) (c15 : PySem.W.codeIn K cd15 "_law_wide" = true) (k15 : PySem.W.keepIn K (.ref f15) = true)
    (a16 : PySem.W.nsIn K mainGlobals "_law_same" = some (some (.ref f16))) (l16 : K.lookup f16 = some ⟨oc16, od16, .func (PySem.W.fnOf "_law_same" "_law_same" (defArgs s__law_same) (defBody s__law_same) (defScope s__law_same) .none kV16 dc16 pm16 an16 cd16 ct16), sl16⟩) (c16 : PySem.W.codeIn K cd16 "_law_same" = true) (k16 : PySem.W.keepIn K (.ref f16) = true)
    (a17 : PySem.W.nsIn K mainGlobals "_law_holed" = some (some (.ref f17))) (l17 : K.lookup f17 = some ⟨oc17, od17, .func (PySem.W.fnOf "_law_holed" "_law_holed" (defArgs s__law_holed) (defBody s__law_holed) (defScope s__law_holed) .none kV17 dc17 pm17 an17 cd17 ct17), sl17⟩) (c17 : PySem.W.codeIn K cd17 "_law_holed" = true) (k17 : PySem.W.keepIn K (.ref f17) = true)
    (a18 : PySem.W.nsIn K mainGlobals "_law_due" = some (some (.ref f18))) (l18 : K.lookup f18 = some ⟨oc18, od18, .func (PySem.W.fnOf "_law_due" "_law_due" (defArgs s__law_due) (defBody s__law_due) (defScope s__law_due) .none kV18 dc18 pm18 an18 cd18 ct18), sl18⟩) (c18 : PySem.W.codeIn K cd18 "_law_due" = true) (k18 : PySem.W.keepIn K (.ref f18) = true)
    (a19 : PySem.W.nsIn K mainGlobals "law" = some (some (.ref f19))) (l19 : K.lookup f19 = some ⟨oc19, od19, .func (PySem.W.fnOf "law" "law" (defArgs s_law) (defBody s_law) (defScope s_law) .none kV19 dc19 pm19 an19 cd19 ct19), sl19⟩) (c19 : PySem.W.codeIn K cd19 "law" = true) (k19 : PySem.W.keepIn K (.ref f19) = true)
    (y_abs : PySem.W.nsIn K mainGlobals "abs" = some none)
    (y_all : PySem.W.nsIn K mainGlobals "all" = some none)
    (y_any : PySem.W.nsIn K mainGlobals "any" = some none)
    (y_bool : PySem.W.nsIn K mainGlobals "bool" = some none)
    (y_enumerate : PySem.W.nsIn K mainGlobals "enumerate" = some none)
    (y_int : PySem.W.nsIn K mainGlobals "int" = some none)
    (y_isinstance : PySem.W.nsIn K mainGlobals "isinstance" = some none)
    (y_len : PySem.W.nsIn K mainGlobals "len" = some none)
    (y_list : PySem.W.nsIn K mainGlobals "list" = some none)
    (y_range : PySem.W.nsIn K mainGlobals "range" = some none)
    (y_str : PySem.W.nsIn K mainGlobals "str" = some none)
    (y_tuple : PySem.W.nsIn K mainGlobals "tuple" = some none)
    (y_zip : PySem.W.nsIn K mainGlobals "zip" = some none) :
    ∃ fd : FuncData, (∀ (s : Shared) (v : Value), BindsTo s fd ⟨[v], []⟩ [("_law_script", v)]) ∧ ∀ base : Heap, K.In base → base.Ns mainGlobals mg → FnOk l.prog w K mg base CX0 9 fa fd ["_law_script"] (spLaw K) := by
  have e := hfa.symm.trans (PySem.W.mg_of X G a19)
  cases e
  have F1 := fun_mk (st := s_values_at) l1 c1 k1
  have b1 := F1.binds (ps := ["row", "places"]) fun _ _ _ _ _ _ us hl => match us, hl with | [_, _], _ => rfl
  have F2 := fun_mk (st := s_cells_under) l2 c2 k2
  have b2 := F2.binds (ps := ["wide", "place"]) fun _ _ _ _ _ _ us hl => match us, hl with | [_, _], _ => rfl
  have F3 := fun_mk (st := s_has_gaps_alone) l3 c3 k3
  have b3 := F3.binds (ps := ["cells"]) fun _ _ _ _ _ _ us hl => match us, hl with | [_], _ => rfl
  have F4 := fun_mk (st := s_with_heads_at) l4 c4 k4
  have b4 := F4.binds (ps := ["wide", "places"]) fun _ _ _ _ _ _ us hl => match us, hl with | [_, _], _ => rfl
  have F5 := fun_mk (st := s_emptied) l5 c5 k5
  have b5 := F5.binds (ps := ["wide"]) fun _ _ _ _ _ _ us hl => match us, hl with | [_], _ => rfl
  have F6 := fun_mk (st := s__law_cell_at) l6 c6 k6
  have b6 := F6.binds (ps := ["_law_script", "_law_k"]) fun _ _ _ _ _ _ us hl => match us, hl with | [_, _], _ => rfl
  have F7 := fun_mk (st := s__law_box) l7 c7 k7
  have b7 := F7.binds (ps := ["_law_script", "_law_k"]) fun _ _ _ _ _ _ us hl => match us, hl with | [_, _], _ => rfl
  have F8 := fun_mk (st := s__law_take) l8 c8 k8
  have b8 := F8.binds (ps := ["_law_box_here", "_law_many_here"]) fun _ _ _ _ _ _ us hl => match us, hl with | [_, _], _ => rfl
  have F9 := fun_mk (st := s__law_many) l9 c9 k9
  have b9 := F9.binds (ps := ["_law_box_here", "_law_least", "_law_few", "_law_most"]) fun _ _ _ _ _ _ us hl => match us, hl with | [_, _, _, _], _ => rfl
  have F10 := fun_mk (st := s__law_names) l10 c10 k10
  have b10 := F10.binds (ps := ["_law_box_here", "_law_many_here"]) fun _ _ _ _ _ _ us hl => match us, hl with | [_, _], _ => rfl
  have F11 := fun_mk (st := s__law_value) l11 c11 k11
  have b11 := F11.binds (ps := ["_law_box_here"]) fun _ _ _ _ _ _ us hl => match us, hl with | [_], _ => rfl
  have F12 := fun_mk (st := s__law_number) l12 c12 k12
  have b12 := F12.binds (ps := ["_law_box_here"]) fun _ _ _ _ _ _ us hl => match us, hl with | [_], _ => rfl
  have F13 := fun_mk (st := s__law_pool) l13 c13 k13
  have b13 := F13.binds (ps := ["_law_box_here", "_law_many_here"]) fun _ _ _ _ _ _ us hl => match us, hl with | [_, _], _ => rfl
  have F14 := fun_mk (st := s__law_tuples) l14 c14 k14
  have b14 := F14.binds (ps := ["_law_box_here", "_law_wide_here", "_law_many_here"]) fun _ _ _ _ _ _ us hl => match us, hl with | [_, _, _], _ => rfl
  have F15 := fun_mk (st := s__law_wide) l15 c15 k15
  have b15 := F15.binds (ps := ["_law_box_here", "_law_numbers"]) fun _ _ _ _ _ _ us hl => match us, hl with | [_, _], _ => rfl
  have F16 := fun_mk (st := s__law_same) l16 c16 k16
  have b16 := F16.binds (ps := ["_law_found", "_law_due_here"]) fun _ _ _ _ _ _ us hl => match us, hl with | [_, _], _ => rfl
  have F17 := fun_mk (st := s__law_holed) l17 c17 k17
  have b17 := F17.binds (ps := ["_law_box_here", "_law_wide_here"]) fun _ _ _ _ _ _ us hl => match us, hl with | [_, _], _ => rfl
  have F18 := fun_mk (st := s__law_due) l18 c18 k18
  have b18 := F18.binds (ps := ["_law_wide_here"]) fun _ _ _ _ _ _ us hl => match us, hl with | [_], _ => rfl
  have F19 := fun_mk (st := s_law) l19 c19 k19
  have b19 := F19.binds (ps := ["_law_script"]) fun _ _ _ _ _ _ us hl => match us, hl with | [_], _ => rfl
  have z_abs := PySem.W.mg_none_of X G y_abs
  have z_all := PySem.W.mg_none_of X G y_all
  have z_any := PySem.W.mg_none_of X G y_any
  have z_bool := PySem.W.mg_none_of X G y_bool
  have z_enumerate := PySem.W.mg_none_of X G y_enumerate
  have z_int := PySem.W.mg_none_of X G y_int
  have z_isinstance := PySem.W.mg_none_of X G y_isinstance
  have z_len := PySem.W.mg_none_of X G y_len
  have z_list := PySem.W.mg_none_of X G y_list
  have z_range := PySem.W.mg_none_of X G y_range
  have z_str := PySem.W.mg_none_of X G y_str
  have z_tuple := PySem.W.mg_none_of X G y_tuple
  have z_zip := PySem.W.mg_none_of X G y_zip
  refine ⟨PySem.W.fnOf "law" "law" (defArgs s_law) (defBody s_law) (defScope s_law) .none kV19 dc19 pm19 an19 cd19 ct19, fun s v => .of_eq rfl, fun base _ _ => ?_⟩
  have D_values_at : Def l.prog w K mg base "values_at" 1 ["row", "places"] spVals := ⟨f1, _, ok_values_at F1 z_tuple, b1, k1, PySem.W.mg_of X G a1⟩
  have D_cells_under : Def l.prog w K mg base "cells_under" 1 ["wide", "place"] spCU := ⟨f2, _, ok_cells_under F2 z_tuple, b2, k2, PySem.W.mg_of X G a2⟩
  have D_has_gaps_alone : Def l.prog w K mg base "has_gaps_alone" 1 ["cells"] spHG := ⟨f3, _, ok_has_gaps_alone F3 z_all, b3, k3, PySem.W.mg_of X G a3⟩
  have D_with_heads_at : Def l.prog w K mg base "with_heads_at" 2 ["wide", "places"] spWH := ⟨f4, _, ok_with_heads_at F4 D_values_at z_tuple, b4, k4, PySem.W.mg_of X G a4⟩
  have D_emptied : Def l.prog w K mg base "emptied" 3 ["wide"] spEmp := ⟨f5, _, ok_emptied F5 D_cells_under D_has_gaps_alone D_with_heads_at z_len z_range z_tuple, b5, k5, PySem.W.mg_of X G a5⟩
  have D__law_cell_at : Def l.prog w K mg base "_law_cell_at" 1 ["_law_script", "_law_k"] (spCell K) := ⟨f6, _, ok__law_cell_at F6 z_len, b6, k6, PySem.W.mg_of X G a6⟩
  have D__law_box : Def l.prog w K mg base "_law_box" 2 ["_law_script", "_law_k"] (spBox K) := ⟨f7, _, ok__law_box F7 D__law_cell_at z_abs z_int, b7, k7, PySem.W.mg_of X G a7⟩
  have D__law_take : Def l.prog w K mg base "_law_take" 1 ["_law_box_here", "_law_many_here"] spTake := ⟨f8, _, ok__law_take F8 , b8, k8, PySem.W.mg_of X G a8⟩
  have D__law_many : Def l.prog w K mg base "_law_many" 2 ["_law_box_here", "_law_least", "_law_few", "_law_most"] spMany := ⟨f9, _, ok__law_many F9 D__law_take, b9, k9, PySem.W.mg_of X G a9⟩
  have D__law_names : Def l.prog w K mg base "_law_names" 2 ["_law_box_here", "_law_many_here"] spNames := ⟨f10, _, ok__law_names F10 D__law_take z_len z_range, b10, k10, PySem.W.mg_of X G a10⟩
  have D__law_value : Def l.prog w K mg base "_law_value" 2 ["_law_box_here"] spValue := ⟨f11, _, ok__law_value F11 D__law_take, b11, k11, PySem.W.mg_of X G a11⟩
  have D__law_number : Def l.prog w K mg base "_law_number" 2 ["_law_box_here"] spNumber := ⟨f12, _, ok__law_number F12 D__law_take, b12, k12, PySem.W.mg_of X G a12⟩
  have D__law_pool : Def l.prog w K mg base "_law_pool" 3 ["_law_box_here", "_law_many_here"] spPool := ⟨f13, _, ok__law_pool F13 D__law_value z_range, b13, k13, PySem.W.mg_of X G a13⟩
  have D__law_tuples : Def l.prog w K mg base "_law_tuples" 4 ["_law_box_here", "_law_wide_here", "_law_many_here"] spTuples := ⟨f14, _, ok__law_tuples F14 D__law_take D__law_pool z_len z_range z_tuple, b14, k14, PySem.W.mg_of X G a14⟩
  have D__law_wide : Def l.prog w K mg base "_law_wide" 5 ["_law_box_here", "_law_numbers"] spWide := ⟨f15, _, ok__law_wide F15 D__law_take D__law_many D__law_names D__law_value D__law_number D__law_tuples z_tuple, b15, k15, PySem.W.mg_of X G a15⟩
  have D__law_same : Def l.prog w K mg base "_law_same" 8 ["_law_found", "_law_due_here"] (spSame 8) := ⟨f16, _, same_all F16 b16 (PySem.W.mg_of X G a16) z_all z_bool z_int z_isinstance z_len z_list z_str z_tuple z_zip 8, b16, k16, PySem.W.mg_of X G a16⟩
  have D__law_holed : Def l.prog w K mg base "_law_holed" 2 ["_law_box_here", "_law_wide_here"] spHoled := ⟨f17, _, ok__law_holed F17 D__law_take z_enumerate z_tuple, b17, k17, PySem.W.mg_of X G a17⟩
  have D__law_due : Def l.prog w K mg base "_law_due" 1 ["_law_wide_here"] spEmp := ⟨f18, _, ok__law_due F18 z_any z_len z_range z_tuple, b18, k18, PySem.W.mg_of X G a18⟩
  exact ok_law F19 D_emptied D__law_box D__law_wide D__law_same D__law_holed D__law_due z_range z_str
theorem walk {l : PySem.W.OpenLaw} {q : Program} {loose : List Str} {XP : (Str → Option Value) → Heap → Prop} {YP : World → Heap → Prop} {d : DefRec} {K : Params → PySem.W.Frag} (hn : l.most = some 63) (hdf : d.params.defaults = [])
    (hY : ∀ (w : World) (h : Heap), YP w h → (K w.params).In h)
    (F : ∀ (w : World) (mg : Str → Option Value) (fa : Addr) (h : Heap), (K w.params).In h → h.Ns mainGlobals mg → mg d.name = some (.ref fa) →
      ∃ fd : FuncData, (∀ (s : Shared) (u : Value), BindsTo s fd ⟨[u], []⟩ [("_law_script", u)]) ∧ ∀ base : Heap, (K w.params).In base → base.Ns mainGlobals mg → FnOk l.prog w (K w.params) mg base CX0 9 fa fd ["_law_script"] (spLaw (K w.params))) :
    PySem.W.WalkO q loose XP YP l.row.toRowW d [] (fun f vs => PySem.call f vs) :=
  L2.walk_of (n := 63) (k := 9) (x := "_law_script") (CX := fun _ => CX0) (sp := fun w => spLaw (K w.params)) hn (by decide) hdf ⟨rfl, by decide, by decide, rfl⟩ hY F (fun _ _ a ns hl _ hS => ⟨a, ns, rfl, hS, hl, fun _ => rfl⟩) fun _ _ _ _ _ z => z
end K
open PySem PySem.W PyProof.Rows
set_option maxRecDepth 100000 in
set_option maxHeartbeats 0 in
theorem PySem.Challenge.cw_pivotfold_k15_emptied_holds : PySem.Challenge.rw_pivotfold_k15_emptied.Holds := by
  w_on; o_law; k_head; (case hw => w_witness2)
  k_fill
  refine K.walk (l := PySem.Challenge.rw_pivotfold_k15_emptied) rfl rfl (fun w h Y => PySem.W.kIn_of Y) ?F
  case F =>
    intro w mg fa h KX G hmg
    refine' K.all_mk KX G hmg ?a1 ?l1 ?c1 ?k1 ?a2 ?l2 ?c2 ?k2 ?a3 ?l3 ?c3 ?k3 ?a4 ?l4 ?c4 ?k4 ?a5 ?l5 ?c5 ?k5 ?a6 ?l6 ?c6 ?k6 ?a7 ?l7 ?c7 ?k7 ?a8 ?l8 ?c8 ?k8 ?a9 ?l9 ?c9 ?k9 ?a10 ?l10 ?c10 ?k10 ?a11 ?l11 ?c11 ?k11 ?a12 ?l12 ?c12 ?k12 ?a13 ?l13 ?c13 ?k13 ?a14 ?l14 ?c14 ?k14 ?a15 ?l15 ?c15 ?k15 ?a16 ?l16 ?c16 ?k16 ?a17 ?l17 ?c17 ?k17 ?a18 ?l18 ?c18 ?k18 ?a19 ?l19 ?c19 ?k19 ?y_abs ?y_all ?y_any ?y_bool ?y_enumerate ?y_int ?y_isinstance ?y_len ?y_list ?y_range ?y_str ?y_tuple ?y_zip
    (case a1 => k_is); (case l1 => k_is); (case c1 => k_is); (case k1 => k_is)
    (case a2 => k_is); (case l2 => k_is); (case c2 => k_is); (case k2 => k_is)
    (case a3 => k_is); (case l3 => k_is); (case c3 => k_is); (case k3 => k_is)
    (case a4 => k_is); (case l4 => k_is); (case c4 => k_is); (case k4 => k_is)
    (case a5 => k_is); (case l5 => k_is); (case c5 => k_is); (case k5 => k_is)
    (case a6 => k_is); (case l6 => k_is); (case c6 => k_is); (case k6 => k_is)
    (case a7 => k_is); (case l7 => k_is); (case c7 => k_is); (case k7 => k_is)
    (case a8 => k_is); (case l8 => k_is); (case c8 => k_is); (case k8 => k_is)
    (case a9 => k_is); (case l9 => k_is); (case c9 => k_is); (case k9 => k_is)
    (case a10 => k_is); (case l10 => k_is); (case c10 => k_is); (case k10 => k_is)
    (case a11 => k_is); (case l11 => k_is); (case c11 => k_is); (case k11 => k_is)
    (case a12 => k_is); (case l12 => k_is); (case c12 => k_is); (case k12 => k_is)
    (case a13 => k_is); (case l13 => k_is); (case c13 => k_is); (case k13 => k_is)
    (case a14 => k_is); (case l14 => k_is); (case c14 => k_is); (case k14 => k_is)
    (case a15 => k_is); (case l15 => k_is); (case c15 => k_is); (case k15 => k_is)
    (case a16 => k_is); (case l16 => k_is); (case c16 => k_is); (case k16 => k_is)
    (case a17 => k_is); (case l17 => k_is); (case c17 => k_is); (case k17 => k_is)
    (case a18 => k_is); (case l18 => k_is); (case c18 => k_is); (case k18 => k_is)
    (case a19 => k_is); (case l19 => k_is); (case c19 => k_is); (case k19 => k_is)
    (case y_abs => k_is)
    (case y_all => k_is)
    (case y_any => k_is)
    (case y_bool => k_is)
    (case y_enumerate => k_is)
    (case y_int => k_is)
    (case y_isinstance => k_is)
    (case y_len => k_is)
    (case y_list => k_is)
    (case y_range => k_is)
    (case y_str => k_is)
    (case y_tuple => k_is)
    (case y_zip => k_is)
