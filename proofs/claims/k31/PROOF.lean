import PyProof.Rows.All
import Wide.All
import OpenK.AllK
import Wide.FinOn
import PyProof.EqAt
import PyProof.EqKinds
import PyProof.TupleCall
import KE.BitLaws
import PyProof.NsDelKeeps
import KE.KTryMore
import KE.KDictList
import KE.KDictSum
import PyProof.Rows.SortShellAny
import KE.KDictOf
import PyProof.NeKinds
import KE.KDictLaws
import KE.KEqDict
import PySem.Challenge.RW_shownranks_k31_layers_poured
set_option Elab.async false
set_option linter.all false
set_option maxRecDepth 100000
/-! THE HAND LAYER, for ints, bools, texts, own classes, lists, tuples, dicts, comprehensions, walks over dicts, enumerate, zip, reversed, texts, calls, loops. Paste it whole ahead of your own text; what your proof does not reach may be deleted. -/
namespace L2
open PySem PySem.Spec PyProof.Rows

/-- a key: an int or a str -/
abbrev Key := Sum Int Str
def keyIs : Key → Value → Bool
  | .inl k, v => Value.isInt k v
  | .inr x, v => Value.isStrOf x v
def keyH (w : World) : Key → Int
  | .inl k => hashInt k
  | .inr x => hashStr w x
theorem keyIs_shape : ∀ {k : Key} {v : Value}, keyIs k v = true → (∃ i t, k = Sum.inl i ∧ v = Value.int i t) ∨ (∃ x t, k = Sum.inr x ∧ v = Value.str x t)
  | .inl i, v, h => by
    obtain ⟨t, e⟩ := Value.isInt_shape (k := i) (v := v) h
    exact .inl ⟨i, t, rfl, e⟩
  | .inr x, v, h => by
    obtain ⟨t, e⟩ := Value.isStrOf_shape (x := x) (v := v) h
    exact .inr ⟨x, t, rfl, e⟩
theorem keyIs_int (i : Int) (t : Tok) : keyIs (.inl i) (.int i t) = true := by simp [keyIs, Value.isInt]
theorem keyIs_str (x : Str) (t : Tok) : keyIs (.inr x) (.str x t) = true := by simp [keyIs, Value.isStrOf]
theorem key_ll (a b : Int) : decide ((Sum.inl a : Key) = Sum.inl b) = (a == b) := by
  by_cases e : a = b
  · subst e; simp
  · have h : ¬ (Sum.inl a : Key) = Sum.inl b := fun q => e (Sum.inl.inj q)
    rw [decide_eq_false h]
    exact (beq_eq_false_iff_ne.mpr e).symm
theorem key_rr (a b : Str) : decide ((Sum.inr a : Key) = Sum.inr b) = decide (a = b) := by
  by_cases e : a = b
  · subst e; simp
  · have h : ¬ (Sum.inr a : Key) = Sum.inr b := fun q => e (Sum.inr.inj q)
    rw [decide_eq_false h, decide_eq_false e]
theorem key_lr (a : Int) (b : Str) : decide ((Sum.inl a : Key) = Sum.inr b) = false := decide_eq_false (fun q => nomatch q)
theorem key_rl (a : Str) (b : Int) : decide ((Sum.inr a : Key) = Sum.inl b) = false := decide_eq_false (fun q => nomatch q)

def mixKind (prog : Program) (w : World) : PySem.KeyKind prog w Key where
  is := keyIs
  hash := keyH w
  inj := fun v a b ha hb => by
    rcases keyIs_shape ha with ⟨i, t, rfl, rfl⟩ | ⟨x, t, rfl, rfl⟩
    · rcases keyIs_shape hb with ⟨j, u, rfl, e⟩ | ⟨y, u, rfl, e⟩
      · injection e with e1 _; rw [e1]
      · exact nomatch e
    · rcases keyIs_shape hb with ⟨j, u, rfl, e⟩ | ⟨y, u, rfl, e⟩
      · exact nomatch e
      · injection e with e1 _; rw [e1]
  byValue := fun k v h => by
    rcases keyIs_shape h with ⟨i, t, rfl, rfl⟩ | ⟨x, t, rfl, rfl⟩ <;> rfl
  pyHash := fun hv h => by
    rcases keyIs_shape hv with ⟨i, t, rfl, rfl⟩ | ⟨x, t, rfl, rfl⟩
    · exact wpAny_pyHash_int h
    · exact wpAny_pyHash_str h
  eqBool := fun hu hv h => by
    rcases keyIs_shape hu with ⟨i, t, rfl, rfl⟩ | ⟨x, t, rfl, rfl⟩
    · rcases keyIs_shape hv with ⟨j, u, rfl, rfl⟩ | ⟨y, u, rfl, rfl⟩
      · rw [key_ll] at h; exact wpAny_eqBool_int h
      · rw [key_lr] at h; exact SeqAt.EqAt.int_str i t y u _ _ _ _ h
    · rcases keyIs_shape hv with ⟨j, u, rfl, rfl⟩ | ⟨y, u, rfl, rfl⟩
      · rw [key_rl] at h; exact SeqAt.EqAt.str_int x t j u _ _ _ _ h
      · rw [key_rr] at h; exact wpAny_eqBool_str h
  «strs» := fun k x t v h => by
    rcases keyIs_shape h with ⟨i, u, rfl, e⟩ | ⟨y, u, rfl, e⟩
    · exact nomatch e
    · injection e with e1 _
      subst e1
      cases v <;> rfl

theorem mixKind_int (prog : Program) (w : World) (i : Int) (t : Tok) : (mixKind prog w).is (.inl i) (.int i t) = true := keyIs_int i t
theorem mixKind_str (prog : Program) (w : World) (x : Str) (t : Tok) : (mixKind prog w).is (.inr x) (.str x t) = true := keyIs_str x t
end L2

namespace L2
open PySem PySem.Spec PyProof.Rows

/-- a value, without the heap -/
inductive V where
  | non | bl (b : Bool) | int (i : Int) | str (x : Str) | byt (b : Array UInt8) | flt (b : UInt64) | ref (a : Addr) | ty (n : String)
  deriving DecidableEq

def RelV : V → Value → Prop
  | .non, u => u = Value.none
  | .bl b, u => u = Value.bool b
  | .int i, u => ∃ t, u = Value.int i t
  | .str x, u => ∃ t, u = Value.str x t
  | .byt b, u => ∃ t, u = Value.bytes b t
  | .flt b, u => ∃ t, u = Value.float b t
  | .ref a, u => u = Value.ref a
  | .ty n, u => u = Value.type n

abbrev Vals : List V → List Value → Prop := Paired RelV
theorem Vals.length {xs : List V} {us : List Value} (r : Vals xs us) : xs.length = us.length := Paired.length r
theorem Vals.get : ∀ {xs : List V} {us : List Value} {i : Nat} {x : V}, Vals xs us → xs[i]? = some x → ∃ u, us[i]? = some u ∧ RelV x u
  | _, _, _, _, .nil, e => by simp at e
  | _, _, 0, _, .cons r _, e => by simp at e; subst e; exact ⟨_, rfl, r⟩
  | _, _, i + 1, x, .cons _ t, e => by
    obtain ⟨u, h1, h2⟩ := Vals.get (i := i) (x := x) t (by simpa using e)
    exact ⟨u, by simpa using h1, h2⟩
theorem Vals.set {x : V} {u : Value} (r : RelV x u) : ∀ {xs : List V} {us : List Value} (i : Nat), Vals xs us → Vals (xs.set i x) (us.set i u)
  | _, _, _, .nil => .nil
  | _, _, 0, .cons _ t => .cons r t
  | _, _, i + 1, .cons q t => .cons q (Vals.set r i t)
theorem Vals.append : ∀ {xs ys : List V} {us ws : List Value}, Vals xs us → Vals ys ws → Vals (xs ++ ys) (us ++ ws)
  | _, _, _, _, .nil, s => s
  | _, _, _, _, .cons r t, s => .cons r (Vals.append t s)
theorem Vals.take : ∀ {xs : List V} {us : List Value} (n : Nat), Vals xs us → Vals (xs.take n) (us.take n)
  | _, _, 0, _ => .nil
  | _, _, _ + 1, .nil => .nil
  | _, _, n + 1, .cons r t => .cons r (Vals.take n t)
theorem Vals.drop : ∀ {xs : List V} {us : List Value} (n : Nat), Vals xs us → Vals (xs.drop n) (us.drop n)
  | _, _, 0, r => r
  | _, _, _ + 1, .nil => .nil
  | _, _, n + 1, .cons _ t => Vals.drop n t
theorem Vals.none_of : ∀ {xs : List V} {us : List Value} {i : Nat}, Vals xs us → xs[i]? = none → us[i]? = none := fun {xs us i} r e => by
  have h1 := r.length
  have h2 : xs.length ≤ i := List.getElem?_eq_none_iff.mp e
  exact List.getElem?_eq_none_iff.mpr (by omega)

def RelO : Option V → Option Value → Prop
  | some v, some u => RelV v u
  | none, none => True
  | _, _ => False
def KV {κ : Type} : List (κ × V) → List (κ × Value) → Prop := Paired fun (p : κ × V) (q : κ × Value) => p.1 = q.1 ∧ RelV p.2 q.2

/-- a key of a dict (00_mix): an int or a text -/
def kV : Key → V
  | .inl i => .int i
  | .inr x => .str x

/-- what stands at a tracked address -/
inductive HO where
  /-- a list -/
  | lst (xs : List V)
  /-- a tuple (never changes) -/
  | tup (xs : List V)
  /-- a dict whose keys are ints and texts; one whose keys are tuples of ints and texts (the empty one is both) -/
  | dK (kvs : List (Key × V)) | dT (kvs : List (List Key × V))
  /-- a set of ints: its members, its size -/
  | set (S : Int → Bool) (n : Nat)
  /-- an instance of the class at C, its dict at dx, its attributes -/
  | ins (C dx : Addr) (fs : List (Str × V))
  /-- the dict of the instance at x -/
  | own (x : Addr)
  /-- the dict of an exception -/
  | xd (fs : List (Str × V))
  /-- a bound method, f of x -/
  | met (f x : Addr)
  /-- a range object lo, lo + 1, .. below hi -/
  | rng (lo hi : Int)
  /-- a thing that is known to the object (the script; a dict while a loop walks it): read, never written while it is so -/
  | frz (o : Obj) (u : HO)
  /-- a code object's table -/
  | tbl (ps : Array Value)
  /-- any other thing, by what is true of its one object (a def of one's own: SetO a S n := HO.ext fun h => ..) -/
  | ext (φ : Heap → Prop)

abbrev Hp := Addr → Option HO
def upd (H : Hp) (a : Addr) (o : HO) : Hp := fun b => if b = a then some o else H b
theorem upd_same {H : Hp} {a : Addr} {o : HO} : upd H a o a = some o := by unfold upd; rw [if_pos rfl]
theorem upd_ne {H : Hp} {a b : Addr} {o : HO} (h : b ≠ a) : upd H a o b = H b := by unfold upd; rw [if_neg h]
/-- two objects of different content stand apart -/
theorem ne_of {H : Hp} {a b : Addr} {o u : HO} (h : H a = some o) (h' : H b = some u) (d : o ≠ u) : a ≠ b := by
  intro e; subst e; rw [h] at h'; exact d (Option.some.inj h')
theorem ne_of_none {H : Hp} {a b : Addr} {o : HO} (h : H a = some o) (h' : H b = none) : a ≠ b := by
  intro e; subst e; rw [h] at h'; cases h'

section
variable (P : Program) (w : World)
def ObjOk (H : Hp) (h : Heap) (a : Addr) : HO → Prop
  | .lst xs => xs.length ≤ sizeLine ∧ ∃ (its : List Value) (n : Nat), Vals xs its ∧ h.get? a = some { cls := .type "list", data := .seq its.toArray n }
  | .tup xs => xs.length ≤ sizeLine ∧ ∃ its : List Value, Vals xs its ∧ IsTup h a its.toArray
  | .dK kvs => kvs.length ≤ sizeLine ∧ (a == sysModules) = false ∧ ∃ vs, KV kvs vs ∧ h.DictOf (mixKind P w) a vs
  | .dT kvs => kvs.length ≤ sizeLine ∧ (a == sysModules) = false ∧ ∃ xs : List (List Key × Addr × Value),
      Paired (fun (p : List Key × V) (q : List Key × Addr × Value) => p.1 = q.1 ∧ H q.2.1 = some (.tup (p.1.map kV)) ∧ RelV p.2 q.2.2) kvs xs ∧
      ∃ o es ep, h.get? a = some o ∧ o.ExactDict ∧ o.data = .dict es ep ∧ es.toList = xs.map (entryOfKey (tupleKind (mixKind P w))) ∧ (xs.map (·.1)).Nodup
  | .set S n => h.SetOf (intKind P w) a S n
  | .ins C dx fs => H dx = some (.own a) ∧ fs.length ≤ 1000 ∧ dx ≠ a ∧ h.get? a = some (PySem.W.instObj C dx) ∧
      ∃ mA, h.Ns1 dx mA ∧ (∀ f, RelO (fs.lookup f) (mA f)) ∧ PySem.Within mA (fs.map (·.1))
  | .own _ => ∃ o, h.get? a = some o
  | .xd fs => ∃ mA, h.Ns1 a mA ∧ ∀ f, RelO (fs.lookup f) (mA f)
  | .rng lo hi => ∃ t u v, h.get? a = some { cls := .type "range", data := .fields #[.int lo t, .int hi u, .int 1 v] }
  | .frz o u => h.get? a = some o ∧ ObjOk H h a u
  | .tbl ps => h.get? a = some { cls := .none, data := .fields ps }
  | .met f x => h.get? a = some (PySem.W.methodObj (.ref f) (.ref x))
  | .ext φ => φ h ∧ (∃ o, h.get? a = some o) ∧ ∀ h1 h2 : Heap, φ h1 → (∀ o, h1.get? a = some o → h2.get? a = some o) → φ h2
/-- the abstract heap is held -/
def HOk (H : Hp) (h : Heap) : Prop := ∀ a o, H a = some o → ObjOk P w H h a o
end

section
variable {P : Program} {w : World} {H H' : Hp} {h h' : Heap} {a : Addr} {o : HO}
theorem ObjOk.lt (x : ObjOk P w H h a o) : a < h.objs.size := by
  cases o with
  | lst xs => obtain ⟨_, _, _, _, e⟩ := x; exact Heap.lt_size e
  | tup xs => obtain ⟨_, _, _, p⟩ := x; exact p.lt
  | dK kvs => obtain ⟨_, _, _, _, o, _, _, e, _⟩ := x; exact Heap.lt_size e
  | dT kvs => obtain ⟨_, _, _, _, o, _, _, e, _⟩ := x; exact Heap.lt_size e
  | set S n => obtain ⟨o, _, _, _, e, _⟩ := x; exact Heap.lt_size e
  | ins C dx fs => obtain ⟨_, _, _, e, _⟩ := x; exact Heap.lt_size e
  | own y => obtain ⟨_, e⟩ := x; exact Heap.lt_size e
  | xd fs => obtain ⟨_, ⟨_, _, _, e, _⟩, _⟩ := x; exact Heap.lt_size e
  | rng lo hi => obtain ⟨_, _, _, e⟩ := x; exact Heap.lt_size e
  | frz ob u => obtain ⟨e, _⟩ := x; exact Heap.lt_size e
  | tbl ps => exact Heap.lt_size (show h.get? a = some _ from x)
  | met f y => exact Heap.lt_size (show h.get? a = some _ from x)
  | ext φ => obtain ⟨_, ⟨_, e⟩, _⟩ := x; exact Heap.lt_size e
theorem Paired.mapP {α β : Type} {F G : α → β → Prop} : ∀ {l₁ : List α} {l₂ : List β}, Paired F l₁ l₂ → (∀ a b, F a b → G a b) → Paired G l₁ l₂
  | _, _, .nil, _ => .nil
  | _, _, .cons r t, f => .cons (f _ _ r) (Paired.mapP t f)
/-- what an object's description leans on: its own object, its own dict, the tuples -/
theorem ObjOk.stay (x : ObjOk P w H h a o) (k : ∀ b u, (b = a ∨ H b = some (.own a)) → h.get? b = some u → h'.get? b = some u)
    (ho : ∀ b, H b = some (.own a) → H' b = some (.own a)) (ht : ∀ b xs, H b = some (.tup xs) → H' b = some (.tup xs)) : ObjOk P w H' h' a o := by
  induction o with
  | lst xs => obtain ⟨z, its, n, r, e⟩ := x; exact ⟨z, its, n, r, k _ _ (.inl rfl) e⟩
  | tup xs => obtain ⟨z, its, r, ob, e, c⟩ := x; exact ⟨z, its, r, ob, k _ _ (.inl rfl) e, c⟩
  | dK kvs => obtain ⟨z, y, vs, r, ob, es, ep, e, c⟩ := x; exact ⟨z, y, vs, r, ob, es, ep, k _ _ (.inl rfl) e, c⟩
  | dT kvs =>
    obtain ⟨z, y, xs, r, ob, es, ep, e, c⟩ := x
    exact ⟨z, y, xs, Paired.mapP r fun p q z => ⟨z.1, ht _ _ z.2.1, z.2.2⟩, ob, es, ep, k _ _ (.inl rfl) e, c⟩
  | set S n => obtain ⟨ob, es, ep, t, e, c⟩ := x; exact ⟨ob, es, ep, t, k _ _ (.inl rfl) e, c⟩
  | ins C dx fs =>
    obtain ⟨d, z, ne, e, mA, ⟨od, es, ep, e2, c⟩, r⟩ := x
    exact ⟨ho _ d, z, ne, k _ _ (.inl rfl) e, mA, ⟨od, es, ep, k _ _ (.inr d) e2, c⟩, r⟩
  | own y => obtain ⟨ob, e⟩ := x; exact ⟨ob, k _ _ (.inl rfl) e⟩
  | xd fs => obtain ⟨mA, ⟨od, es, ep, e, c⟩, r⟩ := x; exact ⟨mA, ⟨od, es, ep, k _ _ (.inl rfl) e, c⟩, r⟩
  | rng lo hi => obtain ⟨t, u, v, e⟩ := x; exact ⟨t, u, v, k _ _ (.inl rfl) e⟩
  | frz ob u ih => obtain ⟨e, q⟩ := x; exact ⟨k _ _ (.inl rfl) e, ih q⟩
  | tbl ps =>
    have e : h.get? a = some { cls := .none, data := .fields ps } := x
    show h'.get? a = some { cls := .none, data := .fields ps }
    exact k a _ (.inl rfl) e
  | met f y =>
    have e : h.get? a = some (PySem.W.methodObj (.ref f) (.ref y)) := x
    show h'.get? a = some (PySem.W.methodObj (.ref f) (.ref y))
    exact k a _ (.inl rfl) e
  | ext φ => obtain ⟨p, ⟨o, e⟩, st⟩ := x; exact ⟨st _ _ p fun o q => k _ _ (.inl rfl) q, ⟨o, k _ _ (.inl rfl) e⟩, st⟩
theorem HOk.lt (x : HOk P w H h) (e : H a = some o) : a < h.objs.size := (x a o e).lt
theorem HOk.fresh (x : HOk P w H h) (e : h.objs.size ≤ a) : H a = none := by
  cases q : H a with
  | none => rfl
  | some u => exact absurd (Nat.lt_of_lt_of_le (x.lt q) e) (Nat.lt_irrefl _)
/-- every object of the heap is kept -/
theorem HOk.kept (x : HOk P w H h) (k : ∀ b u, h.get? b = some u → h'.get? b = some u) : HOk P w H h' := fun a o e =>
  (x a o e).stay (fun b u _ q => k b u q) (fun _ q => q) fun _ _ q => q
/-- a new object is laid and tracked -/
theorem HOk.laid (x : HOk P w H h) (k : ∀ b u, h.get? b = some u → h'.get? b = some u) (hp : h.objs.size ≤ a) (new : ObjOk P w (upd H a o) h' a o) : HOk P w (upd H a o) h' := fun b u e => by
  have hn := x.fresh hp
  by_cases hb : b = a
  · subst hb; rw [upd_same] at e; cases e; exact new
  · rw [upd_ne hb] at e
    exact (x b u e).stay (fun c v _ q => k c v q) (fun c q => by rw [upd_ne (ne_of_none q hn)]; exact q) fun c xs q => by rw [upd_ne (ne_of_none q hn)]; exact q
end

/-- what may be read as u: it is u, or a known u -/
def Rd (H : Hp) (a : Addr) (u : HO) : Prop := H a = some u ∨ ∃ o, H a = some (.frz o u)
theorem Rd.of {H : Hp} {a : Addr} {u : HO} (h : H a = some u) : Rd H a u := .inl h
theorem Rd.ok {P : Program} {w : World} {H : Hp} {h : Heap} {a : Addr} {u : HO} (r : Rd H a u) (x : HOk P w H h) : ObjOk P w H h a u := by
  rcases r with r | ⟨o, r⟩
  · exact x a u r
  · obtain ⟨_, q⟩ := x a _ r
    exact q
/-- what may be written -/
def Mut : Option HO → Prop
  | some (.lst _) => True
  | some (.dK _) => True
  | some (.dT _) => True
  | some (.set _ _) => True
  | some (.ins _ _ _) => True
  | some (.ext _) => True
  | _ => False
section
variable {P : Program} {w : World} {H : Hp} {h h' : Heap} {x e : Addr} {o' : HO}
/-- the object at e is changed: x itself, or the dict of the instance x -/
theorem HOk.write (ok : HOk P w H h) (mu : Mut (H x)) (he : e = x ∨ H e = some (.own x)) (k : ∀ b u, b ≠ e → h.get? b = some u → h'.get? b = some u) (heo : ∃ u, h'.get? e = some u)
    (new : ObjOk P w (upd H x o') h' x o') : HOk P w (upd H x o') h' := fun b u q => by
  have nown : ∀ c y, H c = some (.own y) → c ≠ x := fun c y r z => by subst z; rw [r] at mu; exact mu
  have ntup : ∀ c xs, H c = some (.tup xs) → c ≠ x := fun c xs r z => by subst z; rw [r] at mu; exact mu
  by_cases hb : b = x
  · subst hb; rw [upd_same] at q; cases q; exact new
  · rw [upd_ne hb] at q
    by_cases hbe : b = e
    · have q' : H b = some (.own x) := by
        rcases he with z | z
        · exact absurd (hbe.trans z) hb
        · rw [hbe]; exact z
      rw [q] at q'; cases q'
      obtain ⟨v, hv⟩ := heo
      exact ⟨v, by rw [hbe]; exact hv⟩
    · refine (ok b u q).stay (fun c v hc r => k c v ?_ r) (fun c r => by rw [upd_ne (nown c b r)]; exact r) fun c xs r => by rw [upd_ne (ntup c xs r)]; exact r
      rcases hc with rfl | hc
      · exact hbe
      · rintro rfl
        rcases he with z | z
        · exact nown c b hc z
        · rw [hc] at z; cases z; exact hb rfl
end

/-! ### kept unless tracked; of the frames at fs (the callers') the slots may change (an exception that passes writes there); of the records at ex (iterators) nothing is said -/
structure Un (fs ex : List Addr) (H H' : Hp) (h h' : Heap) : Prop where
  keep : ∀ b o, h.get? b = some o → H b = none → b ∉ fs → b ∉ ex → h'.get? b = some o
  slot : ∀ b o, h.get? b = some o → H b = none → b ∈ fs → b ∉ ex → ∃ sl, h'.get? b = some { o with slots := sl }
  free : ∀ b o, h.get? b = some o → H b = none → b ∉ ex → H' b = none
  there : ∀ b o, h.get? b = some o → b ∉ ex → ∃ o', h'.get? b = some o'
  tups : ∀ b xs, H b = some (.tup xs) → H' b = some (.tup xs)
  frzs : ∀ b o u, H b = some (.frz o u) → H' b = some (.frz o u)
  tbls : ∀ b ps, H b = some (.tbl ps) → ∃ more, H' b = some (.tbl (ps ++ more))
section
variable {fs fs' ex ex' : List Addr} {H H1 H2 : Hp} {h h1 h2 h' : Heap} {a x e : Addr} {o : HO}
theorem Un.any (u : Un fs ex H H1 h h1) {b : Addr} {ob : Obj} (q : h.get? b = some ob) (n : H b = none) (hx : b ∉ ex) : ∃ sl, h1.get? b = some { ob with slots := sl } := by
  by_cases hb : b ∈ fs
  · exact u.slot b ob q n hb hx
  · exact ⟨ob.slots, u.keep b ob q n hb hx⟩
theorem Un.trans (a : Un fs ex H H1 h h1) (b : Un fs ex H1 H2 h1 h2) : Un fs ex H H2 h h2 where
  keep := fun c ob q n hc hx => b.keep c ob (a.keep c ob q n hc hx) (a.free c ob q n hx) hc hx
  slot := fun c ob q n hc hx => by
    obtain ⟨sl, e1⟩ := a.slot c ob q n hc hx
    obtain ⟨sl', e2⟩ := b.slot c _ e1 (a.free c ob q n hx) hc hx
    exact ⟨sl', e2⟩
  free := fun c ob q n hx => by
    obtain ⟨o', e1⟩ := a.there c ob q hx
    exact b.free c o' e1 (a.free c ob q n hx) hx
  there := fun c ob q hx => by
    obtain ⟨o', e1⟩ := a.there c ob q hx
    exact b.there c o' e1 hx
  tups := fun c xs q => b.tups c xs (a.tups c xs q)
  frzs := fun c ob xs q => b.frzs c ob xs (a.frzs c ob xs q)
  tbls := fun c ps q => by
    obtain ⟨m1, e1⟩ := a.tbls c ps q
    obtain ⟨m2, e2⟩ := b.tbls c _ e1
    exact ⟨m1 ++ m2, by rw [e2, Array.append_assoc]⟩
theorem Un.kept (k : ∀ b u, h.get? b = some u → h'.get? b = some u) : Un fs ex H H h h' :=
  ⟨fun b ob q _ _ _ => k b ob q, fun b ob q _ _ _ => ⟨ob.slots, k b ob q⟩, fun _ _ _ n _ => n, fun b ob q _ => ⟨ob, k b ob q⟩, fun _ _ q => q, fun _ _ _ q => q, fun _ ps q => ⟨#[], by rw [q]; simp⟩⟩
theorem Un.refl : Un fs ex H H h h := Un.kept fun _ _ q => q
theorem Un.laid (k : ∀ b u, h.get? b = some u → h'.get? b = some u) (hp : h.objs.size ≤ a) (hn : H a = none) : Un fs ex H (upd H a o) h h' where
  keep := fun b u q _ _ _ => k b u q
  slot := fun b u q _ _ _ => ⟨u.slots, k b u q⟩
  free := fun b u q n _ => by rw [upd_ne (Nat.ne_of_lt (Nat.lt_of_lt_of_le (Heap.lt_size q) hp))]; exact n
  there := fun b u q _ => ⟨u, k b u q⟩
  tups := fun b xs q => by rw [upd_ne (ne_of_none q hn)]; exact q
  frzs := fun b u xs q => by rw [upd_ne (ne_of_none q hn)]; exact q
  tbls := fun b ps q => ⟨#[], by rw [upd_ne (ne_of_none q hn), q]; simp⟩
theorem Un.write (mu : Mut (H x)) (he : e = x ∨ H e = some (.own x)) (k : ∀ b u, b ≠ e → h.get? b = some u → h'.get? b = some u) (heo : ∃ u, h'.get? e = some u) : Un fs ex H (upd H x o) h h' := by
  have hx : ∀ b, H b = none → b ≠ x := fun b n z => by subst z; rw [n] at mu; exact mu
  have hb : ∀ b, H b = none → b ≠ e := fun b n z => by
    subst z
    rcases he with r | r
    · exact hx b n r
    · rw [n] at r; cases r
  have hm : ∀ b u, H b = some u → ¬ Mut (some u) → b ≠ x := fun b u q nm z => by subst z; rw [q] at mu; exact nm mu
  refine ⟨fun b u q n _ _ => k b u (hb b n) q, fun b u q n _ _ => ⟨u.slots, k b u (hb b n) q⟩, fun b u q n _ => by rw [upd_ne (hx b n)]; exact n, fun b u q _ => ?_,
    fun b xs q => by rw [upd_ne (hm b _ q fun z => z)]; exact q, fun b u xs q => by rw [upd_ne (hm b _ q fun z => z)]; exact q, fun b ps q => ⟨#[], by rw [upd_ne (hm b _ q fun z => z), q]; simp⟩⟩
  by_cases hbe : b = e
  · subst hbe; exact heo
  · exact ⟨u, k b u hbe q⟩
theorem Un.mono (u : Un fs ex H H1 h h1) (hs : ∀ b ∈ fs, b ∈ fs') (hx : ∀ b ∈ ex, b ∈ ex') : Un fs' ex' H H1 h h1 :=
  ⟨fun b ob q n hb he => u.keep b ob q n (fun z => hb (hs b z)) fun z => he (hx b z), fun _ _ q n _ he => u.any q n fun z => he (hx _ z), fun b ob q n he => u.free b ob q n fun z => he (hx b z), fun b ob q he => u.there b ob q fun z => he (hx b z), u.tups, u.frzs, u.tbls⟩
end

/-! ### the heap without what is tracked -/
def trk (h : Heap) (H : Hp) : List Addr := (List.range h.objs.size).filter fun a => (H a).isSome
def hidT (h : Heap) (H : Hp) : Heap := PySem.W.hideAll h (trk h H)
theorem hidT_size (h : Heap) (H : Hp) : (hidT h H).objs.size = h.objs.size := PySem.W.hideAll_size _ _
theorem hidT_get {h : Heap} {H : Hp} {b : Addr} {o : Obj} (e : h.get? b = some o) (n : H b = none) : (hidT h H).get? b = some o :=
  PySem.W.hideAll_get _ e fun hm => by
    have q : (H b).isSome = true := (List.mem_filter.mp hm).2
    rw [n] at q; simp at q
theorem of_hidT {h : Heap} {H : Hp} {b : Addr} {o : Obj} (e : (hidT h H).get? b = some o) : h.get? b = some o ∧ H b = none := by
  have e' : h.get? b = some o := PySem.W.of_hideAll (trk h H) e
  refine ⟨e', ?_⟩
  cases q : H b with
  | none => rfl
  | some x =>
    have hm : b ∈ trk h H := List.mem_filter.mpr ⟨List.mem_range.mpr (Heap.lt_size e'), by simp [q]⟩
    have z : (hidT h H).get? b = none := PySem.W.hideAll_none (trk h H) hm
    rw [z] at e; cases e

/-! ### OpenK's ledger, filled with every new object but one -/
def allNews (g h : Heap) (L : Addr) : List (Addr × Obj) := (List.range h.objs.size).filterMap fun a => if a = L ∨ (g.get? a).isSome = true then none else (h.get? a).map fun o => (a, o)
def rest (g h : Heap) (L d : Addr) : List (Addr × Obj) := (allNews g h L).filter fun p => decide (p.1 ≠ d)
end L2

namespace L2
open PySem PySem.Spec PyProof.Rows

/-- the module's facts, over the base: the heap at the law's entry without what is tracked there -/
structure Mod (K : PySem.W.Frag) (mg : Str → Option Value) (base : Heap) : Prop where
  kin : K.In base
  glob : base.Ns mainGlobals mg
  blt : ∃ mb, base.Ns builtinsNs mb ∧ ∀ x : Str, x ≠ "__name__" → mb x = bootBuiltins x
  nolimit : base.NoLimit

/-- the context: a def's body (or a comprehension's block) running. base: fixed through the whole law; s₀, H₀: the entry; outer: the frames whose slots others may change (a def's callers); stack: all frames that run;
   ex: iterators that were made ahead of the entry and are walked here (a comprehension's); fn: the names whose cells were made at the entry (a def: all; a comprehension's block: its own); calm: not within an except suite; pn: pins that every state bears; xe: what is wanted of an exception that leaves the code -/
structure Cx where
  prog : Program
  w : World
  K : PySem.W.Frag
  mg : Str → Option Value
  base : Heap
  A : Around
  N : List Str
  s_0 : Shared
  H_0 : Hp
  env : Env
  outer : List Env
  stack : List Env
  ex : List Addr
  fn : Str → Bool
  calm : Bool
  pn : List (Addr × Obj)
  xe : Value → Shared → Prop
/-- the callers' frames -/
def frs (l : List Env) : List Addr := l.filterMap (·.frame)
abbrev Cx.fs (X : Cx) : List Addr := frs X.outer

def Vis (sc : Scope) (x : Str) : Prop := sc.names.lookup x = some .local ∨ sc.names.lookup x = some .cell ∨ sc.names.lookup x = some .free
def Loc (sc : Scope) (x : Str) : Prop := sc.names.lookup x = some .local ∨ sc.names.lookup x = some .cell
def Look (env : Env) (h : Heap) (m : Str → Option Value) (x : Str) (u : Value) : Prop :=
  (env.kindOf x = some .local ∧ m x = some u) ∨ ((env.kindOf x = some .cell ∨ env.kindOf x = some .free) ∧ ∃ c, env.cells.lookup x = some c ∧ h.IsCell c (some u))

structure Cx.Ok (X : Cx) : Prop where
  mod : Mod X.K X.mg X.base
  kind : X.env.scope.kind = .function
  glob : X.env.globals = mainGlobals
  blt : X.env.builtins = builtinsNs
  above : X.s_0.heap.objs.size ≤ X.env.locals
  inj : ∀ x y c, X.env.cells.lookup x = some c → X.env.cells.lookup y = some c → x = y
  has : ∀ x, (X.env.kindOf x = some .cell ∨ X.env.kindOf x = some .free) → ∃ c, X.env.cells.lookup x = some c
  cab : ∀ x c, X.fn x = true → X.env.cells.lookup x = some c → X.s_0.heap.objs.size ≤ c
  hd : X.calm = true → X.A.handled = none
  frames : X.A.frames = some X.stack
  stk : X.stack = X.outer ∨ (X.stack = X.env :: X.outer ∧ X.env.frame = some X.env.locals)
  exf : ∀ b ∈ X.ex, b ≠ X.env.locals ∧ ∀ x c, X.env.cells.lookup x = some c → c ≠ b
  bs : ∀ b o, X.base.get? b = some o → X.s_0.heap.get? b = some o ∧ X.H_0 b = none
  bsz : X.base.objs.size ≤ X.s_0.heap.objs.size
  noex : ∀ b o, X.base.get? b = some o → b ∉ X.ex
  exfs : ∀ b ∈ X.ex, b ∉ X.fs
  funs : X.s_0.heap.FunFrames X.base X.outer
  frf : ∀ b ∈ X.fs, X.H_0 b = none

structure Inv (X : Cx) (pins : List (Addr × Obj)) (σ : List (Option V)) (H : Hp) (s : Shared) : Prop where
  ok : X.Ok
  os : s.os = X.s_0.os
  bare : AllBare s.gens
  base : Un X.fs X.ex X.H_0 H X.s_0.heap s.heap
  loc : ∃ m, s.heap.Ns X.env.locals m ∧ ∀ (i : Nat) (x : Str) (v : V), X.N[i]? = some x → σ[i]? = some (some v) → Vis X.env.scope x → ∃ u, RelV v u ∧ Look X.env s.heap m x u
  cell : ∀ x c, X.env.cells.lookup x = some c → ∃ v, s.heap.IsCell c v
  free : H X.env.locals = none
  freeC : ∀ x c, X.env.cells.lookup x = some c → H c = none
  pin : ∀ p ∈ X.pn ++ pins, s.heap.get? p.1 = some p.2 ∧ H p.1 = none ∧ p.1 ≠ X.env.locals ∧ p.1 ∉ X.fs ∧ ∀ v, p.2.data ≠ .cell v
  hok : HOk X.prog X.w H s.heap
  len : σ.length = X.N.length

section
variable {X : Cx} {pins : List (Addr × Obj)} {σ : List (Option V)} {H H' : Hp} {s : Shared} {h' : Heap}

theorem Cx.Ok.nofr (ok : X.Ok) {b : Addr} {o : Obj} (e : X.base.get? b = some o) : b ∉ X.fs := fun hb => by
  have := (ok.funs.mem hb).1
  rw [e] at this; cases this
theorem Inv.bs (I : Inv X pins σ H s) : ∀ b o, X.base.get? b = some o → s.heap.get? b = some o ∧ H b = none := fun b o e =>
  ⟨I.base.keep b o (I.ok.bs b o e).1 (I.ok.bs b o e).2 (I.ok.nofr e) (I.ok.noex b o e), I.base.free b o (I.ok.bs b o e).1 (I.ok.bs b o e).2 (I.ok.noex b o e)⟩
theorem Inv.bk (I : Inv X pins σ H s) : ∀ b o, X.base.get? b = some o → s.heap.get? b = some o := fun b o e => (I.bs b o e).1
theorem Inv.mod (I : Inv X pins σ H s) : Mod X.K X.mg X.base := I.ok.mod
theorem Inv.kIn (I : Inv X pins σ H s) : X.K.In s.heap := I.ok.mod.kin.keeps I.bk
theorem Inv.nolimit (I : Inv X pins σ H s) : s.heap.NoLimit := I.ok.mod.nolimit.keeps I.bk
theorem Inv.lt (I : Inv X pins σ H s) : X.env.locals < s.heap.objs.size := let ⟨_, hn, _⟩ := I.loc; hn.lt
theorem Inv.sz (I : Inv X pins σ H s) : X.s_0.heap.objs.size ≤ s.heap.objs.size := Nat.le_trans I.ok.above (Nat.le_of_lt I.lt)
theorem Inv.nofs (I : Inv X pins σ H s) {a : Addr} (h : s.heap.objs.size ≤ a) : a ∉ X.fs := fun hb => by
  obtain ⟨_, o, ho, _⟩ := I.ok.funs.mem hb
  exact absurd (Nat.lt_of_lt_of_le (Heap.lt_size ho) (Nat.le_trans I.sz h)) (Nat.lt_irrefl _)
theorem Inv.cne (I : Inv X pins σ H s) : ∀ x c, X.env.cells.lookup x = some c → c ≠ X.env.locals := fun x c e z => by
  obtain ⟨v, o, ho, hd⟩ := I.cell x c e
  obtain ⟨m, ⟨o', es, ep, ho', hd', _⟩, _⟩ := I.loc
  rw [z, ho'] at ho; cases ho; rw [hd'] at hd; cases hd
theorem Inv.funs (I : Inv X pins σ H s) : s.heap.FunFrames X.base X.outer := by
  have all : ∀ (l : List Env), (∀ b ∈ frs l, b ∈ X.fs) → X.s_0.heap.FunFrames X.base l → s.heap.FunFrames X.base l := by
    intro l
    induction l with
    | nil => intro _ _; trivial
    | cons env r ih =>
      intro hs hl
      obtain ⟨hk, ⟨L, o, hf, hn, ho, hd⟩, hr⟩ := hl
      have hL : L ∈ X.fs := hs L (by unfold frs; rw [List.filterMap_cons, hf]; exact List.mem_cons_self)
      obtain ⟨sl, e⟩ := I.base.slot L o ho (I.ok.frf L hL) hL fun z => I.ok.exfs L z hL
      exact ⟨hk, ⟨L, _, hf, hn, e, hd⟩, ih (fun b hb => hs b (by unfold frs; rw [List.filterMap_cons, hf]; exact List.mem_cons_of_mem _ hb)) hr⟩
  exact all X.outer (fun _ hb => hb) I.ok.funs

/-- the frames that run, for a call -/
theorem Inv.stack (I : Inv X pins σ H s) : s.heap.FunFrames X.base X.stack := by
  rcases I.ok.stk with e | ⟨e, hf⟩
  · rw [e]; exact I.funs
  · rw [e]
    obtain ⟨m, hn, _⟩ := I.loc
    refine .cons (by rw [I.ok.kind]; decide) hf hn ?_ I.funs
    exact Heap.get?_none_of_le (Nat.le_trans I.ok.bsz I.ok.above)
theorem Inv.stkSub (I : Inv X pins σ H s) : ∀ b ∈ frs X.stack, b ∈ X.env.locals :: X.fs := fun b hb => by
  rcases I.ok.stk with e | ⟨e, hf⟩
  · rw [e] at hb; exact List.mem_cons_of_mem _ hb
  · rw [e] at hb
    unfold frs at hb
    rw [List.filterMap_cons, hf] at hb
    exact hb
theorem Inv.stkFree (I : Inv X pins σ H s) : ∀ b ∈ frs X.stack, H b = none := fun b hb => by
  rcases List.mem_cons.mp (I.stkSub b hb) with e | hb
  · rw [e]; exact I.free
  · obtain ⟨_, o, ho, _⟩ := I.ok.funs.mem hb
    exact I.base.free b o ho (I.ok.frf b hb) fun z => I.ok.exfs b z hb

/-- THE STEP: the untracked objects but the frame and the records at ch are kept (the callers' frames up to slots), the frame's map is kept, the new abstract heap is held -/
theorem Inv.step {g' : Array GenState} {t' : Nat} {d' : Drawn} {ch : List Addr} (I : Inv X pins σ H s)
    (hch : ∀ b ∈ ch, (b ∈ X.ex ∨ X.s_0.heap.objs.size ≤ b) ∧ b ≠ X.env.locals ∧ (∀ x c, X.env.cells.lookup x = some c → c ≠ b) ∧ ∀ p ∈ X.pn ++ pins, p.1 ≠ b)
    (keep : ∀ b o, b ≠ X.env.locals → b ∉ X.fs → b ∉ ch → s.heap.get? b = some o → H b = none → h'.get? b = some o)
    (slot : ∀ b o, b ≠ X.env.locals → b ∈ X.fs → b ∉ ch → s.heap.get? b = some o → H b = none → ∃ sl, h'.get? b = some { o with slots := sl }) (free : ∀ b o, b ∉ ch → s.heap.get? b = some o → H b = none → H' b = none)
    (there : ∀ b o, b ∉ ch → s.heap.get? b = some o → ∃ o', h'.get? b = some o')
    (tups : ∀ b xs, H b = some (.tup xs) → H' b = some (.tup xs)) (frzs : ∀ b o u, H b = some (.frz o u) → H' b = some (.frz o u)) (tbls : ∀ b ps, H b = some (.tbl ps) → ∃ more, H' b = some (.tbl (ps ++ more)))
    (ns : ∀ m, s.heap.Ns X.env.locals m → h'.Ns X.env.locals m) (hok : HOk X.prog X.w H' h') (hg : AllBare g') :
    Inv X pins σ H' { s with heap := h', gens := g', drawn := d', toks := t' } := by
  have neL : ∀ b o, X.s_0.heap.get? b = some o → b ≠ X.env.locals := fun b o e => Nat.ne_of_lt (Nat.lt_of_lt_of_le (Heap.lt_size e) I.ok.above)
  have neC : ∀ b o, X.s_0.heap.get? b = some o → b ∉ X.ex → b ∉ ch := fun b o e hx hb => by
    rcases (hch b hb).1 with z | z
    · exact hx z
    · exact absurd (Nat.lt_of_lt_of_le (Heap.lt_size e) z) (Nat.lt_irrefl _)
  have cellK : ∀ x c, X.env.cells.lookup x = some c → ∀ v, s.heap.IsCell c v → h'.IsCell c v := fun x c e v ⟨o, ho, hd⟩ => by
    have nch : c ∉ ch := fun z => (hch c z).2.2.1 x c e rfl
    by_cases hc : c ∈ X.fs
    · obtain ⟨sl, q⟩ := slot c o (I.cne x c e) hc nch ho (I.freeC x c e)
      exact ⟨_, q, hd⟩
    · exact ⟨o, keep c o (I.cne x c e) hc nch ho (I.freeC x c e), hd⟩
  refine ⟨I.ok, I.os, hg, ⟨fun b o e n hb hx => ?_, fun b o e n hb hx => ?_, fun b o e n hx => ?_, fun b o e hx => ?_, fun b xs e => tups b xs (I.base.tups b xs e), fun b o xs e => frzs b o xs (I.base.frzs b o xs e), fun b ps e => ?_⟩, ?_, fun x c e => ?_, ?_, fun x c e => ?_, fun p hp => ?_, hok, I.len⟩
  · exact keep b o (neL b o e) hb (neC b o e hx) (I.base.keep b o e n hb hx) (I.base.free b o e n hx)
  · obtain ⟨sl, e1⟩ := I.base.slot b o e n hb hx
    obtain ⟨sl', e2⟩ := slot b _ (neL b o e) hb (neC b o e hx) e1 (I.base.free b o e n hx)
    exact ⟨sl', e2⟩
  · obtain ⟨o', e1⟩ := I.base.there b o e hx
    exact free b o' (neC b o e hx) e1 (I.base.free b o e n hx)
  · obtain ⟨o', e1⟩ := I.base.there b o e hx
    exact there b o' (neC b o e hx) e1
  · obtain ⟨m1, e1⟩ := I.base.tbls b ps e
    obtain ⟨m2, e2⟩ := tbls b _ e1
    exact ⟨m1 ++ m2, by rw [e2, Array.append_assoc]⟩
  · obtain ⟨m, hn, hl⟩ := I.loc
    refine ⟨m, ns m hn, fun i x v e1 e2 e3 => ?_⟩
    obtain ⟨u, r, l⟩ := hl i x v e1 e2 e3
    refine ⟨u, r, ?_⟩
    rcases l with l | ⟨k, c, e, z⟩
    · exact .inl l
    · exact .inr ⟨k, c, e, cellK x c e _ z⟩
  · obtain ⟨v, z⟩ := I.cell x c e
    exact ⟨v, cellK x c e v z⟩
  · obtain ⟨m, ⟨o, _, _, ho, _⟩, _⟩ := I.loc
    exact free _ o (fun z => (hch _ z).2.1 rfl) ho I.free
  · obtain ⟨v, o, ho, hd⟩ := I.cell x c e
    exact free c o (fun z => (hch c z).2.2.1 x c e rfl) ho (I.freeC x c e)
  · obtain ⟨e, n, ne, nf, d⟩ := I.pin p hp
    have nch : p.1 ∉ ch := fun z => (hch p.1 z).2.2.2 p hp rfl
    exact ⟨keep p.1 p.2 ne nf nch e n, free p.1 p.2 nch e n, ne, nf, d⟩
/-- .. where the frame's own object is kept too -/
theorem Inv.un {t' : Nat} (I : Inv X pins σ H s) (u : Un X.fs [] H H' s.heap h') (hok : HOk X.prog X.w H' h') : Inv X pins σ H' { s with heap := h', toks := t' } := by
  obtain ⟨m, ⟨o, es, ep, ho, r⟩, _⟩ := id I.loc
  obtain ⟨sl, hL⟩ := u.any ho I.free (by simp)
  exact I.step (g' := s.gens) (d' := s.drawn) (ch := []) (fun _ z => nomatch z) (fun b o _ hb _ e n => u.keep b o e n hb (by simp)) (fun b o _ hb _ e n => u.slot b o e n hb (by simp)) (fun b o _ e n => u.free b o e n (by simp)) (fun b o _ e => u.there b o e (by simp)) u.tups u.frzs u.tbls (fun m' hm => by
    obtain ⟨o', es', ep', ho', r'⟩ := hm
    rw [ho] at ho'; cases ho'
    exact ⟨_, es', ep', hL, r'⟩) hok I.bare
/-- behind a call (or a comprehension's block): the slots of this frame may have changed too, the records at ch may have turned -/
theorem Inv.call {g' : Array GenState} {t' : Nat} {d' : Drawn} {ch : List Addr} (I : Inv X pins σ H s) (u : Un (frs X.stack) ch H H' s.heap h') (hok : HOk X.prog X.w H' h') (hg : AllBare g')
    (hch : ∀ b ∈ ch, (b ∈ X.ex ∨ X.s_0.heap.objs.size ≤ b) ∧ b ≠ X.env.locals ∧ (∀ x c, X.env.cells.lookup x = some c → c ≠ b) ∧ ∀ p ∈ X.pn ++ pins, p.1 ≠ b) :
    Inv X pins σ H' { s with heap := h', gens := g', drawn := d', toks := t' } := by
  obtain ⟨m, ⟨o, es, ep, ho, r⟩, _⟩ := id I.loc
  obtain ⟨sl, hL⟩ := u.any ho I.free fun z => (hch _ z).2.1 rfl
  exact I.step (ch := ch) hch (fun b o hL hb hc e n => u.keep b o e n (fun z => (List.mem_cons.mp (I.stkSub b z)).elim hL hb) hc) (fun b o _ _ hc e n => u.any e n hc) (fun b o hc e n => u.free b o e n hc) (fun b o hc e => u.there b o e hc) u.tups u.frzs u.tbls (fun m' hm => by
    obtain ⟨o', es', ep', ho', r'⟩ := hm
    rw [ho] at ho'; cases ho'
    exact ⟨_, es', ep', hL, r'⟩) hok hg
/-- an untracked record of ours (an iterator) has turned -/
theorem Inv.turned {t' : Nat} {it : Addr} (I : Inv X pins σ H s) (k : ∀ b o, b ≠ it → s.heap.get? b = some o → h'.get? b = some o) (hn : H it = none) (hL : it ≠ X.env.locals)
    (h1 : it ∈ X.ex ∨ X.s_0.heap.objs.size ≤ it) (h2 : ∀ x c, X.env.cells.lookup x = some c → c ≠ it) (h3 : ∀ p ∈ X.pn ++ pins, p.1 ≠ it) : Inv X pins σ H { s with heap := h', toks := t' } := by
  have nit : ∀ b u, H b = some u → b ≠ it := fun b u e z => by rw [z, hn] at e; cases e
  refine I.step (g' := s.gens) (d' := s.drawn) (ch := [it]) (fun b hb => ?_) (fun b o _ _ hc e _ => k b o (fun z => hc (by simp [z])) e) (fun b o _ _ hc e _ => ⟨o.slots, k b o (fun z => hc (by simp [z])) e⟩) (fun _ _ _ _ n => n)
    (fun b o hc e => ⟨o, k b o (fun z => hc (by simp [z])) e⟩) (fun _ _ e => e) (fun _ _ _ e => e) (fun b ps e => ⟨#[], by rw [e]; simp⟩) (fun m hm => ?_) (fun b u e => ?_) I.bare
  · have e : b = it := by simpa using hb
    subst e
    exact ⟨h1, hL, h2, h3⟩
  · obtain ⟨o, es, ep, ho, r⟩ := hm
    exact ⟨o, es, ep, k _ o (Ne.symm hL) ho, r⟩
  · refine (I.hok b u e).stay (fun c v hc q => k c v ?_ q) (fun _ q => q) fun _ _ q => q
    rcases hc with z | z
    · rw [z]; exact nit b u e
    · exact nit c _ z
theorem Inv.tok (I : Inv X pins σ H s) (t : Nat) : Inv X pins σ H { s with toks := t } := I.un (h' := s.heap) (t' := t) Un.refl I.hok
/-- all objects kept -/
theorem Inv.kept {t' : Nat} (I : Inv X pins σ H s) (k : ∀ b u, s.heap.get? b = some u → h'.get? b = some u) : Inv X pins σ H { s with heap := h', toks := t' } := I.un (Un.kept k) (I.hok.kept k)
/-- a new object laid and tracked -/
theorem Inv.laid {a : Addr} {o : HO} {t' : Nat} (I : Inv X pins σ H s) (k : ∀ b u, s.heap.get? b = some u → h'.get? b = some u) (hp : s.heap.objs.size ≤ a) (new : ObjOk X.prog X.w (upd H a o) h' a o) :
    Inv X pins σ (upd H a o) { s with heap := h', toks := t' } := I.un (Un.laid k hp (I.hok.fresh hp)) (I.hok.laid k hp new)
/-- an object written -/
theorem Inv.write {x e : Addr} {o : HO} {t' : Nat} (I : Inv X pins σ H s) (mu : Mut (H x)) (he : e = x ∨ H e = some (.own x)) (k : ∀ b u, b ≠ e → s.heap.get? b = some u → h'.get? b = some u) (heo : ∃ u, h'.get? e = some u)
    (new : ObjOk X.prog X.w (upd H x o) h' x o) : Inv X pins σ (upd H x o) { s with heap := h', toks := t' } := I.un (Un.write mu he k heo) (I.hok.write mu he k heo new)
/-- forgetting slots, pins -/
theorem Inv.weak {σ' : List (Option V)} (I : Inv X pins σ H s) (hl : σ'.length = σ.length) (w : ∀ (i : Nat) v, σ'[i]? = some (some v) → σ[i]? = some (some v)) : Inv X pins σ' H s :=
  ⟨I.ok, I.os, I.bare, I.base, let ⟨m, hn, hl'⟩ := I.loc; ⟨m, hn, fun i x v e1 e2 e3 => hl' i x v e1 (w i v e2) e3⟩, I.cell, I.free, I.freeC, I.pin, I.hok, hl.trans I.len⟩
theorem Inv.pins_of {pins' : List (Addr × Obj)} (I : Inv X pins σ H s) (h : ∀ p ∈ pins', s.heap.get? p.1 = some p.2 ∧ H p.1 = none ∧ p.1 ≠ X.env.locals ∧ p.1 ∉ X.fs ∧ ∀ v, p.2.data ≠ .cell v) : Inv X pins' σ H s :=
  ⟨I.ok, I.os, I.bare, I.base, I.loc, I.cell, I.free, I.freeC, fun p hp => (List.mem_append.mp hp).elim (fun z => I.pin p (List.mem_append_left _ z)) (h p), I.hok, I.len⟩

theorem nodup_ix {N : List Str} (hN : N.Nodup) {i j : Nat} {x : Str} (a : N[i]? = some x) (b : N[j]? = some x) : i = j := by
  obtain ⟨h1, e1⟩ := List.getElem?_eq_some_iff.mp a
  obtain ⟨h2, e2⟩ := List.getElem?_eq_some_iff.mp b
  exact (List.getElem_inj hN).mp (e1.trans e2.symm)

/-- a name is stored; what changed -/
theorem store_ok2 {M : Model} {A : Around} {E : Value → Shared → Prop} {i : Nat} {x : Str} {v : V} {u : Value} {Q : Unit → Shared → Prop} (I : Inv X pins σ H s) (hN : X.N.Nodup) (hi : X.N[i]? = some x) (hx : Loc X.env.scope x) (r : RelV v u)
    (h : ∀ s', Inv X pins (σ.set i (some v)) H s' → (∃ a, Heap.SameBut a s.heap s'.heap ∧ (a = X.env.locals ∨ X.env.cells.lookup x = some a)) → Q () s') (hf : X.fn x = true ∨ X.env.scope.names.lookup x = some .local := by first | exact .inl rfl | exact .inr rfl | assumption) : wpAny M A (storeName X.env x u) Q E s := by
  obtain ⟨m, hn, hl⟩ := id I.loc
  have hcls : (X.env.scope.kind == .class || (X.env.scope.kind == .module && X.env.locals != X.env.globals)) = false := by rw [I.ok.kind]; rfl
  have hiσ : i < σ.length := by rw [I.len]; exact (List.getElem?_eq_some_iff.mp hi).1
  have cne := I.cne
  have tracked : ∀ {a : Addr} {h' : Heap}, (∃ o, s.heap.get? a = some o ∧ H a = none) → Heap.SameBut a s.heap h' → HOk X.prog X.w H h' := fun {a h'} ha hs b ob e => by
    obtain ⟨_, _, hfree⟩ := ha
    refine (I.hok b ob e).stay (fun c w' hc q => (hs.2 c ?_).trans q) (fun _ q => q) fun _ _ q => q
    rintro rfl
    rcases hc with rfl | hc
    · rw [hfree] at e; cases e
    · rw [hfree] at hc; cases hc
  rcases hx with hk | hk
  · refine wpAny_storeName_local hk hn (fun h' hn' hs => ?_) hcls
    obtain ⟨oL, _, _, hoL, _⟩ := id hn
    refine h _ ⟨I.ok, I.os, I.bare, ⟨fun b o e n hb hx => ?_, fun b o e n hb hx => ?_, I.base.free, fun b o e hx => ?_, I.base.tups, I.base.frzs, I.base.tbls⟩, ⟨_, hn', fun j y v' e1 e2 e3 => ?_⟩, fun y c e => ?_, I.free, I.freeC, fun p hp => ?_, tracked ⟨oL, hoL, I.free⟩ hs, by simpa using I.len⟩ ⟨_, hs, .inl rfl⟩
    · exact (hs.2 b (Nat.ne_of_lt (Nat.lt_of_lt_of_le (Heap.lt_size e) I.ok.above))).trans (I.base.keep b o e n hb hx)
    · obtain ⟨sl, e1⟩ := I.base.slot b o e n hb hx
      exact ⟨sl, (hs.2 b (Nat.ne_of_lt (Nat.lt_of_lt_of_le (Heap.lt_size e) I.ok.above))).trans e1⟩
    · obtain ⟨o', e1⟩ := I.base.there b o e hx
      exact ⟨o', (hs.2 b (Nat.ne_of_lt (Nat.lt_of_lt_of_le (Heap.lt_size e) I.ok.above))).trans e1⟩
    · by_cases hj : j = i
      · subst hj
        rw [hi] at e1; cases e1
        rw [List.getElem?_set_self hiσ] at e2
        cases e2
        exact ⟨u, r, .inl ⟨hk, by simp⟩⟩
      · rw [List.getElem?_set_ne (Ne.symm hj)] at e2
        obtain ⟨u', r', q⟩ := hl j y v' e1 e2 e3
        refine ⟨u', r', ?_⟩
        rcases q with ⟨k, e⟩ | ⟨k, c, e, z⟩
        · refine .inl ⟨k, ?_⟩
          have : y ≠ x := fun e => hj (nodup_ix hN e1 (e ▸ hi))
          simp [this, e]
        · exact .inr ⟨k, c, e, z.sameBut hs (cne y c e)⟩
    · obtain ⟨w', z⟩ := I.cell y c e
      exact ⟨w', z.sameBut hs (cne y c e)⟩
    · obtain ⟨e, n, ne, nf, d⟩ := I.pin p hp
      exact ⟨(hs.2 p.1 ne).trans e, n, ne, nf, d⟩
  · have hfn : X.fn x = true := by
      rcases hf with z | z
      · exact z
      · rw [z] at hk; cases hk
    obtain ⟨c, hc⟩ := I.ok.has x (.inl hk)
    obtain ⟨w', z⟩ := I.cell x c hc
    refine wpAny_storeName_cell I.ok.kind hk hc z (fun h' hc' hs => ?_)
    obtain ⟨oc, hoc, hocd⟩ := id z
    refine h { s with heap := h' } ⟨I.ok, I.os, I.bare, ⟨fun b o e n hb hx => ?_, fun b o e n hb hx => ?_, I.base.free, fun b o e hx => ?_, I.base.tups, I.base.frzs, I.base.tbls⟩, ⟨m, hn.sameBut hs (Ne.symm (cne x c hc)), fun j y v' e1 e2 e3 => ?_⟩, fun y c' e => ?_, I.free, I.freeC, fun p hp => ?_, tracked ⟨oc, hoc, I.freeC x c hc⟩ hs, by simpa using I.len⟩ ⟨c, hs, .inr hc⟩
    · exact (hs.2 b (Nat.ne_of_lt (Nat.lt_of_lt_of_le (Heap.lt_size e) (I.ok.cab x c hfn hc)))).trans (I.base.keep b o e n hb hx)
    · obtain ⟨sl, e1⟩ := I.base.slot b o e n hb hx
      exact ⟨sl, (hs.2 b (Nat.ne_of_lt (Nat.lt_of_lt_of_le (Heap.lt_size e) (I.ok.cab x c hfn hc)))).trans e1⟩
    · obtain ⟨o', e1⟩ := I.base.there b o e hx
      exact ⟨o', (hs.2 b (Nat.ne_of_lt (Nat.lt_of_lt_of_le (Heap.lt_size e) (I.ok.cab x c hfn hc)))).trans e1⟩
    · by_cases hj : j = i
      · subst hj
        rw [hi] at e1; cases e1
        rw [List.getElem?_set_self hiσ] at e2
        cases e2
        exact ⟨u, r, .inr ⟨.inl hk, c, hc, hc'⟩⟩
      · rw [List.getElem?_set_ne (Ne.symm hj)] at e2
        obtain ⟨u', r', q⟩ := hl j y v' e1 e2 e3
        refine ⟨u', r', ?_⟩
        rcases q with q | ⟨k, c', e, z'⟩
        · exact .inl q
        · refine .inr ⟨k, c', e, z'.sameBut hs ?_⟩
          rintro rfl
          exact hj (nodup_ix hN e1 (I.ok.inj _ _ _ e hc ▸ hi))
    · by_cases hcc : c' = c
      · subst hcc; exact ⟨_, hc'⟩
      · obtain ⟨w2, z2⟩ := I.cell y c' e
        exact ⟨w2, z2.sameBut hs hcc⟩
    · obtain ⟨e, n, ne, nf, d⟩ := I.pin p hp
      refine ⟨(hs.2 p.1 ?_).trans e, n, ne, nf, d⟩
      intro q
      rw [q, hoc] at e
      have q' : oc = p.2 := Option.some.inj e
      exact d w' (by rw [← q']; exact hocd)
theorem store_ok {M : Model} {A : Around} {E : Value → Shared → Prop} {i : Nat} {x : Str} {v : V} {u : Value} {Q : Unit → Shared → Prop} (I : Inv X pins σ H s) (hN : X.N.Nodup) (hi : X.N[i]? = some x) (hx : Loc X.env.scope x) (r : RelV v u)
    (h : ∀ s', Inv X pins (σ.set i (some v)) H s' → Q () s') (hf : X.fn x = true ∨ X.env.scope.names.lookup x = some .local := by first | exact .inl rfl | exact .inr rfl | assumption) : wpAny M A (storeName X.env x u) Q E s :=
  store_ok2 I hN hi hx r (fun s' I' _ => h s' I') hf
/-- behind a call or a block, the state as it is -/
theorem Inv.call' {s' : Shared} {ch : List Addr} (I : Inv X pins σ H s) (ho : s'.os = s.os) (u : Un (frs X.stack) ch H H' s.heap s'.heap) (hok : HOk X.prog X.w H' s'.heap) (hg : AllBare s'.gens)
    (hch : ∀ b ∈ ch, (b ∈ X.ex ∨ X.s_0.heap.objs.size ≤ b) ∧ b ≠ X.env.locals ∧ (∀ x c, X.env.cells.lookup x = some c → c ≠ b) ∧ ∀ p ∈ X.pn ++ pins, p.1 ≠ b) : Inv X pins σ H' s' := by
  obtain ⟨h', g', d', t', o'⟩ := s'
  have e : o' = s.os := ho
  subst e
  exact I.call (g' := g') (t' := t') (d' := d') u hok hg hch
end

/-! ### the judgements -/
/-- an exception: its class, its own dict's address (where it has one), the abstract heap behind it -/
abbrev XK := Value → Option Addr → Hp → Prop
abbrev St := List (Option V)
abbrev VK := V → Hp → Prop
/-- an expression's reading; a test's; an argument list's -/
abbrev TE := St → Hp → VK → Prop
abbrev TT := St → Hp → (Bool → Hp → Prop) → Prop
abbrev TA := St → Hp → (List V → Hp → Prop) → Prop
/-- what is wanted behind a statement -/
structure Ends where
  nx : St → Hp → Prop
  rt : VK
  bk : St → Hp → Prop := fun _ _ => False
  ct : St → Hp → Prop := fun _ _ => False
abbrev TS := Ends → St → Hp → Prop

def EP (X : Cx) (pins : List (Addr × Obj)) (σ : St) (Q : VK) (u : Value) (s' : Shared) : Prop := ∃ v H', Inv X pins σ H' s' ∧ RelV v u ∧ Q v H'
def TP (X : Cx) (pins : List (Addr × Obj)) (σ : St) (Q : Bool → Hp → Prop) (b : Bool) (s' : Shared) : Prop := ∃ H', Inv X pins σ H' s' ∧ Q b H'
def AP (X : Cx) (pins : List (Addr × Obj)) (σ : St) (Q : List V → Hp → Prop) (us : List Value) (s' : Shared) : Prop := ∃ vs H', Inv X pins σ H' s' ∧ Vals vs us ∧ Q vs H'
def SP (X : Cx) (pins : List (Addr × Obj)) (D : Ends) (f : Flow) (s' : Shared) : Prop :=
  match f with
  | .next => ∃ σ' H', Inv X pins σ' H' s' ∧ D.nx σ' H'
  | .brk => ∃ σ' H', Inv X pins σ' H' s' ∧ D.bk σ' H'
  | .cont => ∃ σ' H', Inv X pins σ' H' s' ∧ D.ct σ' H'
  | .ret u => ∃ v σ' H', Inv X pins σ' H' s' ∧ RelV v u ∧ D.rt v H'

def PE (X : Cx) (e : Expr) (t : TE) : Prop :=
  ∀ (pins : List (Addr × Obj)) (s : Shared) (σ : St) (H : Hp) (Q : VK), Inv X pins σ H s → t σ H Q → wpAny (model X.prog X.w) X.A (eval e X.env) (EP X pins σ Q) X.xe s
def PT (X : Cx) (e : Expr) (t : TT) : Prop :=
  ∀ (pins : List (Addr × Obj)) (s : Shared) (σ : St) (H : Hp) (Q : Bool → Hp → Prop), Inv X pins σ H s → t σ H Q → wpAny (model X.prog X.w) X.A (isTrue e X.env (eval e X.env)) (TP X pins σ Q) X.xe s
/-- a test whatever its 'whole' is (and, or) -/
def PW (X : Cx) (e : Expr) (t : TT) : Prop :=
  ∀ (whole : Sem Value) (pins : List (Addr × Obj)) (s : Shared) (σ : St) (H : Hp) (Q : Bool → Hp → Prop), Inv X pins σ H s → t σ H Q → wpAny (model X.prog X.w) X.A (isTrue e X.env whole) (TP X pins σ Q) X.xe s
theorem PW.pt {X : Cx} {e : Expr} {t : TT} (h : PW X e t) : PT X e t := h _
/-- an argument list (no star), from the left -/
def PA (X : Cx) (es : List Expr) (t : TA) : Prop :=
  ∀ (pos : Pos) (pins : List (Addr × Obj)) (s : Shared) (σ : St) (H : Hp) (Q : List V → Hp → Prop), Inv X pins σ H s → t σ H Q → wpAny (model X.prog X.w) X.A (spliced (backTo pos (starEach es X.env))) (AP X pins σ Q) X.xe s
def PS (X : Cx) (st : Stmt) (t : TS) : Prop :=
  ∀ (pins : List (Addr × Obj)) (s : Shared) (σ : St) (H : Hp) (D : Ends), Inv X pins σ H s → t D σ H → wpAny (model X.prog X.w) X.A (exec st X.env) (SP X pins D) X.xe s
def PSs (X : Cx) (st : List Stmt) (t : TS) : Prop :=
  ∀ (pins : List (Addr × Obj)) (s : Shared) (σ : St) (H : Hp) (D : Ends), Inv X pins σ H s → t D σ H → wpAny (model X.prog X.w) X.A (execs st X.env) (SP X pins D) X.xe s
/-- weaken the end -/
theorem thn {α : Type} {t : Sem α} {Q Q' : α → Shared → Prop} {M : Model} {A : Around} {E : Value → Shared → Prop} {s : Shared} (h : wpAny M A t Q E s) (hQ : ∀ a s, Q a s → Q' a s) : wpAny M A t Q' E s := wpAny_mono h hQ fun _ _ x => x
end L2

namespace L2
open PySem PySem.Spec PyProof.Rows
section
variable {X : Cx}


/-! ### names and constants -/
def tVar (i : Nat) : TE := fun σ H Q => ∃ v, σ[i]? = some (some v) ∧ Q v H
def tC (v : V) : TE := fun _ H Q => Q v H
theorem pe_var {i : Nat} {x : Str} {pos : Pos} (hN : X.N[i]? = some x) (hv : Vis X.env.scope x) (hd : (x == ("__debug__" : Str)) = false := by decide) (hcd : (x == ("__classdict__" : Str)) = false := by decide) : PE X (.Name x pos) (tVar i) := by
  intro pins s σ H Q I h
  obtain ⟨v, e, h⟩ := h
  obtain ⟨m, hn, hl⟩ := I.loc
  obtain ⟨u, r, l⟩ := hl i x v hN e hv
  have fin : EP X pins σ Q u s := ⟨v, H, I, r, h⟩
  rcases l with ⟨hk, hm⟩ | ⟨hk, c, hc, hcell⟩
  · exact wpAny_Name (wpAny_loadName_local I.ok.kind hk hn hm fin) hd
  · rcases hk with hk | hk
    · exact wpAny_Name (wpAny_loadName_cell I.ok.kind hk hc hcell fin) hd
    · exact wpAny_Name (wpAny_loadName_free I.ok.kind hk hc hcell fin hcd) hd
theorem pe_int {i j pos} : PE X (.Constant (.int i) j pos) (tC (.int i)) := fun _ _ _ H _ I h => wpAny_Constant_int ⟨.int i, H, I.tok _, ⟨_, rfl⟩, h⟩
theorem pe_bl {b j pos} : PE X (.Constant (.bool b) j pos) (tC (.bl b)) := fun _ _ _ H _ I h => Constant_bool ⟨.bl b, H, I, rfl, h⟩
theorem pe_non {j pos} : PE X (.Constant .none j pos) (tC .non) := fun _ _ _ H _ I h => Constant_none ⟨.non, H, I, rfl, h⟩
theorem pe_str {x j pos} : PE X (.Constant (.str x) j pos) (tC (.str x)) := fun _ _ _ H _ I h => Calls.Constant_str ⟨.str x, H, I.tok _, ⟨_, rfl⟩, h⟩

/-- a global name of the def -/
def Gl (X : Cx) (x : Str) : Prop := X.env.kindOf x = some .globalImplicit
theorem ld_glob {E : Value → Shared → Prop} {pins : List (Addr × Obj)} {s : Shared} {σ : St} {H : Hp} {x : Str} {u : Value} {pos : Pos} {Q : Value → Shared → Prop} (I : Inv X pins σ H s) (hg : Gl X x) (hm : X.mg x = some u) (h : Q u s)
    (hd : (x == ("__debug__" : Str)) = false := by decide) : wpAny (model X.prog X.w) X.A (eval (.Name x pos) X.env) Q E s :=
  Calls.Name_function_global I.ok.kind hg (Calls.loadGlobal_global (by rw [I.ok.glob]; exact I.mod.glob.keeps I.bk) hm h) hd
theorem ld_blt {E : Value → Shared → Prop} {pins : List (Addr × Obj)} {s : Shared} {σ : St} {H : Hp} {x : Str} {u : Value} {pos : Pos} {Q : Value → Shared → Prop} (I : Inv X pins σ H s) (hg : Gl X x) (hm : X.mg x = none) (hv : bootBuiltins x = some u) (h : Q u s)
    (hn : x ≠ "__name__" := by decide) (hd : (x == ("__debug__" : Str)) = false := by decide) : wpAny (model X.prog X.w) X.A (eval (.Name x pos) X.env) Q E s := by
  obtain ⟨mb, h1, h2⟩ := I.mod.blt
  exact Calls.Name_function_global I.ok.kind hg (Calls.loadGlobal_builtin (by rw [I.ok.glob]; exact I.mod.glob.keeps I.bk) hm (by rw [I.ok.blt]; exact h1.keeps I.bk) ((h2 x hn).trans hv) h) hd
/-- a module's constant, a class, a function, as a value -/
theorem pe_glob {x : Str} {v : V} {u : Value} {pos : Pos} (hg : Gl X x) (hm : X.mg x = some u) (r : RelV v u) (hd : (x == ("__debug__" : Str)) = false := by decide) : PE X (.Name x pos) (tC v) :=
  fun _ _ _ H _ I h => ld_glob I hg hm ⟨v, H, I, r, h⟩ hd
theorem pe_bltn {x : Str} {v : V} {u : Value} {pos : Pos} (hg : Gl X x) (hm : X.mg x = none) (hv : bootBuiltins x = some u) (r : RelV v u) (hn : x ≠ "__name__" := by decide) (hd : (x == ("__debug__" : Str)) = false := by decide) : PE X (.Name x pos) (tC v) :=
  fun _ _ _ H _ I h => ld_blt I hg hm hv ⟨v, H, I, r, h⟩ hn hd

/-! ### arithmetic -/
/-- two ints -/
def t2I (ta tb : TE) (k : Int → Int → Hp → Prop) : St → Hp → Prop := fun σ H => ta σ H fun x H1 => tb σ H1 fun y H2 => ∃ i j, x = .int i ∧ y = .int j ∧ k i j H2
def tAdd (ta tb : TE) : TE := fun σ H Q => t2I ta tb (fun i j H2 => Q (.int (i + j)) H2) σ H
def tSub (ta tb : TE) : TE := fun σ H Q => t2I ta tb (fun i j H2 => Q (.int (i - j)) H2) σ H
/-- the left factor below 2^64 -/
def tMul (ta tb : TE) : TE := fun σ H Q => t2I ta tb (fun i j H2 => (-(2 ^ 64) < i ∧ i < 2 ^ 64) ∧ Q (.int (i * j)) H2) σ H
variable {a b : Expr} {ta tb : TE} {pos : Pos}

/-! ### comparisons -/
def PC (X : Cx) (op : CmpOp) (a b : Expr) (t : TE) : Prop :=
  ∀ (pins : List (Addr × Obj)) (s : Shared) (σ : St) (H : Hp) (Q : VK), Inv X pins σ H s → t σ H Q →
    wpAny (model X.prog X.w) X.A (eval a X.env) (fun v s₁ => wpAny (model X.prog X.w) X.A (eval b X.env) (fun u s₂ => wpAny (model X.prog X.w) X.A (compareOp op v u) (EP X pins σ Q) X.xe s₂) X.xe s₁) X.xe s
theorem nobehind (b : Expr) {op : CmpOp} (h : op ≠ .In) (h2 : op ≠ .NotIn) : behindInMarks op b = false := by
  have e1 : (op == CmpOp.In) = false := by cases op <;> first | rfl | exact absurd rfl h
  have e2 : (op == CmpOp.NotIn) = false := by cases op <;> first | rfl | exact absurd rfl h2
  cases b <;> simp [behindInMarks, e1, e2]
def tCmp (p : Int → Int → Bool) (ta tb : TE) : TE := fun σ H Q => t2I ta tb (fun i j H2 => Q (.bl (p i j)) H2) σ H
/-- is None -/
def tIsN (ta : TE) : TE := fun σ H Q => ta σ H fun x H1 => Q (.bl (decide (x = .non))) H1
def tNotN (ta : TE) : TE := fun σ H Q => ta σ H fun x H1 => Q (.bl (!decide (x = .non))) H1
/-- a comparison as a value, as a test -/
def tB (t : TE) : TT := fun σ H Q => t σ H fun x H1 => ∃ c, x = .bl c ∧ Q c H1
theorem pt_cmp {op : CmpOp} {t : TE} (h : PC X op a b t) (h1 : behindInMarks op b = false := by first | exact nobehind _ (by decide) (by decide) | rfl) : PT X (.Compare a [op] [b] pos) (tB t) := by
  intro pins s σ H Q I hw
  refine wpAny_isTrue_Compare1 (thn (h pins s σ H _ I hw) fun v s1 h1 => thn h1 fun u s2 h2 => thn h2 fun c s3 ⟨x, H1, I1, r1, q1⟩ => ?_) h1
  obtain ⟨d, rfl, q⟩ := q1
  cases r1
  exact wpAny_truthy_bool ⟨H1, I1, q⟩
/-- an expression whose value is a bool, as a test -/
theorem pt_val {e : Expr} {t : TE} (h : PE X e t) (he : ∀ whole, isTrue e X.env whole = (do let v ← whole; standAt e.pos; holding [v] (truthy v)) := by intro _; rfl) : PT X e (tB t) := by
  intro pins s σ H Q I hw
  refine isTrue_plain (thn (h pins s σ H _ I hw) fun v s1 ⟨x, H1, I1, r1, q1⟩ => ?_) (he _)
  obtain ⟨d, rfl, q⟩ := q1
  cases r1
  exact wpAny_truthy_bool ⟨H1, I1, q⟩

/-! ### and, or, not -/
variable {tA tB' : TT} {rest : List Expr}
def tAnd (t u : TT) : TT := fun σ H Q => t σ H fun c H1 => if c = true then u σ H1 Q else Q false H1
def tOr (t u : TT) : TT := fun σ H Q => t σ H fun c H1 => if c = true then Q true H1 else u σ H1 Q
def tNot (t : TT) : TT := fun σ H Q => t σ H fun c H1 => Q (!c) H1
theorem pw_and1 (ha : PT X a tA) : PW X (.BoolOp .And [a] pos) tA := by
  intro wh pins s σ H Q I h
  refine isTrue_and (thn (ha pins s σ H Q I h) fun c s1 e => ?_)
  cases c with
  | true => exact isTrue_and_nil e
  | false => exact e
theorem pw_or1 (ha : PT X a tA) : PW X (.BoolOp .Or [a] pos) tA := by
  intro wh pins s σ H Q I h
  refine isTrue_or (thn (ha pins s σ H Q I h) fun c s1 e => ?_)
  cases c with
  | false => exact isTrue_or_nil e
  | true => exact e
theorem pw_and (ha : PT X a tA) (hb : PW X (.BoolOp .And (b :: rest) pos) tB') : PW X (.BoolOp .And (a :: b :: rest) pos) (tAnd tA tB') := by
  intro wh pins s σ H Q I h
  refine isTrue_and (thn (ha pins s σ H _ I h) fun c s1 ⟨H1, I1, q1⟩ => ?_)
  cases c with
  | true => exact hb wh pins s1 σ H1 Q I1 q1
  | false => exact ⟨H1, I1, q1⟩
theorem pw_or (ha : PT X a tA) (hb : PW X (.BoolOp .Or (b :: rest) pos) tB') : PW X (.BoolOp .Or (a :: b :: rest) pos) (tOr tA tB') := by
  intro wh pins s σ H Q I h
  refine isTrue_or (thn (ha pins s σ H _ I h) fun c s1 ⟨H1, I1, q1⟩ => ?_)
  cases c with
  | true => exact ⟨H1, I1, q1⟩
  | false => exact hb wh pins s1 σ H1 Q I1 q1
theorem pt_not (ha : PT X a tA) : PT X (.UnaryOp .Not a pos) (tNot tA) := by
  intro pins s σ H Q I h
  exact isTrue_not (ha pins s σ H (fun c H1 => Q (!c) H1) I h)
/-- .. as values (bools) -/
def tAndV (ta tb : TE) : TE := fun σ H Q => ta σ H fun x H1 => ∃ c, x = .bl c ∧ if c = true then tb σ H1 Q else Q (.bl false) H1
def tOrV (ta tb : TE) : TE := fun σ H Q => ta σ H fun x H1 => ∃ c, x = .bl c ∧ if c = true then Q (.bl true) H1 else tb σ H1 Q
def tNotV (ta : TE) : TE := fun σ H Q => ta σ H fun x H1 => ∃ c, x = .bl c ∧ Q (.bl (!c)) H1
theorem pe_one {op} {t : TE} (h : PE X a t) : PE X (.BoolOp op [a] pos) t := fun pins s σ H Q I hw => BoolOp_one (h pins s σ H Q I hw)
theorem pe_and (ha : PE X a ta) (hb : PE X (.BoolOp .And (b :: rest) pos) tb) : PE X (.BoolOp .And (a :: b :: rest) pos) (tAndV ta tb) := by
  intro pins s σ H Q I h
  refine BoolOp_and (thn (ha pins s σ H _ I h) fun v s1 ⟨x, H1, I1, r1, q1⟩ => ?_)
  obtain ⟨c, rfl, q1⟩ := q1
  cases r1
  refine wpAny_truthy_bool ?_
  cases c with
  | true => exact hb pins s1 σ H1 Q I1 q1
  | false => exact ⟨.bl false, H1, I1, rfl, q1⟩
theorem pe_or (ha : PE X a ta) (hb : PE X (.BoolOp .Or (b :: rest) pos) tb) : PE X (.BoolOp .Or (a :: b :: rest) pos) (tOrV ta tb) := by
  intro pins s σ H Q I h
  refine BoolOp_or (thn (ha pins s σ H _ I h) fun v s1 ⟨x, H1, I1, r1, q1⟩ => ?_)
  obtain ⟨c, rfl, q1⟩ := q1
  cases r1
  refine wpAny_truthy_bool ?_
  cases c with
  | false => exact hb pins s1 σ H1 Q I1 q1
  | true => exact ⟨.bl true, H1, I1, rfl, q1⟩
/-- a if t else b -/
def tIf (t : TT) (ta tb : TE) : TE := fun σ H Q => t σ H fun c H1 => if c = true then ta σ H1 Q else tb σ H1 Q
theorem pe_ifExp {c : Expr} (hc : PT X c tA) (ha : PE X a ta) (hb : PE X b tb) : PE X (.IfExp c a b pos) (tIf tA ta tb) := by
  intro pins s σ H Q I h
  refine wpAny_IfExp (thn (hc pins s σ H _ I h) fun d s1 ⟨H1, I1, q1⟩ => ?_)
  cases d with
  | true => exact ha pins s1 σ H1 Q I1 q1
  | false => exact hb pins s1 σ H1 Q I1 q1
end
end L2

namespace L2
open PySem PySem.Spec PyProof.Rows

/-! ### a list, a tuple that is read: tracked, frozen, or an object of the module -/
def SqL (K : PySem.W.Frag) (H : Hp) (a : Addr) (xs : List V) : Prop :=
  Rd H a (.lst xs) ∨
    ∃ (o : Obj) (its : Array Value) (n : Nat), K.lookup a = some o ∧ o.cls = .type "list" ∧ o.dict = none ∧ o.data = .seq its n ∧ its.size ≤ sizeLine ∧ Vals xs its.toList
def SqT (K : PySem.W.Frag) (H : Hp) (a : Addr) (xs : List V) : Prop :=
  Rd H a (.tup xs) ∨
    ∃ (o : Obj) (its : Array Value) (n : Nat), K.lookup a = some o ∧ o.cls = .type "tuple" ∧ o.data = .seq its n ∧ its.size ≤ sizeLine ∧ Vals xs its.toList
def absV : Value → Option V
  | .none => some .non
  | .bool b => some (.bl b)
  | .int i _ => some (.int i)
  | .str x _ => some (.str x)
  | .bytes b _ => some (.byt b)
  | .float b _ => some (.flt b)
  | .ref a => some (.ref a)
  | .type n => some (.ty n)
  | _ => none
theorem RelV.abs {x : V} {u : Value} (r : RelV x u) : absV u = some x := by
  cases x with
  | non => cases r; rfl
  | bl _ => cases r; rfl
  | int _ => obtain ⟨t, rfl⟩ := r; rfl
  | str _ => obtain ⟨t, rfl⟩ := r; rfl
  | byt _ => obtain ⟨t, rfl⟩ := r; rfl
  | flt _ => obtain ⟨t, rfl⟩ := r; rfl
  | ref _ => cases r; rfl
  | ty _ => cases r; rfl
theorem RelV.inj {x y : V} {u : Value} (r : RelV x u) (q : RelV y u) : x = y := Option.some.inj (r.abs.symm.trans q.abs)
theorem Vals.inj : ∀ {xs ys : List V} {us : List Value}, Vals xs us → Vals ys us → xs = ys
  | _, _, _, .nil, .nil => rfl
  | _, _, _, .cons r t, .cons r' t' => by rw [r.inj r', Vals.inj t t']
section
variable {X : Cx} {pins : List (Addr × Obj)} {σ : St} {H : Hp} {s : Shared} {a : Addr} {xs ys : List V}
theorem SqL.of {K : PySem.W.Frag} (h : H a = some (.lst xs)) : SqL K H a xs := .inl (.inl h)
theorem SqT.of {K : PySem.W.Frag} (h : H a = some (.tup xs)) : SqT K H a xs := .inl (.inl h)
theorem Inv.list (I : Inv X pins σ H s) (h : SqL X.K H a xs) : ∃ its : List Value, Vals xs its ∧ PlainL s.heap a its.toArray ∧ xs.length ≤ sizeLine := by
  rcases h with h | ⟨o, its, n, hk, hc, hd, hs, hz, r⟩
  · obtain ⟨z, its, n, r, e⟩ := h.ok I.hok
    exact ⟨its, r, ⟨_, n, e, rfl, rfl, rfl⟩, z⟩
  · refine ⟨its.toList, r, ⟨o, n, I.kIn a o hk, hc, hd, by simpa using hs⟩, ?_⟩
    have e := r.length
    simp only [Array.length_toList] at e
    omega
theorem Inv.tuple (I : Inv X pins σ H s) (h : SqT X.K H a xs) : ∃ its : List Value, Vals xs its ∧ IsTup s.heap a its.toArray ∧ xs.length ≤ sizeLine := by
  rcases h with h | ⟨o, its, n, hk, hc, hs, hz, r⟩
  · obtain ⟨z, its, r, p⟩ := h.ok I.hok
    exact ⟨its, r, p, z⟩
  · refine ⟨its.toList, r, ⟨o, I.kIn a o hk, hc, n, by simpa using hs⟩, ?_⟩
    have e := r.length
    simp only [Array.length_toList] at e
    omega
theorem Inv.list_inj (I : Inv X pins σ H s) (h : SqL X.K H a xs) (h' : SqL X.K H a ys) : xs = ys := by
  obtain ⟨its, r, ⟨o, n, e, _, _, d⟩, _⟩ := I.list h
  obtain ⟨its', r', ⟨o', n', e', _, _, d'⟩, _⟩ := I.list h'
  rw [e] at e'; cases e'
  rw [d] at d'
  injection d' with d1 _
  have : its = its' := by simpa using congrArg Array.toList d1
  subst this
  exact r.inj r'
end

/-! ### another wish about exceptions -/
abbrev Cx.wish (X : Cx) (E : Value → Shared → Prop) : Cx := { X with xe := E }
/-- no exception leaves -/
abbrev Cx.nox (X : Cx) : Cx := X.wish fun _ _ => False
theorem Cx.Ok.wish {X : Cx} (ok : X.Ok) (E : Value → Shared → Prop) : (X.wish E).Ok :=
  ⟨ok.mod, ok.kind, ok.glob, ok.blt, ok.above, ok.inj, ok.has, ok.cab, ok.hd, ok.frames, ok.stk, ok.exf, ok.bs, ok.bsz, ok.noex, ok.exfs, ok.funs, ok.frf⟩
theorem Cx.Ok.unwish {X : Cx} {E : Value → Shared → Prop} (ok : (X.wish E).Ok) : X.Ok :=
  ⟨ok.mod, ok.kind, ok.glob, ok.blt, ok.above, ok.inj, ok.has, ok.cab, ok.hd, ok.frames, ok.stk, ok.exf, ok.bs, ok.bsz, ok.noex, ok.exfs, ok.funs, ok.frf⟩
section
variable {X : Cx} {pins : List (Addr × Obj)} {σ : St} {H : Hp} {s : Shared} {E : Value → Shared → Prop}
theorem Inv.wish (I : Inv X pins σ H s) (E : Value → Shared → Prop) : Inv (X.wish E) pins σ H s := ⟨I.ok.wish E, I.os, I.bare, I.base, I.loc, I.cell, I.free, I.freeC, I.pin, I.hok, I.len⟩
theorem Inv.unwish (I : Inv (X.wish E) pins σ H s) : Inv X pins σ H s := ⟨I.ok.unwish, I.os, I.bare, I.base, I.loc, I.cell, I.free, I.freeC, I.pin, I.hok, I.len⟩
theorem SP.unwish {D : Ends} {f : Flow} {s' : Shared} (h : SP (X.wish E) pins D f s') : SP X pins D f s' := by
  cases f with
  | next => obtain ⟨σ', H', I, q⟩ := h; exact ⟨σ', H', I.unwish, q⟩
  | brk => obtain ⟨σ', H', I, q⟩ := h; exact ⟨σ', H', I.unwish, q⟩
  | cont => obtain ⟨σ', H', I, q⟩ := h; exact ⟨σ', H', I.unwish, q⟩
  | ret u => obtain ⟨v, σ', H', I, r, q⟩ := h; exact ⟨v, σ', H', I.unwish, r, q⟩
theorem PE.nox {e : Expr} {t : TE} (h : PE X.nox e t) : PE X e t := fun pins s σ H Q I hw =>
  wpAny_mono (h pins s σ H Q (I.wish _) hw) (fun _ _ ⟨v, H', I', r, q⟩ => ⟨v, H', I'.unwish, r, q⟩) fun _ _ z => False.elim z
theorem PT.nox {e : Expr} {t : TT} (h : PT X.nox e t) : PT X e t := fun pins s σ H Q I hw =>
  wpAny_mono (h pins s σ H Q (I.wish _) hw) (fun _ _ ⟨H', I', q⟩ => ⟨H', I'.unwish, q⟩) fun _ _ z => False.elim z
theorem PSs.nox {st : List Stmt} {t : TS} (h : PSs X.nox st t) : PSs X st t := fun pins s σ H D I hw =>
  wpAny_mono (h pins s σ H D (I.wish _) hw) (fun _ _ q => q.unwish) fun _ _ z => False.elim z
end

/-! ### blocks and small statements -/
section
variable {X : Cx} {st : Stmt} {rest : List Stmt} {t u : TS} {e : Expr} {te : TE} {pos : Pos}
def tNext : TS := fun D σ H => D.nx σ H
def tSeq (t u : TS) : TS := fun D σ H => t { D with nx := u D } σ H
theorem pss_nil : PSs X [] tNext := fun _ _ σ H _ I h => wpAny_execs_nil ⟨σ, H, I, h⟩
theorem pss_cons (h1 : PS X st t) (h2 : PSs X rest u) : PSs X (st :: rest) (tSeq t u) := by
  intro pins s σ H D I h
  refine wpAny_execs_cons (thn (h1 pins s σ H { D with nx := u D } I h) fun f s1 q => ?_)
  cases f with
  | next =>
    obtain ⟨σ', H', I', q⟩ := q
    exact h2 pins s1 σ' H' D I' q
  | ret v => exact q
  | brk => exact q
  | cont => exact q
theorem pss_one (h1 : PS X st t) : PSs X [st] t := by
  intro pins s σ H D I h
  refine wpAny_execs_cons (thn (h1 pins s σ H D I h) fun f s1 q => ?_)
  cases f with
  | next => exact wpAny_execs_nil q
  | ret v => exact q
  | brk => exact q
  | cont => exact q
def tBreak : TS := fun D σ H => D.bk σ H
def tCont : TS := fun D σ H => D.ct σ H
/-- in a def's body nothing is shown -/
theorem Inv.quiet {pins : List (Addr × Obj)} {σ : St} {H : Hp} {s : Shared} (I : Inv X pins σ H s) : interactive X.env = false := by simp [interactive, I.ok.kind]
/-- an expression whose value is dropped -/
def tDrop (te : TE) : TS := fun D σ H => te σ H fun _ H1 => D.nx σ H1
theorem ps_expr (he : PE X e te) (hs : swapsWith e none pos.line X.env = pure false := by rfl) : PS X (.Expr e pos) (tDrop te) := by
  intro pins s σ H D I h
  exact wpAny_Expr_any (thn (he pins s σ H _ I h) fun v s1 ⟨x, H1, I1, r1, q1⟩ => ⟨σ, H1, I1, q1⟩) I.quiet hs
def tRet (te : TE) : TS := fun D σ H => te σ H D.rt
theorem ps_ret (he : PE X e te) : PS X (.Return (some e) pos) (tRet te) := by
  intro pins s σ H D I h
  exact wpAny_Return_some (thn (he pins s σ H _ I h) fun v s1 ⟨x, H1, I1, r1, q1⟩ => ⟨x, σ, H1, I1, r1, q1⟩)
def tRetN : TS := fun D _ H => D.rt .non H
def tIfS (c : TT) (t u : TS) : TS := fun D σ H => c σ H fun b H1 => if b = true then t D σ H1 else u D σ H1
theorem ps_if {c : Expr} {a b : List Stmt} {tc : TT} (hc : PT X c tc) (ha : PSs X a t) (hb : PSs X b u) : PS X (.If c a b pos) (tIfS tc t u) := by
  intro pins s σ H D I h
  refine wpAny_If (thn (hc pins s σ H _ I h) fun d s1 ⟨H1, I1, q1⟩ => ?_)
  cases d with
  | true => exact ha pins s1 σ H1 D I1 q1
  | false => exact hb pins s1 σ H1 D I1 q1
/-- code that the proof never comes to -/
def tNever : TS := fun _ _ _ => False
theorem ps_never : PS X st tNever := fun _ _ _ _ _ _ h => h.elim
end

/-! ### targets -/
abbrev TG := V → St → Hp → (St → Hp → Prop) → Prop
abbrev TGs := List V → St → Hp → (St → Hp → Prop) → Prop
def PG (X : Cx) (target : Expr) (t : TG) : Prop :=
  ∀ (pins : List (Addr × Obj)) (s : Shared) (σ : St) (H : Hp) (v : V) (u : Value) (Q : St → Hp → Prop), Inv X pins σ H s → RelV v u → t v σ H Q →
    wpAny (model X.prog X.w) X.A (assign target X.env u) (fun _ s' => ∃ σ' H', Inv X pins σ' H' s' ∧ Q σ' H') X.xe s
/-- several targets, one after another -/
def PGs (X : Cx) (ts : List Expr) (t : TGs) : Prop :=
  ∀ (pins : List (Addr × Obj)) (s : Shared) (σ : St) (H : Hp) (vs : List V) (us : List Value) (Q : St → Hp → Prop), Inv X pins σ H s → Vals vs us → t vs σ H Q →
    wpAny (model X.prog X.w) X.A (assignInOrder ((assignEach ts X.env).map (·.2)) us) (fun _ s' => ∃ σ' H', Inv X pins σ' H' s' ∧ Q σ' H') X.xe s
/-- o[i] = v, by values -/
abbrev TSet := V → V → V → Hp → (Hp → Prop) → Prop
def PSet (X : Cx) (t : TSet) : Prop :=
  ∀ (pins : List (Addr × Obj)) (s : Shared) (σ : St) (H : Hp) (o i v : V) (ov iv u : Value) (Q : Hp → Prop), Inv X pins σ H s → RelV o ov → RelV i iv → RelV v u → t o i v H Q →
    wpAny (model X.prog X.w) X.A (setItem ov iv u) (fun _ s' => ∃ H', Inv X pins σ H' s' ∧ Q H') X.xe s
/-- a op= b, by values -/
abbrev TIp := V → V → Hp → VK → Prop
section
variable {X : Cx} {pos : Pos}
def gName (i : Nat) : TG := fun v σ H Q => Q (σ.set i (some v)) H
theorem pg_name {i : Nat} {x : Str} (hN : X.N.Nodup) (hi : X.N[i]? = some x) (hx : Loc X.env.scope x) (hf : X.fn x = true ∨ X.env.scope.names.lookup x = some .local := by first | exact .inl rfl | exact .inr rfl | assumption) : PG X (.Name x pos) (gName i) := by
  intro pins s σ H v u Q I r h
  exact wpAny_assign_Name (store_ok I hN hi hx r (fun s' I' => ⟨_, H, I', h⟩) hf)
def gNil : TGs := fun vs σ H Q => vs = [] ∧ Q σ H
def gCons (t : TG) (u : TGs) : TGs := fun vs σ H Q => ∃ v r, vs = v :: r ∧ t v σ H fun σ' H' => u r σ' H' Q
theorem pgs_nil : PGs X [] gNil := by
  intro pins s σ H vs us Q I r h
  obtain ⟨e, h⟩ := h
  subst e
  cases r
  exact assignInOrder_nil ⟨σ, H, I, h⟩
theorem pgs_cons {e : Expr} {es : List Expr} {t : TG} {u : TGs} (h1 : PG X e t) (h2 : PGs X es u)
    (hs : (assignEach (e :: es) X.env).map (·.2) = assign e X.env :: (assignEach es X.env).map (·.2) := by rfl) : PGs X (e :: es) (gCons t u) := by
  intro pins s σ H vs us Q I r h
  obtain ⟨v, vr, e1, h⟩ := h
  subst e1
  cases r with
  | cons r rr =>
    rw [hs]
    refine assignInOrder_cons (thn (h1 pins s σ H _ _ _ I r h) fun _ s1 ⟨σ1, H1, I1, q1⟩ => ?_)
    exact h2 pins s1 σ1 H1 _ _ Q I1 rr q1
/-- (a, b, ..) = a tuple of that length -/
def gTup (K : PySem.W.Frag) (n : Nat) (t : TGs) : TG := fun v σ H Q => ∃ a xs, v = .ref a ∧ SqT K H a xs ∧ xs.length = n ∧ t xs σ H Q
theorem pg_tup {es : List Expr} {k : Nat} {t : TGs} {n : Nat} (hc : X.calm = true) (h : PGs X es t)
    (hn : (assignEach es X.env).length = n := by rfl) (hst : (assignEach es X.env).findIdx? (·.1) = none := by rfl) : PG X (.Tuple es k pos) (gTup X.K n t) := by
  intro pins s σ H v u Q I r hw
  obtain ⟨a, xs, e1, hq, hl, hw⟩ := hw
  subst e1
  cases r
  obtain ⟨its, rv, ht, hz⟩ := I.tuple hq
  refine assign_Tuple_tuple (I.ok.hd hc) ht (by simp [hn, ← hl, rv.length]) hst fun h' hx => ?_
  have I1 : Inv X pins σ H { s with heap := h' } := I.kept (t' := s.toks) fun b o e => hx b o (Nat.ne_of_lt (Heap.lt_size e)) e
  exact h pins _ σ H xs _ Q I1 (by simpa using rv) hw
/-- o[i] = .. -/
def gSub (to ti : TE) (t : TSet) : TG := fun v σ H Q => to σ H fun o H1 => ti σ H1 fun i H2 => t o i v H2 fun H3 => Q σ H3
theorem pg_sub {o i : Expr} {to ti : TE} {t : TSet} (ho : PE X o to) (hi : PE X i ti) (hs : PSet X t)
    (ha : ∀ v, assign (.Subscript o i pos) X.env v = (do
      let ov ← holding [v] (eval o X.env)
      let iv ← holding [v, ov] (eval i X.env)
      standAt pos
      holding [v, ov, iv] (setItem ov iv v)
      release [v, ov, iv] []) := by intro _; rfl) : PG X (.Subscript o i pos) (gSub to ti t) := by
  intro pins s σ H v u Q I r h
  rw [ha]
  refine wpAny_bind (wpAny_holding (thn (ho pins s σ H _ I h) fun ov s1 ⟨x, H1, I1, r1, q1⟩ => ?_))
  refine wpAny_bind (wpAny_holding (thn (hi pins s1 σ H1 _ I1 q1) fun iv s2 ⟨y, H2, I2, r2, q2⟩ => ?_))
  refine wpAny_bind (wpAny_standAt (wpAny_bind (wpAny_holding (thn (hs pins s2 σ H2 x y v ov iv u _ I2 r1 r2 r q2) fun _ s3 ⟨H3, I3, q3⟩ => ?_))))
  exact wpAny_release ⟨σ, H3, I3, q3⟩
/-- target = value -/
def tAsg (te : TE) (g : TG) : TS := fun D σ H => te σ H fun x H1 => g x σ H1 D.nx
theorem ps_asg {tg e : Expr} {te : TE} {g : TG} (he : PE X e te) (hg : PG X tg g) (hs : swapsWithSole [tg] e pos.line X.env = pure false := by rfl) (hw : swappedStores [tg] e X.env = pure none := by rfl)
    (h1 : (assignEach [tg] X.env).map (·.2) = [assign tg X.env] := by rfl) : PS X (.Assign [tg] e pos) (tAsg te g) := by
  intro pins s σ H D I h
  refine wpAny_Assign_stores (thn (he pins s σ H _ I h) fun v s1 ⟨x, H1, I1, r1, q1⟩ => ?_) hs hw
  rw [h1]
  exact thn (hg pins s1 σ H1 x v _ I1 r1 q1) fun _ s2 q => q
/-- name = value -/
theorem ps_set {i : Nat} {x : Str} {e : Expr} {te : TE} {pos' : Pos} (hN : X.N.Nodup) (hi : X.N[i]? = some x) (hx : Loc X.env.scope x) (he : PE X e te) (hs : swapsWith e (some (.Name x pos')) pos.line X.env = pure false := by rfl) (hf : X.fn x = true ∨ X.env.scope.names.lookup x = some .local := by first | exact .inl rfl | exact .inr rfl | assumption) :
    PS X (.Assign [.Name x pos'] e pos) (tAsg te (gName i)) := by
  intro pins s σ H D I h
  refine wpAny_Assign_Name (thn (he pins s σ H _ I h) fun v s1 ⟨y, H1, I1, r1, q1⟩ => ?_) hs
  exact store_ok I1 hN hi hx r1 (fun s2 I2 => ⟨_, H1, I2, q1⟩) hf
/-- a, b = x, y with plain local names: stored from the right; the pair itself is not tracked (the opening rows as in PyProof/Rows/TupAssign.lean:23) -/
def tPar (i j : Nat) (ta : TA) : TS := fun D σ H => ta σ H fun vs H1 => ∃ v w, vs = [v, w] ∧ D.nx ((σ.set i (some v)).set j (some w)) H1
/-- name op= e -/
def tAug (i : Nat) (te : TE) (ti : TIp) : TS := fun D σ H => ∃ x, σ[i]? = some (some x) ∧ te σ H fun y H1 => ti x y H1 fun z H2 => D.nx (σ.set i (some z)) H2
/-- o[i] op= e -/
def tAugS (to ti te : TE) (tget : V → V → Hp → VK → Prop) (tip : TIp) (tset : TSet) : TS := fun D σ H => to σ H fun o H1 => ti σ H1 fun i H2 => tget o i H2 fun x H3 => te σ H3 fun y H4 => tip x y H4 fun z H5 => tset o i z H5 fun H6 => D.nx σ H6
/-- ints -/
def ipI (f : Int → Int → Int) : TIp := fun x y H Q => ∃ i j, x = .int i ∧ y = .int j ∧ Q (.int (f i j)) H
end

/-! ### while -/
section
variable {X : Cx} {pos : Pos}
end

/-! ### what a loop or a comprehension walks -/
/-- at turn i: it yields x (the heap may grow), or it stops -/
structure It where
  go : Nat → Hp → Prop
  yld : Nat → Hp → V → Hp → Prop
  stop : Nat → Hp → Prop
/-- the iterator's own objects may turn: they are not the frame's, not pinned, younger than the entry (or a comprehension's own) -/
def FpOk (X : Cx) (pins : List (Addr × Obj)) (H : Hp) (b : Addr) : Prop :=
  H b = none ∧ b ≠ X.env.locals ∧ b ∉ X.fs ∧ (b ∈ X.ex ∨ X.s_0.heap.objs.size ≤ b) ∧ (∀ x c, X.env.cells.lookup x = some c → c ≠ b) ∧ ∀ p ∈ X.pn ++ pins, p.1 ≠ b
theorem Inv.fpOk {X : Cx} {pins : List (Addr × Obj)} {σ : St} {H H' : Hp} {s : Shared} {b : Addr} (I : Inv X pins σ H s) (hb : s.heap.objs.size ≤ b) (hn : H' b = none) : FpOk X pins H' b := by
  refine ⟨hn, Nat.ne_of_gt (Nat.lt_of_lt_of_le I.lt hb), I.nofs hb, .inr (Nat.le_trans I.sz hb), fun x c e z => ?_, fun p hp z => ?_⟩
  · obtain ⟨v, q⟩ := I.cell x c e
    exact absurd (Nat.lt_of_lt_of_le q.lt (by rw [z]; exact hb)) (Nat.lt_irrefl _)
  · exact absurd (Nat.lt_of_lt_of_le (Heap.lt_size (I.pin p hp).1) (by rw [z]; exact hb)) (Nat.lt_irrefl _)
structure Turn (P : Program) (w : World) (K : PySem.W.Frag) (tg : Expr) (J : It) (fp : List Addr) (it : Addr) (tn : Nat → Heap → Prop) : Prop where
  mem : it ∈ fp
  obj : ∀ i h, tn i h → ∀ b ∈ fp, ∃ o, h.get? b = some o ∧ ∀ v, o.data ≠ .cell v
  keep : ∀ i h h', tn i h → (∀ b ∈ fp, ∀ o, h.get? b = some o → h'.get? b = some o) → tn i h'
  item : ∀ (X : Cx), X.prog = P → X.w = w → X.K = K → X.calm = true → ∀ (i : Nat) (pins : List (Addr × Obj)) (s : Shared) (σ : St) (H : Hp) (E : Value → Shared → Prop), Inv X pins σ H s → (∀ b ∈ fp, FpOk X pins H b) → tn i s.heap → J.go i H →
    wpAny (model P w) X.A (pyNext (.ref it)) (fun r s1 => ∃ u, r = some u ∧
      wpAny (model P w) X.A (letOwnedTupleGo tg (.ref it) u) (fun _ s2 => ∃ x H', Inv X pins σ H' s2 ∧ RelV x u ∧ J.yld i H x H' ∧ tn (i + 1) s2.heap ∧ ∀ b ∈ fp, H' b = none) E s1) E s
  done : ∀ (X : Cx), X.prog = P → X.w = w → X.K = K → X.calm = true → ∀ (i : Nat) (pins : List (Addr × Obj)) (s : Shared) (σ : St) (H : Hp) (E : Value → Shared → Prop), Inv X pins σ H s → (∀ b ∈ fp, FpOk X pins H b) → tn i s.heap → J.stop i H →
    wpAny (model P w) X.A (pyNext (.ref it)) (fun r s1 => r = none ∧ Inv X pins σ H s1) E s
  self : ∀ (A : Around) (i : Nat) (s : Shared) (Q : Value → Shared → Prop) (E : Value → Shared → Prop), tn i s.heap → Q (.ref it) s → wpAny (model P w) A (pyIter (.ref it)) Q E s
abbrev TI := St → Hp → (It → Hp → Prop) → Prop
/-- an iterator has come -/
def PIE (X : Cx) (pins : List (Addr × Obj)) (σ : St) (tg : Expr) (R : It → Hp → Prop) (itv : Value) (s2 : Shared) : Prop :=
  ∃ (it : Addr) (fp : List Addr) (tn : Nat → Heap → Prop) (J : It) (H' : Hp), itv = .ref it ∧ Inv X pins σ H' s2 ∧ Turn X.prog X.w X.K tg J fp it tn ∧ tn 0 s2.heap ∧ (∀ b ∈ fp, FpOk X pins H' b) ∧ R J H'
def PI (X : Cx) (tg iter : Expr) (wi : TI) : Prop :=
  ∀ (pins : List (Addr × Obj)) (s : Shared) (σ : St) (H : Hp) (R : It → Hp → Prop), Inv X pins σ H s → wi σ H R →
    wpAny (model X.prog X.w) X.A (eval iter X.env) (fun v s1 => wpAny (model X.prog X.w) X.A (pyIter v) (PIE X pins σ tg R) X.xe s1) X.xe s

/-- the step ahead of the store is nothing for an iterator that keeps no tuple -/
theorem go_of {M : Model} {A : Around} {E : Value → Shared → Prop} {s : Shared} {tg : Expr} {it : Addr} {u : Value} {o : Obj} {n : String} {vs : Array Value} {Q : Unit → Shared → Prop} (ho : s.heap.get? it = some o) (hc : o.cls = .type n) (hd : o.data = .fields vs)
    (hn : ["enumerate", "zip", "dict_itemiterator", "dict_reverseitemiterator", "odict_iterator", "itertools.zip_longest", "itertools.pairwise"].contains n = false) (hQ : Q () s) : wpAny M A (letOwnedTupleGo tg (.ref it) u) Q E s := by
  unfold letOwnedTupleGo
  cases tg <;> first
    | exact wpAny_pure hQ
    | (cases u <;> first
        | exact wpAny_pure hQ
        | (refine wpAny_bind (wpAny_load ho ?_)
           rw [hc, hd]
           show wpAny M A (if (["enumerate", "zip", "dict_itemiterator", "dict_reverseitemiterator", "odict_iterator", "itertools.zip_longest", "itertools.pairwise"].contains n && vs[0]? == some (rawInt _)) = true then _ else _) Q E s
           rw [if_neg (by intro h; rw [hn, Bool.false_and] at h; cases h)]
           exact wpAny_pure hQ))

/-- the list at a, as it stands at each turn (a loop may append to it) -/
def Itl (K : PySem.W.Frag) (a : Addr) : It :=
  ⟨fun i H => ∃ xs x, SqL K H a xs ∧ xs[i]? = some x, fun i H x H' => H' = H ∧ ∀ xs, SqL K H a xs → xs[i]? = some x, fun i H => ∃ xs, SqL K H a xs ∧ xs.length ≤ i⟩
def Itt (K : PySem.W.Frag) (a : Addr) : It :=
  ⟨fun i H => ∃ xs x, SqT K H a xs ∧ xs[i]? = some x, fun i H x H' => H' = H ∧ ∀ xs, SqT K H a xs → xs[i]? = some x, fun i H => ∃ xs, SqT K H a xs ∧ xs.length ≤ i⟩
/-- lo, lo + 1, .. (n of them) -/
def Itr (lo : Int) (n : Nat) : It := ⟨fun i _ => i < n, fun i H x H' => H' = H ∧ x = .int (lo + i), fun i _ => n ≤ i⟩
theorem turn_list {P : Program} {w : World} {K : PySem.W.Frag} {tg : Expr} (a it : Addr) : Turn P w K tg (Itl K a) [it] it (fun i h => h.IsListIter it a i) where
  mem := by simp
  obj := fun i h st b hb => by
    have e : b = it := by simpa using hb
    subst e
    obtain ⟨o, e, c, d⟩ := st
    exact ⟨o, e, fun v z => by rw [d] at z; cases z⟩
  keep := fun i h h' st k => st.at fun o e => k it (by simp) o e
  item := by
    intro X hP hw hK hc i pins s σ H E I hf st hg
    subst hP hw hK
    obtain ⟨xs, x, hq, hx⟩ := hg
    obtain ⟨its, rv, p, hz⟩ := I.list hq
    obtain ⟨u, hu, ru⟩ := rv.get hx
    obtain ⟨f0, f1, f2, f3, f4, f5⟩ := hf it (by simp)
    refine wpAny_pyNext_list_item st p.isList (x := u) (by simpa using hu) fun h' st' sb => ?_
    have I1 : Inv X pins σ H { s with heap := h' } := I.turned (t' := s.toks) (fun b o hb e => (sb.2 b hb).trans e) f0 f1 f3 f4 f5
    obtain ⟨o, e, c, d⟩ := id st'
    exact ⟨u, rfl, go_of (s := { s with heap := h' }) e c d (by decide) ⟨x, H, I1, ru, ⟨rfl, fun ys hy => by rw [I.list_inj hy hq]; exact hx⟩, st', fun b hb => (hf b hb).1⟩⟩
  done := by
    intro X hP hw hK hc i pins s σ H E I hf st hg
    subst hP hw hK
    obtain ⟨xs, hq, hx⟩ := hg
    obtain ⟨its, rv, p, hz⟩ := I.list hq
    obtain ⟨f0, f1, f2, f3, f4, f5⟩ := hf it (by simp)
    have hl := rv.length
    exact wpAny_pyNext_list_end (I.ok.hd hc) st p.isList (by simp; omega) fun h' eb => ⟨rfl, I.turned (t' := s.toks) (fun b o hb e => eb b o hb e) f0 f1 f3 f4 f5⟩
  self := fun _ _ _ _ _ st h => wpAny_pyIter_listiter st h
theorem turn_range {P : Program} {w : World} {K : PySem.W.Frag} {tg : Expr} (it : Addr) (lo : Int) (n : Nat) : Turn P w K tg (Itr lo n) [it] it (fun i h => IsRangeIter h it (lo + (i : Nat) * 1) ((n : Int) - (i : Nat)) 1) where
  mem := by simp
  obj := fun i h st b hb => by
    have e : b = it := by simpa using hb
    subst e
    exact ⟨_, st, fun v z => by
      have z' : Data.fields _ = Data.cell v := z
      cases z'⟩
  keep := fun i h h' st k => k it (by simp) _ st
  item := by
    intro X hP hw hK hc i pins s σ H E I hf st hg
    subst hP hw hK
    obtain ⟨f0, f1, f2, f3, f4, f5⟩ := hf it (by simp)
    have W := Walks.range (prog := X.prog) (w := X.w) (I.ok.hd hc) it lo 1 n
    refine W.item i s _ _ hg st fun v h' tk hv st' kk => ?_
    obtain ⟨t, rfl⟩ := hv
    have I1 : Inv X pins σ H { s with heap := h', toks := tk } := I.turned (fun b o hb e => kk b o (by simpa using hb) e) f0 f1 f3 f4 f5
    refine ⟨_, rfl, go_of (s := { s with heap := h', toks := tk }) (n := "range_iterator") st' rfl rfl (by decide) ⟨.int (lo + i), H, I1, ⟨t, ?_⟩, ⟨rfl, rfl⟩, st', fun b hb => (hf b hb).1⟩⟩
    rw [Int.mul_one]
  done := by
    intro X hP hw hK hc i pins s σ H E I hf st hg
    subst hP hw hK
    obtain ⟨f0, f1, f2, f3, f4, f5⟩ := hf it (by simp)
    exact wpAny_pyNext_range_end (I.ok.hd hc) st (by have : n ≤ i := hg; omega) fun h' eb => ⟨rfl, I.turned (t' := s.toks) (fun b o hb e => eb b o hb e) f0 f1 f3 f4 f5⟩
  self := fun _ _ _ _ _ st h => wpAny_pyIter_rangeiter st h
end L2

namespace L2
open PySem PySem.Spec PyProof.Rows
section
variable {X : Cx} {tg : Expr}
def iList (K : PySem.W.Frag) (tl : TE) : TI := fun σ H R => tl σ H fun x H1 => ∃ a, x = .ref a ∧ (∃ xs, SqL K H1 a xs) ∧ R (Itl K a) H1
def iTup (K : PySem.W.Frag) (tl : TE) : TI := fun σ H R => tl σ H fun x H1 => ∃ a, x = .ref a ∧ (∃ xs, SqT K H1 a xs) ∧ R (Itt K a) H1
theorem pi_list {l : Expr} {tl : TE} (hl : PE X l tl) : PI X tg l (iList X.K tl) := by
  intro pins s σ H R I h
  refine thn (hl pins s σ H _ I h) fun v s1 ⟨x, H1, I1, r1, q1⟩ => ?_
  obtain ⟨a, e, ⟨xs, hq⟩, q⟩ := q1
  subst e
  cases r1
  obtain ⟨its, rv, p, hz⟩ := I1.list hq
  refine wpAny_pyIter_list p.isList ?_
  refine ⟨s1.heap.objs.size, [s1.heap.objs.size], _, _, H1, rfl, I1.kept (t' := s1.toks) fun b o e => Heap.get?_push_of_some _ e, turn_list a _, ⟨_, Heap.get?_push_size _ rfl, rfl, rfl⟩, fun b hb => ?_, q⟩
  have e : b = s1.heap.objs.size := by simpa using hb
  subst e
  exact I1.fpOk (Nat.le_refl _) (I1.hok.fresh (Nat.le_refl _))
/-- a range object just made, walked -/
theorem range_it {pins : List (Addr × Obj)} {σ : St} {H : Hp} {s : Shared} {R : It → Hp → Prop} {E : Value → Shared → Prop} {lo hi : Int} {t u v : Tok} {tk : Nat} (I : Inv X pins σ H s) (h1 : -(2 ^ 62) ≤ lo) (h2 : lo < 2 ^ 62) (h3 : -(2 ^ 62) ≤ hi) (h4 : hi < 2 ^ 62)
    (q : R (Itr lo (hi - lo).toNat) H) : wpAny (model X.prog X.w) X.A (pyIter (.ref s.heap.objs.size)) (PIE X pins σ tg R) E { s with heap := s.heap.push { cls := .type "range", data := .fields #[.int lo t, .int hi u, .int 1 v] }, toks := tk } := by
  refine wpAny_pyIter_range (IsRange.new ..) (small_one h1 h2 h3 h4) ?_
  have I1 : Inv X pins σ H { s with heap := s.heap.push { cls := .type "range", data := .fields #[.int lo t, .int hi u, .int 1 v] }, toks := tk } := I.kept fun b o e => Heap.get?_push_of_some _ e
  refine ⟨(s.heap.push { cls := .type "range", data := .fields #[.int lo t, .int hi u, .int 1 v] }).objs.size, [(s.heap.push { cls := .type "range", data := .fields #[.int lo t, .int hi u, .int 1 v] }).objs.size], _, _, H, rfl,
    I1.kept (t' := tk) fun b o e => Heap.get?_push_of_some _ e, turn_range _ lo (hi - lo).toNat, ?_, fun b hb => ?_, q⟩
  · have e1 : lo + ((0 : Nat) : Int) * 1 = lo := by simp
    have e2 : (((hi - lo).toNat : Nat) : Int) - ((0 : Nat) : Int) = Builtin.Range.rangeSize lo hi 1 := by rw [rangeSize_one]; split <;> omega
    show IsRangeIter _ _ (lo + ((0 : Nat) : Int) * 1) ((((hi - lo).toNat : Nat) : Int) - ((0 : Nat) : Int)) 1
    rw [e1, e2]
    exact Heap.get?_push_size _ rfl
  · have e : b = (s.heap.push { cls := .type "range", data := .fields #[.int lo t, .int hi u, .int 1 v] }).objs.size := by simpa using hb
    subst e
    exact I1.fpOk (Nat.le_refl _) (I1.hok.fresh (Nat.le_refl _))
def iRng1 (ta : TA) : TI := fun σ H R => ta σ H fun vs H1 => ∃ j : Int, vs = [.int j] ∧ -(2 ^ 62) ≤ j ∧ j < 2 ^ 62 ∧ R (Itr 0 j.toNat) H1
def iRng2 (ta : TA) : TI := fun σ H R => ta σ H fun vs H1 => ∃ i j : Int, vs = [.int i, .int j] ∧ (-(2 ^ 62) ≤ i ∧ i < 2 ^ 62 ∧ -(2 ^ 62) ≤ j ∧ j < 2 ^ 62) ∧ R (Itr i (j - i).toNat) H1
theorem pi_range1 {a : Expr} {ta : TA} {p pos : Pos} (hg : Gl X "range") (hm : X.mg "range" = none) (ha : PA X [a] ta) (hs : starEach [a] X.env = [(false, eval a X.env)] := by rfl) : PI X tg (.Call (.Name "range" p) [a] [] pos) (iRng1 ta) := by
  intro pins s σ H R I h
  refine Call_ (ld_blt I hg hm boot_range (PyProof.Rows.callWith_type1 (thn (ha pos pins s σ H _ I h) fun us s1 ⟨vs, H1, I1, r1, q1⟩ => ?_) hs rfl))
  obtain ⟨j, e, q1, q2, q⟩ := q1
  subst e
  cases r1 with
  | cons r rr =>
    cases rr
    obtain ⟨t, rfl⟩ := r
    exact call_range_1 (range_it I1 (by omega) (by omega) q1 q2 (by simpa using q))

/-! ### for -/
/-- W: the invariant by the turn and a measure; N: what the body is to reach -/
def tFor (wi : TI) (g : TG) (tb : TS) : TS := fun D σ H => wi σ H fun J H1 => ∃ W : Nat → Nat → St → Hp → Prop, (∃ m, W 0 m σ H1) ∧ ∀ i m σ H, W i m σ H →
  (J.stop i H ∧ D.nx σ H) ∨ (J.go i H ∧ ∃ N : St → Hp → Prop, (∀ σ' H', N σ' H' → ∃ m', m' < m ∧ W (i + 1) m' σ' H') ∧ ∀ x H', J.yld i H x H' → g x σ H' fun σ2 H2 => tb { D with nx := N, ct := N, bk := D.nx } σ2 H2)
/-- the records at fp as they stand -/
def pinsAt (fp : List Addr) (h : Heap) : List (Addr × Obj) := fp.filterMap fun b => (h.get? b).map fun o => (b, o)
theorem mem_pinsAt {fp : List Addr} {h : Heap} {b : Addr} {o : Obj} (hb : b ∈ fp) (e : h.get? b = some o) : (b, o) ∈ pinsAt fp h := List.mem_filterMap.mpr ⟨b, hb, by rw [e]; rfl⟩
theorem of_pinsAt {fp : List Addr} {h : Heap} {p : Addr × Obj} (hp : p ∈ pinsAt fp h) : p.1 ∈ fp ∧ h.get? p.1 = some p.2 := by
  obtain ⟨b, hb, e⟩ := List.mem_filterMap.mp hp
  cases q : h.get? b with
  | none => rw [q] at e; cases e
  | some o =>
    rw [q] at e
    have e' : (b, o) = p := Option.some.inj e
    subst e'
    exact ⟨hb, q⟩
theorem Inv.pinned {pins : List (Addr × Obj)} {σ : St} {H : Hp} {s : Shared} {fp : List Addr} (I : Inv X pins σ H s) (hf : ∀ b ∈ fp, FpOk X pins H b) (ho : ∀ b ∈ fp, ∃ o, s.heap.get? b = some o ∧ ∀ v, o.data ≠ .cell v) : Inv X (pins ++ pinsAt fp s.heap) σ H s :=
  I.pins_of fun p hp => (List.mem_append.mp hp).elim (fun z => I.pin p (List.mem_append_right _ z)) fun z => by
    obtain ⟨hb, e⟩ := of_pinsAt z
    obtain ⟨f0, f1, f2, _⟩ := hf p.1 hb
    obtain ⟨o, e', d⟩ := ho p.1 hb
    rw [e] at e'; cases e'
    exact ⟨e, f0, f1, f2, d⟩
theorem Inv.unpinned {pins pl : List (Addr × Obj)} {σ : St} {H : Hp} {s : Shared} (I : Inv X (pins ++ pl) σ H s) : Inv X pins σ H s := I.pins_of fun p hp => I.pin p (List.mem_append_right _ (List.mem_append_left _ hp))
theorem ps_for {iter : Expr} {body : List Stmt} {wi : TI} {g : TG} {tb : TS} {pos : Pos} (hp : PassesOwn (model X.prog X.w) X.A X.env X.xe) (hc : X.calm = true) (hi : PI X tg iter wi) (hg : PG X tg g) (hb : PSs X body tb)
    (hs : ∀ x, foldedSetIterable iter X.env x = pure x := by intro _; rfl) : PS X (.For tg iter body [] pos) (tFor wi g tb) := by
  intro pins s σ H D I h
  refine wpAny_For (thn (hi pins s σ H _ I h) fun v s1 h1 => thn h1 fun itv s2 h2 => ?_) hs
  obtain ⟨it, fp, tn, J, H2, e, I2, T, st2, f2, W, ⟨m0, w0⟩, turn⟩ := h2
  subst e
  -- what stays true of the iterator's objects through the loop
  have stat : ∀ {H' : Hp}, (∀ b ∈ fp, H' b = none) → ∀ b ∈ fp, FpOk X pins H' b := fun hn b hb => ⟨hn b hb, (f2 b hb).2⟩
  refine codeAny_forLoop_any (fun n s' => ∃ i σ' H', Inv X pins σ' H' s' ∧ tn i s'.heap ∧ (∀ b ∈ fp, H' b = none) ∧ W i n σ' H') ?_ m0 ⟨0, σ, H2, I2, st2, fun b hb => (f2 b hb).1, w0⟩
  rintro n s3 ⟨i, σ3, H3, I3, st3, fr3, w3⟩
  rcases turn i n σ3 H3 w3 with ⟨stop, qn⟩ | ⟨go, N, hN, step⟩
  · refine wpAny_passesOwn hp (thn (T.done X rfl rfl rfl hc i pins s3 σ3 H3 X.xe I3 (stat fr3) st3 stop) fun r s4 ⟨hr, I4⟩ => ?_)
    subst hr
    exact wpAny_execs_nil ⟨σ3, H3, I4, qn⟩
  · refine wpAny_passesOwn hp (thn (T.item X rfl rfl rfl hc i pins s3 σ3 H3 X.xe I3 (stat fr3) st3 go) fun r s4 ⟨u, hr, h4⟩ => ?_)
    subst hr
    refine wpAny_passesOwn hp (thn h4 fun _ s5 ⟨x, H5, I5, r5, y5, st5, fr5⟩ => ?_)
    have I5' := I5.pinned (stat fr5) (T.obj _ _ st5)
    refine wpAny_passesOwn hp (thn (hg _ s5 σ3 H5 x u _ I5' r5 (step x H5 y5)) fun _ s6 ⟨σ6, H6, I6, q6⟩ => ?_)
    refine wpAny_passesOwn hp (thn (hb _ s6 σ6 H6 _ I6 q6) fun f s7 q7 => ?_)
    have again : ∀ {σ7 : St} {H7 : Hp}, Inv X (pins ++ pinsAt fp s5.heap) σ7 H7 s7 → N σ7 H7 → ∃ m, m < n ∧ ∃ i σ' H', Inv X pins σ' H' s7 ∧ tn i s7.heap ∧ (∀ b ∈ fp, H' b = none) ∧ W i m σ' H' := fun {σ7 H7} I7 n7 => by
      obtain ⟨m', hm, w7⟩ := hN σ7 H7 n7
      refine ⟨m', hm, i + 1, σ7, H7, I7.unpinned, T.keep _ _ _ st5 fun b hb o e => (I7.pin (b, o) (List.mem_append_right _ (List.mem_append_right _ (mem_pinsAt hb e)))).1, fun b hb => ?_, w7⟩
      obtain ⟨o, e, d⟩ := T.obj _ _ st5 b hb
      exact (I7.pin (b, o) (List.mem_append_right _ (List.mem_append_right _ (mem_pinsAt hb e)))).2.1
    cases f with
    | next => obtain ⟨σ7, H7, I7, n7⟩ := q7; exact again I7 n7
    | cont => obtain ⟨σ7, H7, I7, n7⟩ := q7; exact again I7 n7
    | brk => obtain ⟨σ7, H7, I7, q7⟩ := q7; exact ⟨σ7, H7, I7.unpinned, q7⟩
    | ret v => obtain ⟨x7, σ7, H7, I7, r7, q7⟩ := q7; exact ⟨x7, σ7, H7, I7.unpinned, r7, q7⟩
end

/-! ### the forms one uses -/
/-- over a list that the body leaves as it is -/
theorem for_list {K : PySem.W.Frag} {a : Addr} {xs : List V} {g : TG} {tb : TS} {D : Ends} {σ : St} {H : Hp} (Pv : Nat → St → Hp → Prop) (h0 : Pv 0 σ H) (hl : ∀ i σ H, i ≤ xs.length → Pv i σ H → SqL K H a xs)
    (hs : ∀ i x σ H, xs[i]? = some x → Pv i σ H → g x σ H fun σ2 H2 => tb { D with nx := Pv (i + 1), ct := Pv (i + 1), bk := D.nx } σ2 H2) (hd : ∀ σ H, Pv xs.length σ H → D.nx σ H) :
    ∃ W : Nat → Nat → St → Hp → Prop, (∃ m, W 0 m σ H) ∧ ∀ i m σ H, W i m σ H →
      ((Itl K a).stop i H ∧ D.nx σ H) ∨ ((Itl K a).go i H ∧ ∃ N : St → Hp → Prop, (∀ σ' H', N σ' H' → ∃ m', m' < m ∧ W (i + 1) m' σ' H') ∧ ∀ x H', (Itl K a).yld i H x H' → g x σ H' fun σ2 H2 => tb { D with nx := N, ct := N, bk := D.nx } σ2 H2) := by
  refine ⟨fun i m σ H => m = xs.length - i ∧ i ≤ xs.length ∧ Pv i σ H, ⟨xs.length, by simp, Nat.zero_le _, h0⟩, ?_⟩
  rintro i m σ H ⟨rfl, hi, p⟩
  have q := hl i σ H hi p
  by_cases hlt : i < xs.length
  · refine .inr ⟨⟨xs, xs[i], q, by simp [hlt]⟩, Pv (i + 1), fun σ' H' p' => ⟨xs.length - (i + 1), by omega, rfl, hlt, p'⟩, fun x H' y => ?_⟩
    obtain ⟨e, y⟩ := y
    subst e
    exact hs i x σ _ (y xs q) p
  · have e : i = xs.length := by omega
    subst e
    exact .inl ⟨⟨xs, q, Nat.le_refl _⟩, hd σ H p⟩
theorem for_range {lo : Int} {n : Nat} {g : TG} {tb : TS} {D : Ends} {σ : St} {H : Hp} (Pv : Nat → St → Hp → Prop) (h0 : Pv 0 σ H)
    (hs : ∀ i σ H, i < n → Pv i σ H → g (.int (lo + i)) σ H fun σ2 H2 => tb { D with nx := Pv (i + 1), ct := Pv (i + 1), bk := D.nx } σ2 H2) (hd : ∀ σ H, Pv n σ H → D.nx σ H) :
    ∃ W : Nat → Nat → St → Hp → Prop, (∃ m, W 0 m σ H) ∧ ∀ i m σ H, W i m σ H →
      ((Itr lo n).stop i H ∧ D.nx σ H) ∨ ((Itr lo n).go i H ∧ ∃ N : St → Hp → Prop, (∀ σ' H', N σ' H' → ∃ m', m' < m ∧ W (i + 1) m' σ' H') ∧ ∀ x H', (Itr lo n).yld i H x H' → g x σ H' fun σ2 H2 => tb { D with nx := N, ct := N, bk := D.nx } σ2 H2) := by
  refine ⟨fun i m σ H => m = n - i ∧ i ≤ n ∧ Pv i σ H, ⟨n, by simp, Nat.zero_le _, h0⟩, ?_⟩
  rintro i m σ H ⟨rfl, hi, p⟩
  by_cases hlt : i < n
  · refine .inr ⟨hlt, Pv (i + 1), fun σ' H' p' => ⟨n - (i + 1), by omega, rfl, hlt, p'⟩, fun x H' y => ?_⟩
    obtain ⟨e, y⟩ := y
    subst e y
    exact hs i σ _ hlt p
  · have e : i = n := by omega
    subst e
    exact .inl ⟨Nat.le_refl _, hd σ H p⟩
end L2

namespace L2
open PySem PySem.Spec PyProof.Rows

abbrev R2 := V → V → Hp → VK → Prop
/-- a two-place operation on values: f is binaryOp op, inplaceOp op or compareOp op -/
def OpR (X : Cx) (f : Value → Value → Sem Value) (r : R2) : Prop :=
  ∀ (pins : List (Addr × Obj)) (s : Shared) (σ : St) (H : Hp) (x y : V) (v u : Value) (Q : VK), Inv X pins σ H s → RelV x v → RelV y u → r x y H Q →
    wpAny (model X.prog X.w) X.A (f v u) (EP X pins σ Q) X.xe s
/-- a call of a value that is known (a builtin, a type) with values -/
def CallR (X : Cx) (f : Value) (r : List V → Hp → VK → Prop) : Prop :=
  ∀ (pins : List (Addr × Obj)) (s : Shared) (σ : St) (H : Hp) (xs : List V) (us : List Value) (Q : VK), Inv X pins σ H s → Vals xs us → r xs H Q →
    wpAny (model X.prog X.w) X.A (call f us) (EP X pins σ Q) X.xe s

def tOp (r : R2) (ta tb : TE) : TE := fun σ H Q => ta σ H fun x H1 => tb σ H1 fun y H2 => r x y H2 Q
def tUn (r : V → Hp → VK → Prop) (ta : TE) : TE := fun σ H Q => ta σ H fun x H1 => r x H1 Q
/-- ints in, under C, and a value out -/
def rI (C : Int → Int → Prop) (g : Int → Int → V) : R2 := fun x y H Q => ∃ i j, x = .int i ∧ y = .int j ∧ C i j ∧ Q (g i j) H
def rI0 (g : Int → Int → V) : R2 := fun x y H Q => ∃ i j, x = .int i ∧ y = .int j ∧ Q (g i j) H
def rU (g : Int → V) : V → Hp → VK → Prop := fun x H Q => ∃ i, x = .int i ∧ Q (g i) H

section
variable {X : Cx} {a b c : Expr} {ta tb tc : TE} {pos : Pos}

theorem binT (ha : PE X a ta) (hb : PE X b tb) {pins : List (Addr × Obj)} {s : Shared} {σ : St} {H : Hp} {R : V → V → Hp → Prop} (I : Inv X pins σ H s)
    (h : ta σ H fun x H1 => tb σ H1 fun y H2 => R x y H2) {Q : Value → Shared → Prop} {f : Value → Value → Sem Value}
    (hf : ∀ v u s2 x y H2, Inv X pins σ H2 s2 → RelV x v → RelV y u → R x y H2 → wpAny (model X.prog X.w) X.A (f v u) Q X.xe s2) :
    wpAny (model X.prog X.w) X.A (eval a X.env) (fun v s₁ => wpAny (model X.prog X.w) X.A (eval b X.env) (fun u s₂ => wpAny (model X.prog X.w) X.A (f v u) Q X.xe s₂) X.xe s₁) X.xe s := by
  refine thn (ha pins s σ H _ I h) fun v s1 ⟨x, H1, I1, r1, q1⟩ => ?_
  refine thn (hb pins s1 σ H1 _ I1 q1) fun u s2 ⟨y, H2, I2, r2, q2⟩ => ?_
  exact hf v u s2 x y H2 I2 r1 r2 q2

theorem pe_op {op : Operator} {r : R2} (ho : OpR X (binaryOp op) r) (ha : PE X a ta) (hb : PE X b tb) : PE X (.BinOp a op b pos) (tOp r ta tb) := by
  intro pins s σ H Q I h
  exact wpAny_BinOp (binT ha hb I h fun v u s2 x y H2 I2 rx ry q => ho pins s2 σ H2 x y v u Q I2 rx ry q)

/-! ### ints -/
theorem opI {f : Value → Value → Sem Value} {C : Int → Int → Prop} {g : Int → Int → Int}
    (rule : ∀ (i j : Int) (t u : Tok) (s : Shared) (Q : Value → Shared → Prop) (E : Value → Shared → Prop), C i j → Q (.int (g i j) s.toks) { s with toks := s.toks + 1 } → wpAny (model X.prog X.w) X.A (f (.int i t) (.int j u)) Q E s) :
    OpR X f (rI C fun i j => .int (g i j)) := by
  intro pins s σ H x y v u Q I rx ry h
  obtain ⟨i, j, rfl, rfl, hc, q⟩ := h
  obtain ⟨t, rfl⟩ := rx
  obtain ⟨t', rfl⟩ := ry
  exact rule i j t t' s _ _ hc ⟨.int (g i j), H, I.tok _, ⟨_, rfl⟩, q⟩
theorem opI0 {f : Value → Value → Sem Value} {g : Int → Int → Int}
    (rule : ∀ (i j : Int) (t u : Tok) (s : Shared) (Q : Value → Shared → Prop) (E : Value → Shared → Prop), Q (.int (g i j) s.toks) { s with toks := s.toks + 1 } → wpAny (model X.prog X.w) X.A (f (.int i t) (.int j u)) Q E s) :
    OpR X f (rI0 fun i j => .int (g i j)) := by
  intro pins s σ H x y v u Q I rx ry h
  obtain ⟨i, j, rfl, rfl, q⟩ := h
  obtain ⟨t, rfl⟩ := rx
  obtain ⟨t', rfl⟩ := ry
  exact rule i j t t' s _ _ ⟨.int (g i j), H, I.tok _, ⟨_, rfl⟩, q⟩
theorem opB0 {f : Value → Value → Sem Value} {g : Int → Int → Bool}
    (rule : ∀ (i j : Int) (t u : Tok) (s : Shared) (Q : Value → Shared → Prop) (E : Value → Shared → Prop), Q (.bool (g i j)) s → wpAny (model X.prog X.w) X.A (f (.int i t) (.int j u)) Q E s) :
    OpR X f (rI0 fun i j => .bl (g i j)) := by
  intro pins s σ H x y v u Q I rx ry h
  obtain ⟨i, j, rfl, rfl, q⟩ := h
  obtain ⟨t, rfl⟩ := rx
  obtain ⟨t', rfl⟩ := ry
  exact rule i j t t' s _ _ ⟨.bl (g i j), H, I, rfl, q⟩

def CPow (i j : Int) : Prop := 0 ≤ j ∧ j ≤ 1000000 ∧ i.natAbs < 2 ^ 64
def CMul (i j : Int) : Prop := (-(2 ^ 64) < i ∧ i < 2 ^ 64) ∨ (-(2 ^ 64) < j ∧ j < 2 ^ 64)
theorem CMul.ok {i j : Int} (h : CMul i j) : IntMulOk i j := by
  rcases h with ⟨h1, h2⟩ | ⟨h1, h2⟩
  · exact .of_left (intBits_le_64 h1 h2)
  · exact .of_right (intBits_le_64 h1 h2)

theorem op_add : OpR X (binaryOp .Add) (rI0 fun i j => .int (i + j)) := opI0 fun _ _ _ _ _ _ _ q => add_int q
theorem op_sub : OpR X (binaryOp .Sub) (rI0 fun i j => .int (i - j)) := opI0 fun _ _ _ _ _ _ _ q => sub_int q
/-- % by a positive divisor of any size -/
theorem op_mod : OpR X (binaryOp .Mod) (rI (fun _ j => 0 < j) fun i j => .int (i % j)) := opI fun i j _ _ _ _ _ hc q => by
  have h1 : (0 : Int) < j := hc
  exact mod_int' (by omega) (by rw [Int.fmod_eq_emod_of_nonneg i (by omega)]; exact q)
theorem op_pow : OpR X (binaryOp .Pow) (rI CPow fun i j => .int (i ^ j.toNat)) := opI fun _ _ _ _ _ _ _ hc q => pow_int_small hc.1 hc.2.1 hc.2.2 q



/-! ### bools among ints: n += (a < b) -/
end

/-! ### comparisons -/
/-- the scalars that == tells apart as data does -/
def scal : V → V → Bool
  | .non, .non => true | .non, .int _ => true | .int _, .non => true | .non, .bl _ => true | .bl _, .non => true | .non, .str _ => true | .str _, .non => true
  | .int _, .int _ => true | .bl _, .bl _ => true | .str _, .str _ => true | .byt _, .byt _ => true
  | .int _, .str _ => true | .str _, .int _ => true | .bl _, .str _ => true | .str _, .bl _ => true
  | _, _ => false
def rEq : R2 := fun x y H Q => scal x y = true ∧ Q (.bl (decide (x = y))) H
def rNe : R2 := fun x y H Q => scal x y = true ∧ Q (.bl (!decide (x = y))) H

theorem dec_int {i j : Int} : decide (V.int i = V.int j) = (i == j) := by
  rw [Bool.eq_iff_iff]
  simp
theorem dec_bl {i j : Bool} : decide (V.bl i = V.bl j) = (i == j) := by
  rw [Bool.eq_iff_iff]
  simp
theorem dec_str {i j : Str} : decide (V.str i = V.str j) = (i == j) := by
  rw [Bool.eq_iff_iff]
  simp
theorem dec_byt {i j : Array UInt8} : decide (V.byt i = V.byt j) = (i.toList == j.toList) := by
  rw [Bool.eq_iff_iff]
  cases i
  cases j
  simp

section
variable {X : Cx} {a b c : Expr} {ta tb tc : TE} {pos : Pos}
theorem fin_bl {pins : List (Addr × Obj)} {σ : St} {H : Hp} {s : Shared} {Q : VK} {k k' : Bool} (I : Inv X pins σ H s) (q : Q (.bl k) H) (e : k = k') : EP X pins σ Q (.bool k') s := by
  subst e
  exact ⟨.bl k, H, I, rfl, q⟩
theorem op_eq : OpR X (compareOp .Eq) rEq := by
  intro pins s σ H x y v u Q I rx ry h
  obtain ⟨hs, q⟩ := h
  cases x with
  | non =>
    cases rx
    cases y with
    | non => cases ry; exact PySem.EqNone.eq_none_none (fin_bl I q (by simp))
    | bl j => cases ry; exact PySem.EqNone.eq_none_bool (fin_bl I q (by simp))
    | int j => obtain ⟨t', rfl⟩ := ry; exact PySem.EqNone.eq_none_int (fin_bl I q (by simp))
    | str j => obtain ⟨t', rfl⟩ := ry; exact PySem.EqNone.eq_none_str (fin_bl I q (by simp))
    | _ => exact absurd (show false = true from hs) Bool.false_ne_true
  | bl i =>
    cases rx
    cases y with
    | non => cases ry; exact PySem.EqNone.eq_bool_none (fin_bl I q (by simp))
    | bl j => cases ry; exact eq_bool (fin_bl I q dec_bl)
    | str j => obtain ⟨t', rfl⟩ := ry; exact PySem.EqMixed.eq_bool_str (fin_bl I q (by simp))
    | _ => exact absurd (show false = true from hs) Bool.false_ne_true
  | int i =>
    obtain ⟨t, rfl⟩ := rx
    cases y with
    | non => cases ry; exact PySem.EqNone.eq_int_none (fin_bl I q (by simp))
    | int j => obtain ⟨t', rfl⟩ := ry; exact eq_int (fin_bl I q dec_int)
    | str j => obtain ⟨t', rfl⟩ := ry; exact PySem.EqMixed.eq_int_str (fin_bl I q (by simp))
    | _ => exact absurd (show false = true from hs) Bool.false_ne_true
  | str i =>
    obtain ⟨t, rfl⟩ := rx
    cases y with
    | non => cases ry; exact PySem.EqNone.eq_str_none (fin_bl I q (by simp))
    | bl j => cases ry; exact PySem.EqMixed.eq_str_bool (fin_bl I q (by simp))
    | int j => obtain ⟨t', rfl⟩ := ry; exact PySem.EqMixed.eq_str_int (fin_bl I q (by simp))
    | str j => obtain ⟨t', rfl⟩ := ry; exact eq_str (fin_bl I q dec_str)
    | _ => exact absurd (show false = true from hs) Bool.false_ne_true
  | byt i =>
    obtain ⟨t, rfl⟩ := rx
    cases y with
    | byt j => obtain ⟨t', rfl⟩ := ry; exact PySem.W.eq_bytes (fin_bl I q dec_byt)
    | _ => exact absurd (show false = true from hs) Bool.false_ne_true
  | _ => cases y <;> exact absurd (show false = true from hs) Bool.false_ne_true
theorem op_ne : OpR X (compareOp .NotEq) rNe := by
  intro pins s σ H x y v u Q I rx ry h
  obtain ⟨hs, q⟩ := h
  cases x with
  | non =>
    cases rx
    cases y with
    | non => cases ry; exact PySem.EqNone.ne_none_none (fin_bl I q (by simp))
    | bl j => cases ry; exact PySem.EqNone.ne_none_bool (fin_bl I q (by simp))
    | int j => obtain ⟨t', rfl⟩ := ry; exact PySem.EqNone.ne_none_int (fin_bl I q (by simp))
    | str j => obtain ⟨t', rfl⟩ := ry; exact PySem.EqNone.ne_none_str (fin_bl I q (by simp))
    | _ => exact absurd (show false = true from hs) Bool.false_ne_true
  | bl i =>
    cases rx
    cases y with
    | non => cases ry; exact PySem.EqNone.ne_bool_none (fin_bl I q (by simp))
    | bl j => cases ry; exact ne_bool (fin_bl I q (congrArg not dec_bl))
    | str j => obtain ⟨t', rfl⟩ := ry; exact PySem.EqMixed.ne_bool_str (fin_bl I q (by simp))
    | _ => exact absurd (show false = true from hs) Bool.false_ne_true
  | int i =>
    obtain ⟨t, rfl⟩ := rx
    cases y with
    | non => cases ry; exact PySem.EqNone.ne_int_none (fin_bl I q (by simp))
    | int j => obtain ⟨t', rfl⟩ := ry; exact ne_int (fin_bl I q (congrArg not dec_int))
    | str j => obtain ⟨t', rfl⟩ := ry; exact PySem.EqMixed.ne_int_str (fin_bl I q (by simp))
    | _ => exact absurd (show false = true from hs) Bool.false_ne_true
  | str i =>
    obtain ⟨t, rfl⟩ := rx
    cases y with
    | non => cases ry; exact PySem.EqNone.ne_str_none (fin_bl I q (by simp))
    | bl j => cases ry; exact PySem.EqMixed.ne_str_bool (fin_bl I q (by simp))
    | int j => obtain ⟨t', rfl⟩ := ry; exact PySem.EqMixed.ne_str_int (fin_bl I q (by simp))
    | str j => obtain ⟨t', rfl⟩ := ry; exact ne_str (fin_bl I q (congrArg not dec_str))
    | _ => exact absurd (show false = true from hs) Bool.false_ne_true
  | byt i =>
    obtain ⟨t, rfl⟩ := rx
    cases y with
    | byt j => obtain ⟨t', rfl⟩ := ry; exact PySem.W.ne_bytes (fin_bl I q (congrArg not dec_byt))
    | _ => exact absurd (show false = true from hs) Bool.false_ne_true
  | _ => cases y <;> exact absurd (show false = true from hs) Bool.false_ne_true

theorem op_lt : OpR X (compareOp .Lt) (rI0 fun i j => .bl (decide (i < j))) := opB0 fun _ _ _ _ _ _ _ q => lt_int q
theorem op_le : OpR X (compareOp .LtE) (rI0 fun i j => .bl (decide (i ≤ j))) := opB0 fun _ _ _ _ _ _ _ q => le_int q
theorem op_gt : OpR X (compareOp .Gt) (rI0 fun i j => .bl (decide (j < i))) := opB0 fun _ _ _ _ _ _ _ q => gt_int q
theorem op_ge : OpR X (compareOp .GtE) (rI0 fun i j => .bl (decide (j ≤ i))) := opB0 fun _ _ _ _ _ _ _ q => ge_int q

/-- is None, is not None: the right side a value none -/
theorem op_isN : OpR X (compareOp .Is) (fun x y H Q => y = .non ∧ Q (.bl (decide (x = .non))) H) := by
  intro pins s σ H x y v u Q I rx ry h
  obtain ⟨rfl, q⟩ := h
  cases ry
  refine is_none_gen (fin_bl I q ?_)
  cases x <;> first
    | (cases rx; rfl)
    | (obtain ⟨t, rfl⟩ := rx; rfl)


/-- two rules for one operation: by cases -/
theorem OpR.or {f : Value → Value → Sem Value} {r r' : R2} (h : OpR X f r) (h' : OpR X f r') : OpR X f (fun x y H Q => r x y H Q ∨ r' x y H Q) := by
  intro pins s σ H x y v u Q I rx ry q
  rcases q with q | q
  · exact h pins s σ H x y v u Q I rx ry q
  · exact h' pins s σ H x y v u Q I rx ry q

theorem nomark (b : Expr) {op : CmpOp} (h : op ≠ .In := by decide) (h2 : op ≠ .NotIn := by decide) : behindInMarks op b = false := by
  have e1 : (op == CmpOp.In) = false := by cases op <;> first | rfl | exact absurd rfl h
  have e2 : (op == CmpOp.NotIn) = false := by cases op <;> first | rfl | exact absurd rfl h2
  cases b <;> simp [behindInMarks, e1, e2]
/-- a comparison as a value; hm: nomark b, or (for in, not in) by with_unfolding_all rfl -/
theorem pe_cmpR {op : CmpOp} {r : R2} (ho : OpR X (compareOp op) r) (ha : PE X a ta) (hb : PE X b tb) (hm : behindInMarks op b = false) : PE X (.Compare a [op] [b] pos) (tOp r ta tb) := by
  intro pins s σ H Q I h
  exact wpAny_Compare1 (binT ha hb I h fun v u s2 x y H2 I2 rx ry q => ho pins s2 σ H2 x y v u Q I2 rx ry q) hm
/-- a reading of a value as a test -/
def tTest (t : TE) : TT := fun σ H Q => t σ H fun x H' => ∃ k, x = .bl k ∧ Q k H'
theorem pt_cmpR {op : CmpOp} {r : R2} (ho : OpR X (compareOp op) r) (ha : PE X a ta) (hb : PE X b tb) (hm : behindInMarks op b = false) : PT X (.Compare a [op] [b] pos) (tTest (tOp r ta tb)) := by
  intro pins s σ H Q I h
  refine wpAny_isTrue_Compare1 (thn (ha pins s σ H _ I h) fun v s1 ⟨x, H1, I1, r1, q1⟩ => thn (hb pins s1 σ H1 _ I1 q1) fun u s2 ⟨y, H2, I2, r2, q2⟩ =>
    thn (ho pins s2 σ H2 x y v u _ I2 r1 r2 q2) fun c s3 ⟨z, H3, I3, r3, k, e, q3⟩ => ?_) hm
  subst e
  cases r3
  exact wpAny_truthy_bool ⟨H3, I3, q3⟩
/-- a op1 b op2 c -/
def tChain (r r' : R2) (ta tb tc : TE) : TE := fun σ H Q => ta σ H fun x H1 => tb σ H1 fun y H2 => r x y H2 fun z H3 => ∃ k, z = .bl k ∧
  (if k = true then tc σ H3 fun w' H4 => r' y w' H4 Q else Q (.bl false) H3)
theorem pe_chain {op op' : CmpOp} {r r' : R2} (ho : OpR X (compareOp op) r) (ho' : OpR X (compareOp op') r') (ha : PE X a ta) (hb : PE X b tb) (hc : PE X c tc)
    (hm : lastMarks [op, op'] [b, c] = false := by with_unfolding_all rfl) : PE X (.Compare a [op, op'] [b, c] pos) (tChain r r' ta tb tc) := by
  intro pins s σ H Q I h
  refine Compare_chain (thn (ha pins s σ H _ I h) fun v s1 ⟨x, H1, I1, r1, q1⟩ => chain_link (thn (hb pins s1 σ H1 _ I1 q1) fun u s2 ⟨y, H2, I2, r2, q2⟩ =>
    thn (ho pins s2 σ H2 x y v u _ I2 r1 r2 q2) fun d s3 ⟨z, H3, I3, r3, k, e, q3⟩ => ?_)) hm
  subst e
  cases r3
  refine wpAny_truthy_bool ?_
  cases k with
  | false => exact ite_ff ⟨.bl false, H3, I3, rfl, q3⟩
  | true => exact ite_tt (chain_last (thn (hc pins s3 σ H3 _ I3 q3) fun w' s4 ⟨z', H4, I4, r4, q4⟩ => ho' pins s4 σ H4 y z' u w' Q I4 r2 r4 q4))
theorem pt_chain {op op' : CmpOp} {r r' : R2} (ho : OpR X (compareOp op) r) (ho' : OpR X (compareOp op') r') (ha : PE X a ta) (hb : PE X b tb) (hc : PE X c tc)
    (hm : lastMarks [op, op'] [b, c] = false := by with_unfolding_all rfl) : PT X (.Compare a [op, op'] [b, c] pos) (tTest (tChain r r' ta tb tc)) := by
  intro pins s σ H Q I h
  refine isTrue_chain (thn (ha pins s σ H _ I h) fun v s1 ⟨x, H1, I1, r1, q1⟩ => test_link (thn (hb pins s1 σ H1 _ I1 q1) fun u s2 ⟨y, H2, I2, r2, q2⟩ =>
    thn (ho pins s2 σ H2 x y v u _ I2 r1 r2 q2) fun d s3 ⟨z, H3, I3, r3, k, e, q3⟩ => ?_)) hm
  subst e
  cases r3
  refine wpAny_truthy_bool ?_
  cases k with
  | false =>
    obtain ⟨k', e', q'⟩ := q3
    cases e'
    exact ite_ff ⟨H3, I3, q'⟩
  | true =>
    refine ite_tt (test_last (thn (hc pins s3 σ H3 _ I3 q3) fun w' s4 ⟨z', H4, I4, r4, q4⟩ => thn (ho' pins s4 σ H4 y z' u w' _ I4 r2 r4 q4) fun d' s5 ⟨z2, H5, I5, r5, k2, e2, q5⟩ => ?_))
    subst e2
    cases r5
    exact wpAny_truthy_bool ⟨H5, I5, q5⟩

/-! ### truth -/
theorem line63 : (sizeLine : Nat) < 2 ^ 63 := by rw [sizeLine_eq]; decide

/-! ### strs and bytes -/
theorem op_add_str : OpR X (binaryOp .Add) (fun x y H Q => ∃ i j, x = .str i ∧ y = .str j ∧ i.length + j.length ≤ sizeLine ∧ Q (.str (i ++ j)) H) := by
  intro pins s σ H x y v u Q I rx ry h
  obtain ⟨i, j, rfl, rfl, hz, q⟩ := h
  obtain ⟨t, rfl⟩ := rx
  obtain ⟨t', rfl⟩ := ry
  exact add_str (fun t' tk => ⟨.str (i ++ j), H, I.tok _, ⟨_, rfl⟩, q⟩) hz


/-! ### scalar builtins, by CallR -/
theorem vals1 {x : V} {us : List Value} (r : Vals [x] us) : ∃ u, us = [u] ∧ RelV x u := by
  cases r with
  | cons r1 r2 => cases r2; exact ⟨_, rfl, r1⟩
theorem vals2 {x y : V} {us : List Value} (r : Vals [x, y] us) : ∃ u w', us = [u, w'] ∧ RelV x u ∧ RelV y w' := by
  cases r with
  | cons r1 r2 =>
    cases r2 with
    | cons r3 r4 => cases r4; exact ⟨_, _, rfl, r1, r3⟩
theorem call_int1 : CallR X (.type "int") (fun xs H Q => (∃ i, xs = [.int i] ∧ Q (.int i) H) ∨ ∃ k, xs = [.bl k] ∧ Q (.int (if k then 1 else 0)) H) := by
  intro pins s σ H xs us Q I r h
  rcases h with ⟨i, rfl, q⟩ | ⟨k, rfl, q⟩
  · obtain ⟨u, rfl, t, rfl⟩ := vals1 r
    exact call_int_int ⟨.int i, H, I, ⟨_, rfl⟩, q⟩
  · obtain ⟨u, rfl, r1⟩ := vals1 r
    cases r1
    exact call_int_bool ⟨.int (if k then 1 else 0), H, I.tok _, ⟨_, rfl⟩, q⟩
end
end L2

namespace L2
open PySem PySem.Spec PyProof.Rows

/-! ### an instance, its attributes a map -/
structure ObjM (h : Heap) (x dx C : Addr) (mA : Str → Option Value) : Prop where
  obj : h.get? x = some (PySem.W.instObj C dx)
  ns : h.Ns1 dx mA
  ne : dx ≠ x

theorem lookIn_ns {h : Heap} {dx : Addr} {mA : Str → Option Value} (n : h.Ns1 dx mA) : ∃ od, h.get? dx = some od ∧ ∀ name, PySem.W.lookIn name od = some (mA name) := by
  obtain ⟨o, es, ep, ho, hd, hk, _, hm⟩ := n
  refine ⟨o, ho, fun name => ?_⟩
  have e := hm name
  unfold nsFind findBy at e
  rw [← Array.find?_toList] at e
  unfold PySem.W.lookIn
  rw [hd]
  dsimp only
  split
  · rename_i y q
    rw [q] at e
    exact congrArg some e
  · rename_i q
    rw [q] at e
    have a : es.toList.any (·.refKey) = false := by
      rw [List.any_eq_false]
      intro y hy
      obtain ⟨z, t, hkey⟩ := hk y (Array.mem_toList_iff.mp hy)
      simp [DictEntry.refKey, hkey]
    have a' : ¬ es.toList.any (·.refKey) = true := by rw [a]; exact Bool.false_ne_true
    rw [if_neg a']
    exact congrArg some e

theorem ObjM.look {h : Heap} {x dx C : Addr} {mA : Str → Option Value} (I : ObjM h x dx C mA) : ∃ od, PySem.W.InstAt h x (PySem.W.instObj C dx) C (some od) ∧ ∀ name, PySem.W.lookIn name od = some (mA name) :=
  let ⟨od, ho, hl⟩ := lookIn_ns I.ns
  ⟨od, ⟨I.obj, rfl, rfl, ho⟩, hl⟩

section
variable {prog : Program} {w : World} {A : Around} {E : Value → Shared → Prop} {s : Shared} {K : PySem.W.Frag} {x dx C f : Addr} {mA : Str → Option Value} {name : Str} {v : Value}

theorem get_map {expr : Bool} {Q : Value → Shared → Prop} (X : K.In s.heap) (I : ObjM s.heap x dx C mA) (hg : PySem.W.plainGet K C name = true) (hh : PySem.W.hasDictIn K C = true)
    (ha : PySem.W.findIn K (.ref C) name = some none) (hv : mA name = some v) (hv' : PySem.W.handedIn v = true) (h : Q v { s with toks := s.toks + 1 }) :
    wpAny (model prog w) A (getAttr (.ref x) name expr) Q E s := by
  obtain ⟨od, J, hl⟩ := I.look
  exact PySem.W.get_value X J (PySem.W.plainGet_of hg).1 (PySem.W.findObj_own hh ha rfl (by rw [hl, hv])) hv' h


theorem get_meth {pl : Sem Bool} {Q : Value × List Value → Shared → Prop} (X : K.In s.heap) (I : ObjM s.heap x dx C mA) (hg : PySem.W.plainGet K C name = true)
    (hf : PySem.W.findIn K (.ref C) name = some (some (.ref f))) (ht : PySem.W.isFn K (.ref f) = true) (hv : mA name = none) (h : Q (.ref f, [.ref x]) s) :
    wpAny (model prog w) A (getMethod (.ref x) name pl) Q E s := by
  obtain ⟨od, J, hl⟩ := I.look
  exact PySem.W.method_fn X J (PySem.W.plainGet_of hg).1 (PySem.W.plainGet_of hg).2 hf (beq_iff_eq.mp ht) (by show (PySem.W.lookIn name od).map (·.isSome) = some false; rw [hl, hv]; rfl) h

theorem set_map {ns : List Str} {Q : Unit → Shared → Prop} (X : K.In s.heap) (I : ObjM s.heap x dx C mA)
    (hs : PySem.W.findIn K (.ref C) "__setattr__" = some (some (.builtin "object.__setattr__"))) (hp : PySem.W.plainOver K C = true) (ht : PySem.W.takerIn K C name = some none) (hh : PySem.W.hasDictIn K C = true)
    (hw : PySem.Within mA ns) (hsz : ns.length ≤ sizeLine)
    (h : ∀ h', ObjM h' x dx C (fun y => if y = name then some v else mA y) → Heap.SameBut dx s.heap h' → Q () { s with heap := h', toks := s.toks + 2 }) :
    wpAny (model prog w) A (setAttr (.ref x) name v) Q E s := by
  obtain ⟨od, J, hl⟩ := I.look
  refine PySem.W.set_plain X J hs (PySem.W.osa_open (s := { s with toks := s.toks + 1 }) (r := none) X J hp ht fun b => ?_)
  obtain ⟨cd, hc, hd'⟩ := PySem.W.any_some hh
  have hx : s.heap.get? x = some ⟨.ref C, some dx, .plain, #[]⟩ := I.obj
  refine wpAny_bind (wpAny_pure (wpAny_bind (wpAny_bind (wpAny_loadPart hx (wpAny_bind (PySem.W.Looks.here (s := { s with toks := s.toks + 1 }) (PySem.W.looks_clsIn X hc) ?_))))))
  rw [hd']
  refine wpAny_pure (a := some dx) (wpAny_bind (wpAny_pure (wpAny_bind ?_)))
  refine wpAny_nsSet1 (s := { s with toks := s.toks + 1 }) I.ns fun h' hn2 hs2 => ?_
  obtain ⟨oD, esD, epD, hoD, hdD, hcD⟩ := hn2.count (PySem.Within.cons name v hw)
  refine wpAny_bind (wpAny_lookBehind hoD (by rw [hdD]; exact pastItsLine_dict (Nat.le_trans hcD (by rw [List.length_cons]; omega))) ?_)
  exact wpAny_pure (h _ ⟨(hs2.2 _ (Ne.symm I.ne)).trans I.obj, hn2, I.ne⟩ hs2)

/-- C(..): the dict at the heap's end, the instance behind it; then its __init__ -/
theorem make_map {R : Result → Shared → Prop} {vs : List Value} {kw : List (Str × Value)} (X : K.In s.heap) (hm : PySem.W.makesIn K C = true)
    (hi : PySem.W.findIn K (.ref C) "__init__" = some (some (.ref f))) (hf : PySem.W.typeIn K (.ref f) = some (.type "function"))
    (h : codeAny (model prog w) (A.under (.builtin "type.__call__" ⟨.ref C :: vs, kw⟩)) (.call (.ref f) ⟨.ref (s.heap.objs.size + 1) :: vs, kw⟩) (PySem.W.InitBack (s.heap.objs.size + 1) R)
      { s with heap := (s.heap.push PySem.W.emptyDict).push (PySem.W.instObj C s.heap.objs.size) }) :
    codeAny (model prog w) A (.call (.ref C) ⟨vs, kw⟩) R s := by
  obtain ⟨hh, g, d, t, os⟩ := s
  exact PySem.W.make_core (PySem.W.makes_of X hm) (PySem.W.looks_findIn X hi) (fun self => PySem.W.bind_fn X self hf) (.inl rfl) h
end

/-! ### the attributes as a list of pairs -/
def putF (f : Str) (v : V) : List (Str × V) → List (Str × V)
  | [] => [(f, v)]
  | (g, x) :: r => if g = f then (g, v) :: r else (g, x) :: putF f v r
theorem lookup_putF (f g : Str) (v : V) : ∀ fs : List (Str × V), (putF f v fs).lookup g = if g = f then some v else fs.lookup g
  | [] => by
    show List.lookup g [(f, v)] = _
    by_cases h : g = f
    · have hb : (g == f) = true := beq_iff_eq.mpr h
      simp only [List.lookup, hb, if_pos h]
    · have hb : (g == f) = false := beq_eq_false_iff_ne.mpr h
      simp only [List.lookup, hb, if_neg h]
  | (k, x) :: r => by
    have ih := lookup_putF f g v r
    rw [show putF f v ((k, x) :: r) = (if k = f then (k, v) :: r else (k, x) :: putF f v r) from rfl]
    by_cases hk : k = f
    · rw [if_pos hk]
      by_cases h : g = k
      · have hb : (g == k) = true := beq_iff_eq.mpr h
        simp only [List.lookup, hb, if_pos (h.trans hk)]
      · have hb : (g == k) = false := beq_eq_false_iff_ne.mpr h
        simp only [List.lookup, hb, if_neg (fun e : g = f => h (e.trans hk.symm))]
    · rw [if_neg hk]
      by_cases h : g = k
      · have hb : (g == k) = true := beq_iff_eq.mpr h
        simp only [List.lookup, hb, if_neg (fun e : g = f => hk (h.symm.trans e))]
      · have hb : (g == k) = false := beq_eq_false_iff_ne.mpr h
        simp only [List.lookup, hb]
        exact ih
theorem keys_putF (f : Str) (v : V) : ∀ fs : List (Str × V), f ∈ (putF f v fs).map (·.1) ∧ ∀ g, g ∈ fs.map (·.1) → g ∈ (putF f v fs).map (·.1)
  | [] => ⟨by simp [putF], fun g h => by simp at h⟩
  | (k, x) :: r => by
    obtain ⟨i1, i2⟩ := keys_putF f v r
    rw [show putF f v ((k, x) :: r) = (if k = f then (k, v) :: r else (k, x) :: putF f v r) from rfl]
    by_cases hk : k = f
    · rw [if_pos hk]
      subst hk
      exact ⟨by simp, fun g h => by simpa using h⟩
    · rw [if_neg hk]
      refine ⟨?_, fun g h => ?_⟩
      · rw [List.map_cons]
        exact List.mem_cons_of_mem _ i1
      · rw [List.map_cons] at h ⊢
        rcases List.mem_cons.mp h with e | e
        · exact List.mem_cons.mpr (.inl e)
        · exact List.mem_cons_of_mem _ (i2 g e)
theorem length_putF (f : Str) (v : V) : ∀ fs : List (Str × V), (putF f v fs).length ≤ fs.length + 1
  | [] => by simp [putF]
  | (k, x) :: r => by
    have ih := length_putF f v r
    rw [show putF f v ((k, x) :: r) = (if k = f then (k, v) :: r else (k, x) :: putF f v r) from rfl]
    by_cases hk : k = f
    · rw [if_pos hk, List.length_cons, List.length_cons]; omega
    · rw [if_neg hk, List.length_cons, List.length_cons]; omega

theorem RelO.some_of {v : V} {o : Option Value} (r : RelO (some v) o) : ∃ u, o = some u ∧ RelV v u := by
  cases o with
  | none => exact (show False from r).elim
  | some u => exact ⟨u, rfl, r⟩
theorem RelO.none_of {o : Option Value} (r : RelO none o) : o = none := by
  cases o with
  | none => rfl
  | some u => exact (show False from r).elim
theorem handed_of {v : V} {u : Value} (r : RelV v u) : PySem.W.handedIn u = true := by
  cases v with
  | non => cases (show u = Value.none from r); rfl
  | bl b => cases (show u = Value.bool b from r); rfl
  | int i => obtain ⟨t, e⟩ := (show ∃ t, u = Value.int i t from r); cases e; rfl
  | str x => obtain ⟨t, e⟩ := (show ∃ t, u = Value.str x t from r); cases e; rfl
  | byt b => obtain ⟨t, e⟩ := (show ∃ t, u = Value.bytes b t from r); cases e; rfl
  | flt b => obtain ⟨t, e⟩ := (show ∃ t, u = Value.float b t from r); cases e; rfl
  | ref a => cases (show u = Value.ref a from r); rfl
  | ty n => cases (show u = Value.type n from r); rfl

section
variable {P : Program} {w : World} {H H' : Hp} {h h' : Heap} {a C dx : Addr} {fs fs' : List (Str × V)}
theorem ins_get (hok : HOk P w H h) (e : H a = some (.ins C dx fs)) : ∃ mA, ObjM h a dx C mA ∧ (∀ f, RelO (fs.lookup f) (mA f)) ∧ PySem.Within mA (fs.map (·.1)) ∧ fs.length ≤ 1000 ∧ H dx = some (.own a) := by
  obtain ⟨d, z, ne, ob, mA, n, r, q⟩ := (show ObjOk P w H h a (.ins C dx fs) from hok a _ e)
  exact ⟨mA, ⟨ob, n, ne⟩, r, q, z, d⟩
end

/-! ### what of the text a class must have -/
structure Cls (K : PySem.W.Frag) (C : Addr) : Prop where
  pg : PySem.W.plainGet K C Str.empty = true
  hd : PySem.W.hasDictIn K C = true
  po : PySem.W.plainOver K C = true
  sa : PySem.W.findIn K (.ref C) "__setattr__" = some (some (.builtin "object.__setattr__"))
theorem Cls.get {K : PySem.W.Frag} {C : Addr} (c : Cls K C) (f : Str) : PySem.W.plainGet K C f = true := c.pg
/-- no class of it has the name -/
def NoAttr (K : PySem.W.Frag) (C : Addr) (f : Str) : Prop := PySem.W.findIn K (.ref C) f = some none
theorem NoAttr.taker {K : PySem.W.Frag} {C : Addr} {f : Str} (n : NoAttr K C f) : PySem.W.takerIn K C f = some none := by
  unfold PySem.W.takerIn
  rw [show PySem.W.findIn K (.ref C) f = some none from n]
  rfl
/-- a constant of the class -/
structure Con (K : PySem.W.Frag) (C : Addr) (f : Str) (v : V) (u : Value) : Prop where
  at_ : PySem.W.findIn K (.ref C) f = some (some u)
  rel : RelV v u
  get : PySem.W.specialIn K u "__get__" = some none
  cp : PySem.W.copiedNames.contains f = false
/-- a method: a plain def of the class or of one above it -/
structure Meth (K : PySem.W.Frag) (C : Addr) (m : Str) (f : Addr) : Prop where
  at_ : PySem.W.findIn K (.ref C) m = some (some (.ref f))
  fn : PySem.W.isFn K (.ref f) = true
  kp : PySem.W.keepIn K (.ref f) = true

section
variable {X : Cx} {pins : List (Addr × Obj)} {σ : St} {H : Hp} {s : Shared} {a C dx : Addr} {fs : List (Str × V)} {f : Str} {v : V} {A : Around} {E : Value → Shared → Prop}

theorem getattr_ok {b : Bool} {Q : Value → Shared → Prop} (I : Inv X pins σ H s) (e : H a = some (.ins C dx fs)) (c : Cls X.K C) (n : NoAttr X.K C f) (l : fs.lookup f = some v)
    (h : ∀ u s', Inv X pins σ H s' → RelV v u → Q u s') : wpAny (model X.prog X.w) A (getAttr (.ref a) f b) Q E s := by
  obtain ⟨mA, O, r, _, _, _⟩ := ins_get I.hok e
  obtain ⟨u, hu, ru⟩ := RelO.some_of (v := v) (o := mA f) (by rw [← l]; exact r f)
  exact get_map I.kIn O (c.get f) c.hd n hu (handed_of ru) (h u _ (I.tok _) ru)


theorem getmeth_ok {m : Str} {g : Addr} {pl : Sem Bool} {Q : Value × List Value → Shared → Prop} (I : Inv X pins σ H s) (e : H a = some (.ins C dx fs)) (c : Cls X.K C) (k : Meth X.K C m g) (l : fs.lookup m = none)
    (h : Q (.ref g, [.ref a]) s) : wpAny (model X.prog X.w) A (getMethod (.ref a) m pl) Q E s := by
  obtain ⟨mA, O, r, _, _, _⟩ := ins_get I.hok e
  have hn : mA m = none := RelO.none_of (by rw [← l]; exact r m)
  exact get_meth I.kIn O (c.get m) k.at_ k.fn hn h

theorem setattr_ok {y : V} {u : Value} {Q : Unit → Shared → Prop} (I : Inv X pins σ H s) (e : H a = some (.ins C dx fs)) (c : Cls X.K C) (n : NoAttr X.K C f) (hl : fs.length < 1000) (ry : RelV y u)
    (h : ∀ s', Inv X pins σ (upd H a (.ins C dx (putF f y fs))) s' → Q () s') : wpAny (model X.prog X.w) A (setAttr (.ref a) f u) Q E s := by
  obtain ⟨mA, O, r, wi, _, ho⟩ := ins_get I.hok e
  have hz : (fs.map (·.1)).length ≤ sizeLine := by rw [List.length_map, sizeLine_eq]; omega
  refine set_map I.kIn O c.sa c.po n.taker c.hd wi hz fun h' O' sb => h _ ?_
  have hd : ∃ o, h'.get? dx = some o := let ⟨o, _, _, e', _⟩ := O'.ns; ⟨o, e'⟩
  refine I.write (x := a) (e := dx) (by rw [e]; exact True.intro) (.inr ho) (fun b q hb z => (sb.2 b hb).trans z) hd ?_
  refine ⟨by rw [upd_ne O.ne]; exact ho, ?_, O.ne, O'.obj, _, O'.ns, fun g => ?_, fun g hg => ?_⟩
  · have := length_putF f y fs; omega
  · show RelO ((putF f y fs).lookup g) (if g = f then some u else mA g)
    rw [lookup_putF]
    by_cases q : g = f
    · rw [if_pos q, if_pos q]; exact ry
    · rw [if_neg q, if_neg q]; exact r g
  · by_cases q : g = f
    · rw [q]; exact (keys_putF f y fs).1
    · refine (keys_putF f y fs).2 g (wi g fun z => hg ?_)
      show (if g = f then some u else mA g) = none
      rw [if_neg q]; exact z

/-- a new instance, tracked, without attributes -/
theorem Inv.made (I : Inv X pins σ H s) : Inv X pins σ (upd (upd H s.heap.objs.size (.own (s.heap.objs.size + 1))) (s.heap.objs.size + 1) (.ins C s.heap.objs.size []))
    { s with heap := (s.heap.push PySem.W.emptyDict).push (PySem.W.instObj C s.heap.objs.size) } := by
  have e1 : (s.heap.push PySem.W.emptyDict).get? s.heap.objs.size = some PySem.W.emptyDict := Heap.get?_push_size s.heap rfl
  have e2 : ((s.heap.push PySem.W.emptyDict).push (PySem.W.instObj C s.heap.objs.size)).get? (s.heap.objs.size + 1) = some (PySem.W.instObj C s.heap.objs.size) := by
    have := Heap.get?_push_size (s.heap.push PySem.W.emptyDict) (o := PySem.W.instObj C s.heap.objs.size) rfl
    rwa [Heap.size_push] at this
  have e3 : (s.heap.push PySem.W.emptyDict).Ns s.heap.objs.size (fun _ => none) := ⟨PySem.W.emptyDict, #[], _, e1, rfl, (fun e he => absurd he (by simp)), fun _ => rfl⟩
  have I1 := I.laid (a := s.heap.objs.size) (o := .own (s.heap.objs.size + 1)) (h' := s.heap.push PySem.W.emptyDict) (t' := s.toks) (fun b u q => Heap.get?_push_of_some _ q) (Nat.le_refl _) ⟨_, e1⟩
  refine I1.laid (a := s.heap.objs.size + 1) (o := .ins C s.heap.objs.size []) (t' := s.toks) (fun b u q => Heap.get?_push_of_some _ q) (Nat.le_of_eq (Heap.size_push _ _)) ?_
  have ne : s.heap.objs.size ≠ s.heap.objs.size + 1 := Nat.ne_of_lt (Nat.lt_succ_self _)
  refine ⟨by rw [upd_ne ne, upd_same], Nat.zero_le _, ne, e2, fun _ => none, (Heap.Ns1.of_empty e3).at fun o q => Heap.get?_push_of_some _ q, fun _ => True.intro, fun y hy => absurd rfl hy⟩

/-- e.f where nothing but the object is asked: through attributeBase (super) and the last hold -/
theorem attr_of {prog : Program} {w : World} {env : Env} {e : Expr} {f : Str} {pos : Pos} {s : Shared} {Q : Value → Shared → Prop} (hb : attributeBase e f env (eval e env) = eval e env)
    (h : wpAny (model prog w) A (eval e env) (fun o s₁ => wpAny (model prog w) A (getAttr o f true) Q E s₁) E s) : wpAny (model prog w) A (eval (.Attribute e f pos) env) Q E s :=
  Attribute_any_ h (by rw [arm_eval_Attribute, hb])
end

/-! ### readings and rules -/
/-- e.f, an attribute of the instance -/
def tFld (K : PySem.W.Frag) (ta : TE) (f : Str) : TE := fun σ H Q => ta σ H fun x H1 => ∃ a C dx fs v, x = .ref a ∧ H1 a = some (.ins C dx fs) ∧ Cls K C ∧ NoAttr K C f ∧ fs.lookup f = some v ∧ Q v H1
/-- e.f, a constant of the class -/
def tCon (K : PySem.W.Frag) (ta : TE) (f : Str) : TE := fun σ H Q => ta σ H fun x H1 => ∃ a C dx fs v u, x = .ref a ∧ H1 a = some (.ins C dx fs) ∧ Cls K C ∧ Con K C f v u ∧ fs.lookup f = none ∧ Q v H1
/-- e.f = value -/
def sFld (K : PySem.W.Frag) (ta tv : TE) (f : Str) : TS := fun D σ H => tv σ H fun y H1 => ta σ H1 fun x H2 => ∃ a C dx fs, x = .ref a ∧ H2 a = some (.ins C dx fs) ∧ Cls K C ∧ NoAttr K C f ∧ fs.length < 1000 ∧
  D.nx σ (upd H2 a (.ins C dx (putF f y fs)))
/-- e.f op= value -/
def sFldAug (K : PySem.W.Frag) (ta tv : TE) (rd : V → V → Hp → VK → Prop) (f : Str) : TS := fun D σ H => ta σ H fun x H1 => ∃ a C dx fs v, x = .ref a ∧ H1 a = some (.ins C dx fs) ∧ Cls K C ∧ NoAttr K C f ∧ fs.lookup f = some v ∧
  tv σ H1 fun y H2 => rd v y H2 fun z H3 => ∃ dx' fs', H3 a = some (.ins C dx' fs') ∧ fs'.length < 1000 ∧ D.nx σ (upd H3 a (.ins C dx' (putF f z fs')))

section
variable {X : Cx} {o e value : Expr} {f : Str} {pos pos' tpos : Pos} {ta tv : TE}
theorem pe_fld (he : PE X e ta) (hb : attributeBase e f X.env (eval e X.env) = eval e X.env) : PE X (.Attribute e f pos) (tFld X.K ta f) := by
  intro pins s σ H Q I h
  refine attr_of hb (thn (he pins s σ H _ I h) fun u s1 ⟨x, H1, I1, rx, a, C, dx, fs, v, ex, ea, c, n, l, q⟩ => ?_)
  subst ex
  obtain rfl : u = Value.ref a := rx
  exact getattr_ok I1 ea c n l fun u' s2 I2 ru => ⟨v, H1, I2, ru, q⟩
theorem ps_fld (ha : PE X o ta) (hv : PE X value tv) (hs : swapsWith value (some (.Attribute o f pos')) pos.line X.env = pure false) : PS X (.Assign [.Attribute o f pos'] value pos) (sFld X.K ta tv f) := by
  intro pins s σ H D I h
  refine plainObj_wpAny_Assign_Attribute (thn (hv pins s σ H _ I h) fun u s1 ⟨y, H1, I1, ry, q⟩ => thn (ha pins s1 σ H1 _ I1 q) fun ov s2 ⟨x, H2, I2, rx, a, C, dx, fs, ex, ea, c, n, l, q2⟩ => ?_) hs
  subst ex
  obtain rfl : ov = Value.ref a := rx
  exact setattr_ok I2 ea c n l ry fun s3 I3 => ⟨σ, _, I3, q2⟩
def rAdd : V → V → Hp → VK → Prop := fun x y H Q => ∃ i j, x = .int i ∧ y = .int j ∧ Q (.int (i + j)) H
def rSub : V → V → Hp → VK → Prop := fun x y H Q => ∃ i j, x = .int i ∧ y = .int j ∧ Q (.int (i - j)) H

end

/-! ### isinstance -/
section
variable {X : Cx} {pins : List (Addr × Obj)} {σ : St} {H : Hp} {s : Shared} {A : Around} {E : Value → Shared → Prop} {Q : Value → Shared → Prop} {c : Value} {b : Bool}
/-- the type of a value, as the fragment's deciders take it; for an instance its class -/
inductive TyOf (K : PySem.W.Frag) (H : Hp) : V → Value → Prop where
  | non : TyOf K H .non (.type "NoneType")
  | bl (x : Bool) : TyOf K H (.bl x) (.type "bool")
  | int (i : Int) : TyOf K H (.int i) (.type "int")
  | str (x : Str) : TyOf K H (.str x) (.type "str")
  | flt (x : UInt64) : TyOf K H (.flt x) (.type "float")
  | lst {a : Addr} {xs : List V} (e : H a = some (.lst xs)) : TyOf K H (.ref a) (.type "list")
  | frz {a : Addr} {o : Obj} {xs : List V} (e : H a = some (.frz o (.lst xs))) : TyOf K H (.ref a) (.type "list")
  | tup {a : Addr} {xs : List V} (e : H a = some (.tup xs)) : TyOf K H (.ref a) (.type "tuple")
  | dK {a : Addr} {kvs : List (Key × V)} (e : H a = some (.dK kvs)) : TyOf K H (.ref a) (.type "dict")
  | dT {a : Addr} {kvs : List (List Key × V)} (e : H a = some (.dT kvs)) : TyOf K H (.ref a) (.type "dict")
  | ins {a C dx : Addr} {fs : List (Str × V)} (e : H a = some (.ins C dx fs)) (cl : Cls K C) (ha : PySem.W.findIn K (.ref C) "__class__" = some (some (.builtin "object.__class__")))
      (hn : PySem.W.specialIn K (.builtin "object.__class__") "__get__" = some (some (.builtin "getset_descriptor.__get__"))) (htk : PySem.W.takesIn K (.builtin "object.__class__") = some true)
      (hm : PySem.W.mroIn K C (.type "object") = some true) : TyOf K H (.ref a) (.ref C)
/-- isinstance(x, c) for one class c, a built-in or an own one: kitOne's answer -/
theorem isinst_ok {x : V} {u t : Value} (I : Inv X pins σ H s) (rx : RelV x u) (ty : TyOf X.K H x t) (e : PySem.W.kitOne X.K t c = some b) (h : ∀ tk, Q (.bool b) { s with toks := tk }) :
    wpAny (model X.prog X.w) A (call (.builtin "isinstance") [u, c]) Q E s := by
  cases ty with
  | non => cases (show u = Value.none from rx); exact PySem.W.kia_one PySem.W.kitx_none I.kIn True.intro e (fun z => nomatch z) h
  | bl y => cases (show u = Value.bool y from rx); exact PySem.W.kia_one PySem.W.kitx_bool I.kIn True.intro e (fun z => nomatch z) h
  | int i => obtain ⟨t, q⟩ := (show ∃ t, u = Value.int i t from rx); cases q; exact PySem.W.kia_one PySem.W.kitx_int I.kIn True.intro e (fun z => nomatch z) h
  | str y => obtain ⟨t, q⟩ := (show ∃ t, u = Value.str y t from rx); cases q; exact PySem.W.kia_one PySem.W.kitx_str I.kIn True.intro e (fun z => nomatch z) h
  | flt y => obtain ⟨t, q⟩ := (show ∃ t, u = Value.float y t from rx); cases q; exact PySem.W.kia_one PySem.W.kitx_float I.kIn True.intro e (fun z => nomatch z) h
  | @lst a xs ea =>
    cases (show u = Value.ref a from rx)
    obtain ⟨_, _, n, _, h1⟩ := (show ObjOk X.prog X.w H s.heap a (.lst xs) from I.hok a _ ea)
    exact PySem.W.kia_one PySem.W.kitx_list I.kIn ⟨_, h1, rfl⟩ e (fun z => nomatch z) h
  | @frz a ob xs ea =>
    cases (show u = Value.ref a from rx)
    obtain ⟨_, _, _, n, _, h1⟩ := (show ObjOk X.prog X.w H s.heap a (.frz ob (.lst xs)) from I.hok a _ ea)
    exact PySem.W.kia_one PySem.W.kitx_list I.kIn ⟨_, h1, rfl⟩ e (fun z => nomatch z) h
  | @tup a xs ea =>
    cases (show u = Value.ref a from rx)
    obtain ⟨_, _, _, p⟩ := (show ObjOk X.prog X.w H s.heap a (.tup xs) from I.hok a _ ea)
    obtain ⟨o, h1, h2, _⟩ := p
    exact PySem.W.kia_one PySem.W.kitx_tuple I.kIn ⟨o, h1, h2⟩ e (fun z => nomatch z) h
  | @dK a kvs ea =>
    cases (show u = Value.ref a from rx)
    obtain ⟨_, _, vs, _, p⟩ := (show ObjOk X.prog X.w H s.heap a (.dK kvs) from I.hok a _ ea)
    obtain ⟨o, es, ep, h1, h2, _⟩ := p
    exact PySem.W.kia_one PySem.W.kitx_dict I.kIn ⟨o, h1, h2.1⟩ e (fun z => nomatch z) h
  | @dT a kvs ea =>
    cases (show u = Value.ref a from rx)
    obtain ⟨_, _, xs, _, o, es, ep, h1, h2, _⟩ := (show ObjOk X.prog X.w H s.heap a (.dT kvs) from I.hok a _ ea)
    exact PySem.W.kia_one PySem.W.kitx_dict I.kIn ⟨o, h1, h2.1⟩ e (fun z => nomatch z) h
  | @ins a C dx fs ea cl ha hn htk hm =>
    cases (show u = Value.ref a from rx)
    obtain ⟨mA, O, _⟩ := ins_get I.hok ea
    obtain ⟨od, J, _⟩ := O.look
    exact PySem.W.kia_one (PySem.W.kitx_own (cl.get _) cl.hd ha hn htk hm) I.kIn J e (fun z => nomatch z) h
end
end L2

namespace L2
open PySem PySem.Spec PyProof.Rows

/-! ### room -/
structure Room (k : Nat) (A : Around) : Prop where
  hd : A.handled = none
  dp : A.depth + 3 * k + 5 < recursionLimit
  un : A.units + 16 * k + 200 < cLine
theorem Room.mono {j k : Nat} {A : Around} (r : Room k A) (h : j ≤ k) : Room j A := ⟨r.hd, by have := r.dp; omega, by have := r.un; omega⟩
theorem Room.deeper {k : Nat} {A : Around} (r : Room (k + 1) A) (env : Env) : Room k (A.deeper env) :=
  ⟨r.hd, by have := r.dp; show A.depth + 1 + 3 * k + 5 < _; omega, by have := r.un; show A.units + 3 + 16 * k + 200 < _; omega⟩
theorem Room.in1 {k : Nat} {A : Around} (r : Room (k + 1) A) : Room k A.in1 :=
  ⟨r.hd, by have := r.dp; show A.depth + 3 * k + 5 < _; omega, by have := r.un; show A.units + 1 + 16 * k + 200 < _; omega⟩
theorem make_depth {A : Around} {C : Addr} {us : List Value} {kw : List (Str × Value)} : (A.under (.builtin "type.__call__" ⟨.ref C :: us, kw⟩)).depth = A.depth + 1 := by
  first | rfl | simp [Around.under, Code.weight, Code.isCreation, Code.isGuard, Code.isCaller, Code.frames, Code.isFrame, guardIds]
theorem make_units {A : Around} {C : Addr} {us : List Value} {kw : List (Str × Value)} : (A.under (.builtin "type.__call__" ⟨.ref C :: us, kw⟩)).units = A.units + 1 := by
  first | rfl | simp [Around.under, Code.cUnits, Code.frames, Code.isFrame]
theorem Room.make {k : Nat} {A : Around} (r : Room (k + 1) A) (C : Addr) (us : List Value) (kw : List (Str × Value)) : Room k (A.under (.builtin "type.__call__" ⟨.ref C :: us, kw⟩)) :=
  ⟨r.hd, by have := r.dp; rw [make_depth]; omega, by have := r.un; rw [make_units]; omega⟩
theorem Room.depth {k : Nat} {A : Around} (r : Room k A) : A.depth < recursionLimit := by have := r.dp; omega
theorem Room.units {k : Nat} {A : Around} (r : Room k A) : A.units + 64 < cLine := by have := r.un; omega

/-! ### argument lists and displays -/
def tNil : TA := fun _ H Q => Q [] H
def tCons (ta : TE) (tr : TA) : TA := fun σ H Q => ta σ H fun x H1 => tr σ H1 fun xs H2 => Q (x :: xs) H2
section
variable {X : Cx} {e : Expr} {es : List Expr} {te : TE} {t : TA} {pos : Pos}
theorem pa_nil : PA X [] tNil := fun _ _ _ _ H Q I h => Calls.spliced_nil ⟨[], H, I, .nil, h⟩
theorem pa_cons (ha : PE X e te) (hr : PA X es t) (hs : starEach (e :: es) X.env = (false, eval e X.env) :: starEach es X.env := by rfl) : PA X (e :: es) (tCons te t) := by
  intro pos pins s σ H Q I h
  rw [hs]
  show wpAny _ _ (spliced ((false, eval e X.env) :: backTo pos (starEach es X.env))) _ _ s
  refine Calls.spliced_cons (thn (ha pins s σ H _ I h) fun u s1 ⟨x, H1, I1, r1, q1⟩ => ?_)
  exact thn (hr pos pins s1 σ H1 _ I1 q1) fun us s2 ⟨xs, H2, I2, r2, q2⟩ => ⟨x :: xs, H2, I2, .cons r1 r2, q2⟩

/-- a tuple, a list of written items -/
def tTup (t : TA) : TE := fun σ H Q => t σ H fun xs H1 => xs.length ≤ sizeLine ∧ ∀ p, H1 p = none → Q (.ref p) (upd H1 p (.tup xs))
def tLst (t : TA) : TE := fun σ H Q => t σ H fun xs H1 => xs.length ≤ sizeLine ∧ ∀ p, H1 p = none → Q (.ref p) (upd H1 p (.lst xs))
theorem pe_tup {x1} (h : PA X es t) : PE X (.Tuple es x1 pos) (tTup t) := by
  intro pins s σ H Q I hq
  refine wpAny_Tuple_spliced (thn (h pos pins s σ H _ I hq) fun us s1 ⟨xs, H1, I1, r, z, q⟩ => ⟨by rw [← r.length]; exact z, ?_⟩)
  have hf : H1 s1.heap.objs.size = none := I1.hok.fresh (Nat.le_refl _)
  refine ⟨.ref s1.heap.objs.size, upd H1 s1.heap.objs.size (.tup xs), I1.laid (t' := s1.toks) (fun b u e => Heap.get?_push_of_some _ e) (Nat.le_refl _) ?_, rfl, q _ hf⟩
  exact ⟨z, us, r, ⟨_, Heap.get?_push_size _ rfl, rfl, _, rfl⟩⟩
theorem pe_lst (h : PA X es t) : PE X (.List es pos) (tLst t) := by
  intro pins s σ H Q I hq
  refine wpAny_List_spliced (thn (h pos pins s σ H _ I hq) fun us s1 ⟨xs, H1, I1, r, z, q⟩ => ⟨by rw [← r.length]; exact z, ?_⟩)
  have hf : H1 s1.heap.objs.size = none := I1.hok.fresh (Nat.le_refl _)
  refine ⟨.ref s1.heap.objs.size, upd H1 s1.heap.objs.size (.lst xs), I1.laid (t' := s1.toks) (fun b u e => Heap.get?_push_of_some _ e) (Nat.le_refl _) ?_, rfl, q _ hf⟩
  exact ⟨z, us, 0, r, Heap.get?_push_size _ rfl⟩
end

/-! ### what a def promises -/
/-- a def's promise: the bound arguments in the parameters' order, the heap, the wanted end, the wanted exception -/
abbrev Sp := List V → Hp → VK → XK → Prop
/-- how an exception lies behind a call (file 08 gives it): the callers' frames, abstract heap and state ahead of the call, the wish, the exception, the state -/
abbrev CXT := List Env → Hp → Shared → XK → Value → Shared → Prop

/-- the state at a call -/
structure Env0 (P : Program) (w : World) (K : PySem.W.Frag) (mg : Str → Option Value) (base : Heap) (A : Around) (outer : List Env) (s : Shared) (H : Hp) : Prop where
  frames : A.frames = some outer
  mod : Mod K mg base
  bs : ∀ b o, base.get? b = some o → s.heap.get? b = some o ∧ H b = none
  bsz : base.objs.size ≤ s.heap.objs.size
  funs : s.heap.FunFrames base outer
  frf : ∀ b ∈ frs outer, H b = none
  hok : HOk P w H s.heap
  bare : AllBare s.gens
/-- a call's end -/
def CE (outer : List Env) (P : Program) (w : World) (H : Hp) (s : Shared) (Q : VK) (u : Value) (s' : Shared) : Prop :=
  ∃ v H', s'.os = s.os ∧ AllBare s'.gens ∧ Un (frs outer) [] H H' s.heap s'.heap ∧ HOk P w H' s'.heap ∧ RelV v u ∧ Q v H'
def CR (CX : CXT) (outer : List Env) (P : Program) (w : World) (H : Hp) (s : Shared) (Q : VK) (E : XK) (r : Result) (s' : Shared) : Prop :=
  match r with
  | .ok (.ret u) => CE outer P w H s Q u s'
  | .ok _ => False
  | .error e => CX outer H s E e s'
structure FnOk (P : Program) (w : World) (K : PySem.W.Frag) (mg : Str → Option Value) (base : Heap) (CX : CXT) (k : Nat) (f : Addr) (fd : FuncData) (ps : List Str) (sp : Sp) : Prop where
  len : ∀ vs H Q E, sp vs H Q E → vs.length = ps.length
  run : ∀ (A : Around) (outer : List Env) (s : Shared) (H : Hp) (args : Args) (us : List Value) (vs : List V) (Q : VK) (E : XK), Room k A → Env0 P w K mg base A outer s H → BindsTo s fd args (ps.zip us) → Vals vs us → sp vs H Q E →
    codeAny (model P w) A (.call (.ref f) args) (CR CX outer P w H s Q E) s
theorem FnOk.mono {P : Program} {w : World} {K : PySem.W.Frag} {mg : Str → Option Value} {base : Heap} {CX : CXT} {j k : Nat} {f : Addr} {fd : FuncData} {ps : List Str} {sp : Sp} (F : FnOk P w K mg base CX j f fd ps sp) (h : j ≤ k) :
    FnOk P w K mg base CX k f fd ps sp := ⟨F.len, fun A outer s H args us vs Q E hr => F.run A outer s H args us vs Q E (hr.mono h)⟩
/-- a weaker promise -/
theorem FnOk.imp {P : Program} {w : World} {K : PySem.W.Frag} {mg : Str → Option Value} {base : Heap} {CX : CXT} {k : Nat} {f : Addr} {fd : FuncData} {ps : List Str} {sp sp' : Sp} (F : FnOk P w K mg base CX k f fd ps sp)
    (h : ∀ vs H Q E, sp' vs H Q E → sp vs H Q E) : FnOk P w K mg base CX k f fd ps sp' :=
  ⟨fun vs H Q E q => F.len vs H Q E (h _ _ _ _ q), fun A outer s H args us vs Q E hr he hb hv hs => F.run A outer s H args us vs Q E hr he hb hv (h _ _ _ _ hs)⟩

theorem Env0.make {P : Program} {w : World} {K : PySem.W.Frag} {mg : Str → Option Value} {base : Heap} {A : Around} {outer : List Env} {s : Shared} {H : Hp} (e : Env0 P w K mg base A outer s H) (C : Addr) (us : List Value) (kw : List (Str × Value)) :
    Env0 P w K mg base (A.under (.builtin "type.__call__" ⟨.ref C :: us, kw⟩)) outer s H := ⟨by first | exact e.frames | (simpa [Around.under, Code.envs, Code.isFrame, pushEnvs] using e.frames), e.mod, e.bs, e.bsz, e.funs, e.frf, e.hok, e.bare⟩
theorem Env0.in1 {P : Program} {w : World} {K : PySem.W.Frag} {mg : Str → Option Value} {base : Heap} {A : Around} {outer : List Env} {s : Shared} {H : Hp} (e : Env0 P w K mg base A outer s H) :
    Env0 P w K mg base A.in1 outer s H := ⟨e.frames, e.mod, e.bs, e.bsz, e.funs, e.frf, e.hok, e.bare⟩

section
variable {X : Cx} {pins : List (Addr × Obj)} {σ : St} {H : Hp} {s s' : Shared}
/-- from a body: what a callee wants -/
theorem Inv.env0 (I : Inv X pins σ H s) : Env0 X.prog X.w X.K X.mg X.base X.A X.stack s H :=
  ⟨I.ok.frames, I.ok.mod, I.bs, Nat.le_trans I.ok.bsz I.sz, I.stack, I.stkFree, I.hok, I.bare⟩
/-- behind a call -/
theorem Inv.after {Q : VK} {u : Value} (I : Inv X pins σ H s) (h : CE X.stack X.prog X.w H s Q u s') : EP X pins σ Q u s' := by
  obtain ⟨v, H', os, bare, un, hok, r, q⟩ := h
  obtain ⟨hh, g, d, t, os'⟩ := s'
  obtain rfl : os' = s.os := os
  exact ⟨v, H', I.call (h' := hh) (g' := g) (d' := d) (t' := t) (ch := []) un hok bare (fun b z => absurd z (by simp)), r, q⟩
end

/-! ### calls -/
/-- f(..): the written arguments, then the defaults dvs; E: what is wanted of an exception -/
def tCall (sp : Sp) (dvs : List V) (E : XK) (t : TA) : TE := fun σ H Q => t σ H fun vs H1 => sp (vs ++ dvs) H1 Q E
/-- o.m(..) of an instance of the class at C -/
def tMeth (C : Addr) (m : Str) (sp : Sp) (dvs : List V) (E : XK) (ta : TE) (t : TA) : TE := fun σ H Q => ta σ H fun x H1 => ∃ a dx fs, x = .ref a ∧ H1 a = some (.ins C dx fs) ∧ fs.lookup m = none ∧
  t σ H1 fun vs H2 => sp (x :: (vs ++ dvs)) H2 Q E
/-- C(..): a new instance and its dict, then __init__ -/
def tMake (C : Addr) (sp : Sp) (dvs : List V) (E : XK) (t : TA) : TE := fun σ H Q => t σ H fun vs H1 => ∀ x dx, H1 x = none → H1 dx = none → dx ≠ x →
  sp (.ref x :: (vs ++ dvs)) (upd (upd H1 dx (.own x)) x (.ins C dx [])) (fun v H2 => v = .non ∧ Q (.ref x) H2) E

/-- how the parameters are bound: us the positional arguments, kw the keywords' values by name, ds the defaults that fill up -/
def Binds (K : PySem.W.Frag) (fd : FuncData) (ps : List Str) (ds : List Value) : Prop :=
  ∀ (s : Shared) (us : List Value), K.In s.heap → (us ++ ds).length = ps.length → BindsTo s fd ⟨us, []⟩ (ps.zip (us ++ ds))
/-- every parameter is given -/
theorem Binds.all {K : PySem.W.Frag} {fd : FuncData} {ps : List Str} (h : ∀ us : List Value, us.length = ps.length → bindArgs fd ⟨us, []⟩ = pure (ps.zip us)) : Binds K fd ps [] := fun s us _ hl => by
  rw [List.append_nil] at hl ⊢
  exact .of_eq (h us hl)

/-- an exception of a callee reaches what this body wants of exceptions -/
def Passes (CX : CXT) (X : Cx) (E : XK) : Prop := ∀ (pins : List (Addr × Obj)) (σ : St) (H : Hp) (s : Shared) (e : Value) (s' : Shared), Inv X pins σ H s → CX X.stack H s E e s' → X.xe e s'

section
variable {X : Cx} {CX : CXT} {k : Nat} {f C : Addr} {fd : FuncData} {ps : List Str} {sp : Sp} {dvs : List V} {ds : List Value} {E : XK} {x m : Str} {p pos apos : Pos} {e o : Expr} {es : List Expr} {ta : TE} {t : TA}

/-- the callee runs -/
theorem run_fn {pins : List (Addr × Obj)} {σ : St} {H : Hp} {s : Shared} {Q : VK} {us : List Value} {vs : List V} (F : FnOk X.prog X.w X.K X.mg X.base CX k f fd ps sp) (hr : Room k X.A) (hb : Binds X.K fd ps ds) (hd : Vals dvs ds) (hx : Passes CX X E)
    (I : Inv X pins σ H s) (r : Vals vs us) (h : sp (vs ++ dvs) H Q E) : wpAny (model X.prog X.w) X.A (call (.ref f) us) (EP X pins σ Q) X.xe s := by
  have r2 : Vals (vs ++ dvs) (us ++ ds) := r.append hd
  have hl : (us ++ ds).length = ps.length := by rw [← r2.length]; exact F.len _ _ _ _ h
  refine wpAny_call (codeAny_mono (F.run X.A X.stack s H ⟨us, []⟩ (us ++ ds) (vs ++ dvs) Q E hr I.env0 (hb s us I.kIn hl) r2 h) fun r s' hq => ?_)
  cases r with
  | error e => exact hx pins σ H s e s' I hq
  | ok fl =>
    cases fl with
    | ret u => exact I.after hq
    | next => exact False.elim hq
    | brk => exact False.elim hq
    | cont => exact False.elim hq

theorem pe_call (F : FnOk X.prog X.w X.K X.mg X.base CX k f fd ps sp) (hr : Room k X.A) (hg : Gl X x) (hm : X.mg x = some (.ref f)) (hk : PySem.W.keepIn X.K (.ref f) = true) (hb : Binds X.K fd ps ds) (hd : Vals dvs ds) (hx : Passes CX X E)
    (ha : PA X (e :: es) t) (hdb : (x == ("__debug__" : Str)) = false := by decide) (he : starEach (e :: es) X.env = (false, eval e X.env) :: starEach es X.env := by rfl) (hpl : (backTo pos (starEach es X.env)).any (·.1) = false := by rfl) :
    PE X (.Call (.Name x p) (e :: es) [] pos) (tCall sp dvs E t) := by
  intro pins s σ H Q I h
  refine wpAny_Call_Name_kw (ld_glob I hg hm ?_ hdb)
  refine PySem.W.callWith_K (h₀ := X.base) I.ok.mod.kin hk (thn (ha pos pins s σ H _ I h) fun us s1 ⟨vs, H1, I1, r, q⟩ => ⟨I1.kIn, ?_⟩) he hpl
  exact run_fn F hr hb hd hx I1 r q

/-- o.m() -/
theorem pe_meth0 {pl : Sem Bool} (he : PE X o ta) (c : Cls X.K C) (hm : Meth X.K C m f) (F : FnOk X.prog X.w X.K X.mg X.base CX k f fd ps sp) (hr : Room k X.A) (hb : Binds X.K fd ps ds) (hd : Vals dvs ds) (hx : Passes CX X E)
    (ht : eval (.Call (.Attribute o m apos) [] [] pos) X.env = (do
      let ov ← eval o X.env
      standAt apos.atName
      let (f, first) ← holding [ov] (getMethod ov m pl)
      callWith pos f first (backTo pos (starEach [] X.env)) (backToKw pos (keywordEach [] X.env))) := by rfl) :
    PE X (.Call (.Attribute o m apos) [] [] pos) (tMeth C m sp dvs E ta tNil) := by
  intro pins s σ H Q I h
  refine PySem.W.methodCall_KW (pl := pl) (thn (he pins s σ H _ I h) fun u s1 ⟨x, H1, I1, rx, a, dx, fs, ex, ea, l, q⟩ => ?_) ht
  subst ex
  obtain rfl : u = Value.ref a := rx
  refine getmeth_ok I1 ea c hm l ?_
  exact PySem.W.callWith_K0 (first := [.ref a]) I1.kIn hm.kp (run_fn (us := [.ref a]) (vs := [.ref a]) F hr hb hd hx I1 (.cons rfl .nil) q)

/-- what a class must have to be made -/
structure Mk (K : PySem.W.Frag) (C f : Addr) : Prop where
  makes : PySem.W.makesIn K C = true
  init : PySem.W.findIn K (.ref C) "__init__" = some (some (.ref f))
  fn : PySem.W.isFn K (.ref f) = true
  kp : PySem.W.keepIn K (.ref C) = true

theorem run_make {pins : List (Addr × Obj)} {σ : St} {H : Hp} {s : Shared} {Q : VK} {us : List Value} {vs : List V} (M : Mk X.K C f) (F : FnOk X.prog X.w X.K X.mg X.base CX k f fd ps sp) (hr : Room (k + 1) X.A) (hb : Binds X.K fd ps ds) (hd : Vals dvs ds)
    (hx : Passes CX X E) (I : Inv X pins σ H s) (r : Vals vs us)
    (h : ∀ x dx, H x = none → H dx = none → dx ≠ x → sp (.ref x :: (vs ++ dvs)) (upd (upd H dx (.own x)) x (.ins C dx [])) (fun v H2 => v = .non ∧ Q (.ref x) H2) E) :
    wpAny (model X.prog X.w) X.A (call (.ref C) us) (EP X pins σ Q) X.xe s := by
  have hq := h (s.heap.objs.size + 1) s.heap.objs.size (I.hok.fresh (Nat.le_succ _)) (I.hok.fresh (Nat.le_refl _)) (Nat.ne_of_lt (Nat.lt_succ_self _))
  have I2 := Inv.made (C := C) I
  have r2 : Vals (V.ref (s.heap.objs.size + 1) :: (vs ++ dvs)) (Value.ref (s.heap.objs.size + 1) :: (us ++ ds)) := .cons rfl (r.append hd)
  have hl : (Value.ref (s.heap.objs.size + 1) :: us ++ ds).length = ps.length := by
    have e := r2.length
    rw [F.len _ _ _ _ hq] at e
    exact e.symm
  refine wpAny_call (make_map (f := f) I.kIn M.makes M.init (beq_iff_eq.mp M.fn) (codeAny_mono (F.run _ X.stack _ _ ⟨Value.ref (s.heap.objs.size + 1) :: us, []⟩ (Value.ref (s.heap.objs.size + 1) :: (us ++ ds)) _ _ E (hr.make C us [])
    (I2.env0.make C us []) (hb _ (Value.ref (s.heap.objs.size + 1) :: us) I2.kIn hl) r2 hq) fun r s' hq' => ?_))
  cases r with
  | error e => exact hx pins σ _ _ e s' I2 hq'
  | ok fl =>
    cases fl with
    | ret u =>
      obtain ⟨v, H', I3, rv, ev, q3⟩ := I2.after hq'
      subst ev
      exact ⟨rv, ⟨V.ref (s.heap.objs.size + 1), H', I3, rfl, q3⟩⟩
    | next => exact False.elim hq'
    | brk => exact False.elim hq'
    | cont => exact False.elim hq'
theorem pe_make (M : Mk X.K C f) (F : FnOk X.prog X.w X.K X.mg X.base CX k f fd ps sp) (hr : Room (k + 1) X.A) (hg : Gl X x) (hm : X.mg x = some (.ref C)) (hb : Binds X.K fd ps ds) (hd : Vals dvs ds) (hx : Passes CX X E)
    (ha : PA X (e :: es) t) (hdb : (x == ("__debug__" : Str)) = false := by decide) (he : starEach (e :: es) X.env = (false, eval e X.env) :: starEach es X.env := by rfl) (hpl : (backTo pos (starEach es X.env)).any (·.1) = false := by rfl) :
    PE X (.Call (.Name x p) (e :: es) [] pos) (tMake C sp dvs E t) := by
  intro pins s σ H Q I h
  refine wpAny_Call_Name_kw (ld_glob I hg hm ?_ hdb)
  refine PySem.W.callWith_K (h₀ := X.base) I.ok.mod.kin M.kp (thn (ha pos pins s σ H _ I h) fun us s1 ⟨vs, H1, I1, r, q⟩ => ⟨I1.kIn, ?_⟩) he hpl
  exact run_make M F hr hb hd hx I1 r q
end

/-! ### keywords -/
/-- the values of the keywords, from the left -/
def PK (X : Cx) (kws : List Keyword) (t : TA) : Prop :=
  ∀ (pos : Pos) (pins : List (Addr × Obj)) (s : Shared) (σ : St) (H : Hp) (Q : List V → Hp → Prop), Inv X pins σ H s → t σ H Q → wpAny (model X.prog X.w) X.A (evalAll ((backToKw pos (keywordEach kws X.env)).map (·.2))) (AP X pins σ Q) X.xe s
section
variable {X : Cx} {CX : CXT} {k : Nat} {f C : Addr} {fd : FuncData} {ps ks : List Str} {sp : Sp} {E : XK} {x m : Str} {p pos apos kpos : Pos} {e o : Expr} {es : List Expr} {kws : List Keyword} {te ta : TE} {t tk : TA} {nm : Option Str}
theorem pk_nil : PK X [] tNil := fun _ _ _ _ H Q I h => wpAny_evalAll_nil ⟨[], H, I, .nil, h⟩
theorem pk_cons (ha : PE X e te) (hr : PK X kws t) : PK X (⟨nm, e, kpos⟩ :: kws) (tCons te t) := by
  intro pos pins s σ H Q I h
  show wpAny _ _ (evalAll ((do let v ← eval e X.env; standAt pos; pure v) :: (backToKw pos (keywordEach kws X.env)).map (·.2))) _ _ s
  refine wpAny_evalAll_cons (wpAny_bind (thn (ha pins s σ H _ I h) fun u s1 ⟨x, H1, I1, r1, q1⟩ => wpAny_bind (wpAny_standAt (wpAny_pure ?_))))
  exact thn (hr pos pins s1 σ H1 _ I1 q1) fun us s2 ⟨xs, H2, I2, r2, q2⟩ => ⟨x :: xs, H2, I2, .cons r1 r2, q2⟩

/-- how a call with keywords binds: g puts the positional values us and the keywords' values ws (names ks) in the parameters' order, defaults among them -/
structure KBinds (K : PySem.W.Frag) (fd : FuncData) (ps ks : List Str) (g : List Value → List Value → List Value) (gV : List V → List V → List V) : Prop where
  to : ∀ (s : Shared) (us ws : List Value), K.In s.heap → (g us ws).length = ps.length → BindsTo s fd ⟨us, ks.zip ws⟩ (ps.zip (g us ws))
  rel : ∀ {vs : List V} {us : List Value} {zs : List V} {ws : List Value}, Vals vs us → Vals zs ws → Vals (gV vs zs) (g us ws)
def tCallK (sp : Sp) (gV : List V → List V → List V) (E : XK) (t tk : TA) : TE := fun σ H Q => t σ H fun vs H1 => tk σ H1 fun zs H2 => sp (gV vs zs) H2 Q E
variable {g : List Value → List Value → List Value} {gV : List V → List V → List V}
end

/-! ### a def's body keeps its promise -/
/-- names: the parameters first -/
structure FnScope (N P : List Str) (sc : Scope) : Prop where
  kind : sc.kind = .function
  co : sc.isCoroutine = false
  gen : sc.isGenerator = false
  nd : N.Nodup
  pre : N.take P.length = P
  par : ∀ x ∈ P, sc.names.lookup x = some .local ∨ sc.names.lookup x = some .cell
  nofree : ∀ y ∈ sc.names, y.2 ≠ .free

theorem bindL_out {kindOf : Str → Option NameKind} {x : Str} : ∀ {binds : List (Str × Value)} {m : Str → Option Value}, (∀ v, (x, v) ∉ binds) → bindL kindOf binds m x = m x
  | [], _, _ => rfl
  | (n, v) :: r, m, h => by
    unfold bindL
    rw [bindL_out fun w hw => h w (List.mem_cons_of_mem _ hw)]
    split
    · have : x ≠ n := by rintro rfl; exact h v List.mem_cons_self
      simp [this]
    · rfl
theorem bindC_out {kindOf : Str → Option NameKind} {x : Str} : ∀ {binds : List (Str × Value)} {m : Str → Option Value}, (∀ v, (x, v) ∉ binds) → bindC kindOf binds m x = m x
  | [], _, _ => rfl
  | (n, v) :: r, m, h => by
    unfold bindC
    rw [bindC_out fun w hw => h w (List.mem_cons_of_mem _ hw)]
    split
    · rfl
    · have : x ≠ n := by rintro rfl; exact h v List.mem_cons_self
      simp [this]
theorem bindL_get {kindOf : Str → Option NameKind} {x : Str} {v : Value} : ∀ {P : List Str} {vs : List Value} {i : Nat} {m : Str → Option Value}, P.Nodup → P[i]? = some x → vs[i]? = some v → kindOf x = some .local →
    bindL kindOf (P.zip vs) m x = some v
  | [], _, _, _, _, h, _, _ => by simp at h
  | _ :: _, [], _, _, _, _, h, _ => by simp at h
  | p :: P, w :: vs, 0, m, nd, h1, h2, hk => by
    simp at h1 h2; subst h1; subst h2
    show bindL kindOf ((p, w) :: P.zip vs) m p = _
    unfold bindL
    rw [bindL_out fun v hv => (List.nodup_cons.mp nd).1 (List.of_mem_zip hv).1, if_pos hk]
    simp
  | p :: P, w :: vs, i + 1, m, nd, h1, h2, hk => by
    show bindL kindOf ((p, w) :: P.zip vs) m x = _
    unfold bindL
    exact bindL_get (i := i) (List.nodup_cons.mp nd).2 (by simpa using h1) (by simpa using h2) hk
theorem bindC_get {kindOf : Str → Option NameKind} {x : Str} {v : Value} : ∀ {P : List Str} {vs : List Value} {i : Nat} {m : Str → Option Value}, P.Nodup → P[i]? = some x → vs[i]? = some v → kindOf x ≠ some .local →
    bindC kindOf (P.zip vs) m x = some v
  | [], _, _, _, _, h, _, _ => by simp at h
  | _ :: _, [], _, _, _, _, h, _ => by simp at h
  | p :: P, w :: vs, 0, m, nd, h1, h2, hk => by
    simp at h1 h2; subst h1; subst h2
    show bindC kindOf ((p, w) :: P.zip vs) m p = _
    unfold bindC
    rw [bindC_out fun v hv => (List.nodup_cons.mp nd).1 (List.of_mem_zip hv).1, if_neg hk]
    simp
  | p :: P, w :: vs, i + 1, m, nd, h1, h2, hk => by
    show bindC kindOf ((p, w) :: P.zip vs) m x = _
    unfold bindC
    exact bindC_get (i := i) (List.nodup_cons.mp nd).2 (by simpa using h1) (by simpa using h2) hk

/-- the names' values at the entry -/
def start (N : List Str) (vs : List V) : St := vs.map some ++ List.replicate (N.length - vs.length) none

/-- the context of a def's body, at its entry; an exception leaves the frame, then lies as CX says -/
def cxOf (CX : CXT) (P : Program) (w : World) (K : PySem.W.Frag) (mg : Str → Option Value) (base : Heap) (N : List Str) (qual : Str) (scope : Scope) (f : Addr) (cd : Value) (A : Around) (outer : List Env) (s : Shared) (H : Hp) (E : XK) : Cx where
  prog := P
  w := w
  K := K
  mg := mg
  base := base
  A := A.deeper (envOfC qual scope s.heap.objs.size f cd)
  N := N
  s_0 := s
  H_0 := H
  env := envOfC qual scope s.heap.objs.size f cd
  outer := outer
  stack := envOfC qual scope s.heap.objs.size f cd :: outer
  ex := []
  calm := true
  fn := fun _ => true
  pn := []
  xe := fun e s' => wpAny (model P w) (A.deeper (envOfC qual scope s.heap.objs.size f cd)) (leaving (envOfC qual scope s.heap.objs.size f cd) e) (fun _ s'' => CX outer H s E e s'') (fun e' s'' => CX outer H s E e' s'') s'

theorem cell_has {sc : Scope} {n : Nat} {x : Str} (h : sc.names.lookup x = some .cell) : ∃ c, (cellsFrom n sc.names []).lookup x = some c := by
  have q := PySem.W.cellsFrom_some sc.names n [] (.inl h)
  exact Option.isSome_iff_exists.mp q

theorem inv_start {CX : CXT} {P : Program} {w : World} {K : PySem.W.Frag} {mg : Str → Option Value} {base : Heap} {N ps : List Str} {qual : Str} {scope : Scope} {f : Addr} {cd : Value} {A : Around} {outer : List Env} {s s1 : Shared} {H : Hp} {E : XK} {us : List Value} {vs : List V}
    (S : FnScope N ps scope) (hd : A.handled = none) (e0 : Env0 P w K mg base A outer s H) (hl : vs.length = ps.length) (r : Vals vs us)
    (x : InCallC s s.heap.objs.size (bindL (envOfC qual scope s.heap.objs.size f cd).kindOf (ps.zip us) fun _ => none) (cellsFrom (s.heap.objs.size + 1) scope.names []) (bindC (envOfC qual scope s.heap.objs.size f cd).kindOf (ps.zip us) fun _ => none) s1) :
    Inv (cxOf CX P w K mg base N qual scope f cd A outer s H E) [] (start N vs) H s1 := by
  have hpl : ps.length ≤ N.length := by have := congrArg List.length S.pre; rw [List.length_take] at this; omega
  obtain ⟨h1, tk, rfl, hk⟩ := x.done
  have noA : ∀ b : Addr, b ∉ (cxOf CX P w K mg base N qual scope f cd A outer s H E).ex := fun b z => absurd (show b ∈ ([] : List Addr) from z) (by simp)
  refine ⟨⟨e0.mod, S.kind, rfl, rfl, Nat.le_refl _, fun y z c h1 h2 => ?_, fun y hy => ?_, fun y c _ h => ?_, fun _ => hd, Around.frames_deeper e0.frames, .inr ⟨rfl, rfl⟩, fun b z => absurd z (noA b), e0.bs, e0.bsz, fun b _ _ => noA b, fun b z => absurd z (noA b), e0.funs, e0.frf⟩,
    rfl, e0.bare, Un.kept hk, ⟨_, x.toInCall.ns, fun i y v h1 h2 h3 => ?_⟩, fun y c h => ⟨_, x.cell y c h⟩, e0.hok.fresh (Nat.le_refl _), fun y c h => ?_, fun p hp => absurd (show p ∈ ([] : List (Addr × Obj)) from hp) (by simp), e0.hok.kept hk, ?_⟩
  · exact name_of_addr x.apart (PySem.mem_of_lookup h1) (PySem.mem_of_lookup h2)
  · have hy : scope.names.lookup y = some .cell ∨ scope.names.lookup y = some .free := hy
    rcases hy with hy | hy
    · exact cell_has hy
    · exact absurd rfl (S.nofree _ (PySem.mem_of_lookup hy))
  · exact Nat.le_of_lt (x.above y c (PySem.mem_of_lookup h))
  · have hi : i < vs.length := by
      unfold start at h2
      by_cases hi : i < vs.length
      · exact hi
      · rw [List.getElem?_append_right (by simpa using hi)] at h2
        rw [List.getElem?_replicate] at h2
        split at h2 <;> cases h2
    have ha : vs[i]? = some v := by
      unfold start at h2
      rw [List.getElem?_append_left (by simpa using hi), List.getElem?_map] at h2
      cases e : vs[i]? with
      | none => rw [e] at h2; cases h2
      | some a => rw [e] at h2; cases h2; rfl
    obtain ⟨u, hu, rv⟩ := r.get ha
    have hp : ps[i]? = some y := by
      rw [← S.pre, List.getElem?_take_of_lt (by omega)]; exact h1
    have ndP : ps.Nodup := by rw [← S.pre]; exact S.nd.sublist (List.take_sublist _ _)
    refine ⟨u, rv, ?_⟩
    rcases S.par y (List.mem_of_getElem? hp) with k | k
    · exact .inl ⟨k, bindL_get ndP hp hu k⟩
    · obtain ⟨c, e⟩ := cell_has (n := s.heap.objs.size + 1) k
      refine .inr ⟨.inl k, c, e, ?_⟩
      have q := x.cell y c e
      rw [bindC_get ndP hp hu (by show scope.names.lookup y ≠ _; rw [k]; decide)] at q
      exact q
  · exact e0.hok.fresh (Nat.le_of_lt (x.above y c (PySem.mem_of_lookup h)))
  · unfold start
    show _ = N.length
    rw [List.length_append, List.length_map, List.length_replicate]
    omega

/-- THE RULE: a def (or a method) of the text, by its body. The body's reading t is chosen for each entry; it is run at the parameters' values -/
theorem fn_of {CX : CXT} {P : Program} {w : World} {K : PySem.W.Frag} {mg : Str → Option Value} {base : Heap} {k : Nat} {f : Addr} {name qual : Str} {params : Arguments} {body : List Stmt} {scope : Scope} {dV kV doc pm cdv ct oc : Value} {an od : Option Addr}
    {osl : Array (Option Value)} {N ps : List Str} {sp : Sp} (lk : K.lookup f = some ⟨oc, od, .func (PySem.W.fnOf name qual params body scope dV kV doc pm an cdv ct), osl⟩) (hcd : PySem.W.codeIn K cdv qual = true) (S : FnScope N ps scope)
    (len : ∀ vs H Q E, sp vs H Q E → vs.length = ps.length)
    (hbody : ∀ (A : Around) (outer : List Env) (s : Shared) (H : Hp) (vs : List V) (Q : VK) (E : XK), Room k (A.deeper (envOfC qual scope s.heap.objs.size f cdv)) → sp vs H Q E →
      ∃ t, PSs (cxOf CX P w K mg base N qual scope f cdv A outer s H E) body t ∧ t { nx := fun _ H' => Q .non H', rt := Q } (start N vs) H) :
    FnOk P w K mg base CX (k + 1) f (PySem.W.fnOf name qual params body scope dV kV doc pm an cdv ct) ps sp := by
  refine ⟨len, fun A outer s H args us vs Q E hr e0 hb r hsp => ?_⟩
  have hl := len _ _ _ _ hsp
  have KX : K.In s.heap := e0.mod.kin.keeps fun b o e => (e0.bs b o e).1
  have lim : s.heap.NoLimit := e0.mod.nolimit.keeps fun b o e => (e0.bs b o e).1
  have hkind : ∀ y ∈ ps.zip us, scope.names.lookup y.1 = some .local ∨ (scope.names.lookup y.1 = some .cell ∧ ((cellsFrom (s.heap.objs.size + 1) scope.names []).lookup y.1).isSome = true) := fun ⟨n, v⟩ hy => by
    rcases S.par n (List.of_mem_zip hy).1 with q | q
    · exact .inl q
    · exact .inr ⟨q, PySem.W.cellsFrom_some _ _ _ (.inl q)⟩
  refine codeAny_call_function hr.depth (KX _ _ lk) rfl S.co S.gen rfl (PySem.W.codeRec_of KX hcd) (hb _ _ _ _ ?_)
  refine wpAny_newFunctionEnv_cells S.kind hkind fun env he s1 x => ?_
  subst he
  refine ⟨lim.keeps x.toInCall.keep, codeAny_func ?_⟩
  obtain ⟨t, ht, hq⟩ := hbody A outer s H vs Q E (hr.deeper _) hsp
  have I : Inv (cxOf CX P w K mg base N qual scope f cdv A outer s H E) [] (start N vs) H s1 := inv_start S hr.hd e0 hl r x
  refine wpAny_mono (ht [] s1 (start N vs) H _ I hq) (fun fl s' hs => ?_) fun e s' hs => hs
  have fin : ∀ {σ' : St} {H' : Hp} {v : V} {u : Value}, Inv (cxOf CX P w K mg base N qual scope f cdv A outer s H E) [] σ' H' s' → RelV v u → Q v H' → CE outer P w H s Q u s' :=
    fun {σ' H' v u} J rv q => ⟨v, H', J.os, J.bare, J.base, J.hok, rv, q⟩
  cases fl with
  | ret u =>
    obtain ⟨v, σ', H', J, rv, q⟩ := hs
    exact fin J rv q
  | next =>
    obtain ⟨σ', H', J, q⟩ := hs
    exact fin (v := V.non) (u := Value.none) J rfl q
  | brk =>
    obtain ⟨_, _, _, q⟩ := hs
    exact False.elim q
  | cont =>
    obtain ⟨_, _, _, q⟩ := hs
    exact False.elim q
end L2

namespace L2
open PySem PySem.Spec PyProof.Rows
section
variable {X : Cx} {x : Str} {p pos : Pos} {e : Expr} {es : List Expr} {t : TA} {id T : String} {r : List V → Hp → VK → Prop}

def tCB (r : List V → Hp → VK → Prop) (t : TA) : TE := fun σ H Q => t σ H fun vs H1 => r vs H1 Q
/-- f(e, ..), f a built-in function -/
theorem pe_callB (hc : CallR X (.builtin id) r) (hg : Gl X x) (hm : X.mg x = none) (hv : bootBuiltins x = some (.builtin id)) (ha : PA X (e :: es) t) (hn : x ≠ "__name__" := by decide) (hdb : (x == ("__debug__" : Str)) = false := by decide)
    (he : starEach (e :: es) X.env = (false, eval e X.env) :: starEach es X.env := by rfl) (hpl : (backTo pos (starEach es X.env)).any (·.1) = false := by rfl) : PE X (.Call (.Name x p) (e :: es) [] pos) (tCB r t) := by
  intro pins s σ H Q I h
  refine wpAny_Call_Name_kw (ld_blt I hg hm hv ?_ hn hdb)
  exact PyProof.Rows.callWith_builtin1 (thn (ha pos pins s σ H _ I h) fun us s1 ⟨vs, H1, I1, r1, q1⟩ => hc pins s1 σ H1 vs us Q I1 r1 q1) he hpl
/-- T(e, ..), T a built-in type -/
theorem pe_callTy (hc : CallR X (.type T) r) (hg : Gl X x) (hm : X.mg x = none) (hv : bootBuiltins x = some (.type T)) (ha : PA X (e :: es) t) (hn : x ≠ "__name__" := by decide) (hdb : (x == ("__debug__" : Str)) = false := by decide)
    (he : starEach (e :: es) X.env = (false, eval e X.env) :: starEach es X.env := by rfl) (hpl : (backTo pos (starEach es X.env)).any (·.1) = false := by rfl) : PE X (.Call (.Name x p) (e :: es) [] pos) (tCB r t) := by
  intro pins s σ H Q I h
  refine wpAny_Call_Name_kw (ld_blt I hg hm hv ?_ hn hdb)
  exact PyProof.Rows.callWith_type1 (thn (ha pos pins s σ H _ I h) fun us s1 ⟨vs, H1, I1, r1, q1⟩ => hc pins s1 σ H1 vs us Q I1 r1 q1) he hpl
end
end L2

namespace HT
open PySem PyProof.Rows

/-- t < u of tuples of ints -/
def lexLt : List Int → List Int → Bool
  | [], [] => false
  | [], _ :: _ => true
  | _ :: _, [] => false
  | x :: xs, y :: ys => if x = y then lexLt xs ys else decide (x < y)


section
open PySem.SeqAt
open PySem.AutoSeq1 (wpAny_loadPart')
open PySem.MeetsSeq PySem.MeetsSeq2 PySem.MeetsSeq3

end

section
variable {prog : Program} {w : World} {A : Around} {E : Value → Shared → Prop} {s : Shared}



/-! ### t[a:b], not the whole -/
/-- a slice's bound as a place among n (d where it is left out) -/
def sIx (n d : Nat) : Option Int → Nat
  | none => d
  | some v => if v < 0 then (v + (n : Int)).toNat else min v.toNat n

end
end HT

namespace L2
open PySem PySem.Spec PyProof.Rows

/-! ### the parts of a slice -/
abbrev TO := St → Hp → (Option Int → Hp → Prop) → Prop
/-- a slice's part (left out, or an int) -/
def PO (X : Cx) (e : Option Expr) (t : TO) : Prop :=
  ∀ (pins : List (Addr × Obj)) (s : Shared) (σ : St) (H : Hp) (Q : Option Int → Hp → Prop), Inv X pins σ H s → t σ H Q →
    wpAny (model X.prog X.w) X.A (evalPart e X.env) (fun u s' => ∃ o H', Inv X pins σ H' s' ∧ IsPart u o ∧ Q o H') X.xe s
def tNoPart : TO := fun _ H Q => Q none H
def tPart (t : TE) : TO := fun σ H Q => t σ H fun x H1 => ∃ i, x = .int i ∧ Q (some i) H1


section
variable {X : Cx} {e : Expr} {te : TE} {lo hi : Option Expr} {tl th : TO} {pos p2 : Pos}

theorem po_some (h : PE X e te) : PO X (some e) (tPart te) := by
  intro pins s σ H Q I hw
  rw [evalPart_some]
  refine thn (h pins s σ H _ I hw) fun u s1 ⟨x, H1, I1, r1, q1⟩ => ?_
  obtain ⟨i, rfl, q⟩ := q1
  obtain ⟨t, rfl⟩ := r1
  exact ⟨some i, H1, I1, .int i t, q⟩

/-- what a slice of a value is, by values: the slice object stands at sl -/
def SlR (X : Cx) (r : V → Option Int → Option Int → Hp → VK → Prop) : Prop :=
  ∀ (pins : List (Addr × Obj)) (s : Shared) (σ : St) (H : Hp) (x : V) (v vl vu : Value) (lo hi : Option Int) (sl : Addr) (Q : VK), Inv X pins σ H s → RelV x v → s.heap.IsSliceOf sl vl vu .none → IsPart vl lo → IsPart vu hi → r x lo hi H Q →
    ∃ T id, typeLookup (.type T) "__getitem__" = pure (some (.builtin id)) ∧ s.TypeIs v T ∧ wpAny (model X.prog X.w) X.A (getItem v (.ref sl)) (EP X pins σ Q) X.xe s
theorem SlR.or {r r' : V → Option Int → Option Int → Hp → VK → Prop} (h : SlR X r) (h' : SlR X r') : SlR X (fun x lo hi H Q => r x lo hi H Q ∨ r' x lo hi H Q) := by
  intro pins s σ H x v vl vu lo hi sl Q I rx hs pl pu q
  rcases q with q | q
  · exact h pins s σ H x v vl vu lo hi sl Q I rx hs pl pu q
  · exact h' pins s σ H x v vl vu lo hi sl Q I rx hs pl pu q
def tSl (r : V → Option Int → Option Int → Hp → VK → Prop) (te : TE) (tl th : TO) : TE := fun σ H Q => te σ H fun x H1 => tl σ H1 fun l H2 => th σ H2 fun u H3 => r x l u H3 Q

/-- the items of xs[lo:hi] -/
def cutV (xs : List V) (lo hi : Option Int) : List V := (xs.drop (HT.sIx xs.length 0 lo)).take (HT.sIx xs.length xs.length hi - HT.sIx xs.length 0 lo)
/-- t[lo:hi], not the whole of it (the whole would be t itself) -/
def rSlT (K : PySem.W.Frag) : V → Option Int → Option Int → Hp → VK → Prop := fun x lo hi H Q => ∃ a xs, x = .ref a ∧ SqT K H a xs ∧
  ¬ (HT.sIx xs.length 0 lo = 0 ∧ HT.sIx xs.length xs.length hi = xs.length) ∧ ∀ p, H p = none → Q (.ref p) (upd H p (.tup (cutV xs lo hi)))

/-! ### t < u, t + u -/
def rLtT (K : PySem.W.Frag) : R2 := fun x y H Q => ∃ a b ns ms, x = .ref a ∧ y = .ref b ∧ SqT K H a (ns.map V.int) ∧ SqT K H b (ms.map V.int) ∧ Q (.bl (HT.lexLt ns ms)) H
/-- t + u, t not empty: u empty gives t itself -/
def rCatT (K : PySem.W.Frag) : R2 := fun x y H Q => ∃ a b xs ys, x = .ref a ∧ y = .ref b ∧ SqT K H a xs ∧ SqT K H b ys ∧ xs ≠ [] ∧ xs.length + ys.length ≤ sizeLine ∧
  (ys = [] → Q (.ref a) H) ∧ (ys ≠ [] → ∀ p, H p = none → Q (.ref p) (upd H p (.tup (xs ++ ys))))
end
end L2

namespace L2
open PySem PySem.Spec PyProof.Rows

/-! ### places -/
/-- the place that an index of any sign means -/
def ixN (n : Nat) (i : Int) : Option Nat := if 0 ≤ i then (if i < n then some i.toNat else none) else if -(n : Int) ≤ i then some (i + n).toNat else none
def atI {α : Type} (xs : List α) (i : Int) : Option α := (ixN xs.length i).bind fun j => xs[j]?
theorem ixN_seq {n : Nat} {i : Int} {j : Nat} (h : ixN n i = some j) : seqIndex? i n = some j ∧ j < n ∧ -(n : Int) ≤ i ∧ i < n := by
  unfold ixN at h
  by_cases h0 : 0 ≤ i
  · rw [if_pos h0] at h
    by_cases h1 : i < n
    · rw [if_pos h1] at h
      have e : i.toNat = j := Option.some.inj h
      exact ⟨by rw [seqIndex_of h0 h1, e], by omega, by omega, h1⟩
    · rw [if_neg h1] at h; cases h
  · rw [if_neg h0] at h
    by_cases h1 : -(n : Int) ≤ i
    · rw [if_pos h1] at h
      have e : (i + n).toNat = j := Option.some.inj h
      exact ⟨by rw [seqIndex_neg (by omega) h1, e], by omega, h1, by omega⟩
    · rw [if_neg h1] at h; cases h
theorem atI_get {α : Type} {xs : List α} {i : Int} {v : α} (h : atI xs i = some v) : ∃ j, seqIndex? i xs.length = some j ∧ xs[j]? = some v ∧ j < xs.length ∧ -(xs.length : Int) ≤ i ∧ i < xs.length := by
  unfold atI at h
  cases e : ixN xs.length i with
  | none => rw [e] at h; cases h
  | some j =>
    rw [e] at h
    obtain ⟨h1, h2, h3, h4⟩ := ixN_seq e
    exact ⟨j, h1, h, h2, h3, h4⟩
theorem atI_nat {α : Type} {xs : List α} {j : Nat} {v : α} (h : xs[j]? = some v) : atI xs (j : Int) = some v := by
  have hj : j < xs.length := (List.getElem?_eq_some_iff.mp h).1
  have e : ixN xs.length (j : Int) = some j := by
    unfold ixN
    rw [if_pos (by omega), if_pos (by omega)]; simp
  unfold atI; rw [e]; exact h

/-! ### what may be subscripted -/
/-- what stands as an index of a plain subscript -/
def PlainIx (b : Expr) : Prop := ∀ o i, subscripted b false o i = operate [o, i] (getItem o i)
/-- a subscript by values -/
def IxR (X : Cx) (r : R2) : Prop :=
  ∀ (value slice : Expr) (pins : List (Addr × Obj)) (s : Shared) (σ : St) (H : Hp) (x y : V) (v u : Value) (Q : VK), Inv X pins σ H s → RelV x v → RelV y u → r x y H Q →
    subscripted slice false v u = operate [v, u] (getItem v u) → wpAny (model X.prog X.w) X.A (subscriptTail value slice v u) (EP X pins σ Q) X.xe s
/-- a call of a builtin's method by values: the receiver, the arguments -/
def MtR (X : Cx) (id : String) (r : V → List V → Hp → VK → Prop) : Prop :=
  ∀ (pins : List (Addr × Obj)) (s : Shared) (σ : St) (H : Hp) (x : V) (xs : List V) (v : Value) (us : List Value) (Q : VK), Inv X pins σ H s → RelV x v → Vals xs us → r x xs H Q →
    wpAny (model X.prog X.w) X.A (call (.builtin id) (v :: us)) (EP X pins σ Q) X.xe s
section
variable {X : Cx} {a b : Expr} {ta tb : TE} {pos : Pos}
theorem IxR.or {r r' : R2} (h : IxR X r) (h' : IxR X r') : IxR X (fun x y H Q => r x y H Q ∨ r' x y H Q) := by
  intro value slice pins s σ H x y v u Q I rx ry q hs
  rcases q with q | q
  · exact h value slice pins s σ H x y v u Q I rx ry q hs
  · exact h' value slice pins s σ H x y v u Q I rx ry q hs
theorem MtR.or {id : String} {r r' : V → List V → Hp → VK → Prop} (h : MtR X id r) (h' : MtR X id r') : MtR X id (fun x xs H Q => r x xs H Q ∨ r' x xs H Q) := by
  intro pins s σ H x xs v us Q I rx rs q
  rcases q with q | q
  · exact h pins s σ H x xs v us Q I rx rs q
  · exact h' pins s σ H x xs v us Q I rx rs q
/-- a[b] -/
theorem pe_ix {r : R2} (hr : IxR X r) (ha : PE X a ta) (hb : PE X b tb) (hs : PlainIx b) : PE X (.Subscript a b pos) (tOp r ta tb) := by
  intro pins s σ H Q I h
  exact Subscript_ (binT ha hb I h fun v u s2 x y H2 I2 rx ry q => hr a b pins s2 σ H2 x y v u Q I2 rx ry q (hs _ _))

def rIxL (K : PySem.W.Frag) : R2 := fun x y H Q => ∃ p xs i v, x = .ref p ∧ y = .int i ∧ SqL K H p xs ∧ atI xs i = some v ∧ Q v H
def rIxT (K : PySem.W.Frag) : R2 := fun x y H Q => ∃ p xs i v, x = .ref p ∧ y = .int i ∧ SqT K H p xs ∧ atI xs i = some v ∧ Q v H
def rIxS : R2 := fun x y H Q => ∃ z i c, x = .str z ∧ y = .int i ∧ z.length ≤ sizeLine ∧ atI z.cps.toList i = some c ∧ Q (.str ⟨#[c]⟩) H
theorem ix_list : IxR X (rIxL X.K) := by
  intro value slice pins s σ H x y v u Q I rx ry h hs
  obtain ⟨p, xs, i, z, rfl, rfl, hq, he, q⟩ := h
  cases rx
  obtain ⟨t, rfl⟩ := ry
  obtain ⟨its, r, pl, hz⟩ := I.list hq
  obtain ⟨j, h1, h2, h3, h4, h5⟩ := atI_get he
  obtain ⟨w, ew, rw'⟩ := r.get h2
  have hl := r.length
  have hn := line63
  have fin : EP X pins σ Q w s := ⟨z, H, I, rw', q⟩
  by_cases h0 : 0 ≤ i
  · have hj : i.toNat = j := by
      rw [seqIndex_of h0 h5] at h1
      exact Option.some.inj h1
    exact item_listR pl.isList h0 (by omega) (by rw [hj]; simpa using ew) fin hs
  · have hj : (i + (its.toArray.size : Int)).toNat = j := by
      rw [seqIndex_neg (by omega) h4] at h1
      rw [List.size_toArray, ← hl]
      exact Option.some.inj h1
    exact subscriptTail_builtinR (x := w) pl.isList.typeIs slot_list_getitem.lookup
      (wpAny_getItem_list_neg (Q := fun r s' => r = w ∧ EP X pins σ Q r s') pl.isList (by omega) (by rw [List.size_toArray] <;> omega) (by omega) (by rw [hj]; simpa using ew) ⟨rfl, fin⟩) hs
theorem ix_tup : IxR X (rIxT X.K) := by
  intro value slice pins s σ H x y v u Q I rx ry h hs
  obtain ⟨p, xs, i, z, rfl, rfl, hq, he, q⟩ := h
  cases rx
  obtain ⟨t, rfl⟩ := ry
  obtain ⟨its, r, pl, hz⟩ := I.tuple hq
  obtain ⟨j, h1, h2, h3, h4, h5⟩ := atI_get he
  obtain ⟨w, ew, rw'⟩ := r.get h2
  have hl := r.length
  have hn := line63
  have fin : EP X pins σ Q w s := ⟨z, H, I, rw', q⟩
  exact subscriptTail_builtinR (x := w) pl.typeIs slot_tuple_getitem.lookup
    (getItem_tuple (j := j) (Q := fun r s' => r = w ∧ EP X pins σ Q r s') pl (by omega) (by omega) (by rw [List.size_toArray, ← hl]; exact h1) (by simpa using ew) ⟨rfl, fin⟩) hs
theorem ix_str : IxR X rIxS := by
  intro value slice pins s σ H x y v u Q I rx ry h hs
  obtain ⟨z, i, c, rfl, rfl, hz, he, q⟩ := h
  obtain ⟨t, rfl⟩ := rx
  obtain ⟨t', rfl⟩ := ry
  obtain ⟨j, h1, h2, h3, h4, h5⟩ := atI_get he
  have hl : z.cps.toList.length = z.length := by simp [Str.length]
  rw [hl] at h1 h4 h5
  have hn := line63
  exact tail_any (typeIs_str s z t) slot_str_getitem.lookup (getItem_str (c := c) (by
    have e1 : decide (i < -(2 ^ 63 : Int)) = false := decide_eq_false (by omega)
    have e2 : decide (i ≥ 2 ^ 63) = false := decide_eq_false (by omega)
    rw [e1, e2, Bool.or_false]) (by rw [h1]; simpa using h2) ⟨.str ⟨#[c]⟩, H, I.tok _, ⟨_, rfl⟩, q⟩) hs
/-- list, tuple or str -/
def rIx (K : PySem.W.Frag) : R2 := fun x y H Q => rIxL K x y H Q ∨ rIxT K x y H Q ∨ rIxS x y H Q

/-! ### xs[i] = v, any sign -/
/-- the list's object behind a store -/
theorem mapSeq_set (its : List Value) (n j : Nat) (u : Value) : Obj.mapSeq (·.setIfInBounds j u) { cls := .type "list", data := .seq its.toArray n } = { cls := .type "list", data := .seq (its.set j u).toArray n } := by
  simp [Obj.mapSeq]
theorem Inv.lst {pins : List (Addr × Obj)} {σ : St} {H : Hp} {s : Shared} {p : Addr} {xs : List V} (I : Inv X pins σ H s) (h : H p = some (.lst xs)) :
    ∃ (its : List Value) (n : Nat), Vals xs its ∧ s.heap.get? p = some { cls := .type "list", data := .seq its.toArray n } ∧ xs.length ≤ sizeLine := by
  obtain ⟨z, its, n, r, e⟩ := I.hok p _ h
  exact ⟨its, n, r, e, z⟩
/-- the list at p is written by an update of its object -/
theorem Inv.lstUpd {pins : List (Addr × Obj)} {σ : St} {H : Hp} {s : Shared} {p : Addr} {xs ys : List V} {its its' : List Value} {n n' : Nat} {f : Obj → Obj} (I : Inv X pins σ H s) (h : H p = some (.lst xs))
    (ho : s.heap.get? p = some { cls := .type "list", data := .seq its.toArray n }) (hf : f { cls := .type "list", data := .seq its.toArray n } = { cls := .type "list", data := .seq its'.toArray n' }) (r : Vals ys its') (hz : ys.length ≤ sizeLine) (t : Nat) :
    Inv X pins σ (upd H p (.lst ys)) { s with heap := s.heap.update p f, toks := t } := by
  have e : (s.heap.update p f).get? p = some { cls := .type "list", data := .seq its'.toArray n' } := by
    rw [Heap.get?_update_self f ho (by rw [hf] <;> rfl), hf]
  refine I.write (x := p) (e := p) (by rw [h]; trivial) (.inl rfl) (fun b u hb q => (Heap.get?_update_other _ _ (Ne.symm hb)).trans q) ⟨_, e⟩ ?_
  exact ⟨hz, its', n', r, e⟩
def rSetL : V → V → V → Hp → (Hp → Prop) → Prop := fun o i v H Q => ∃ p xs k j, o = .ref p ∧ i = .int k ∧ H p = some (.lst xs) ∧ ixN xs.length k = some j ∧ Q (upd H p (.lst (xs.set j v)))
theorem set_list : PSet X rSetL := by
  intro pins s σ H o i v ov iv u Q I ro ri rv h
  obtain ⟨p, xs, k, j, rfl, rfl, hp, hj, q⟩ := h
  cases ro
  obtain ⟨t, rfl⟩ := ri
  obtain ⟨its, n, r, ho, hz⟩ := I.lst hp
  obtain ⟨h1, h2, h3, h4⟩ := ixN_seq hj
  have hl := r.length
  have hn := line63
  have I' : Inv X pins σ (upd H p (.lst (xs.set j v))) { s with heap := s.heap.update p (Obj.mapSeq (·.setIfInBounds j u)) } :=
    I.lstUpd hp ho (mapSeq_set its n j u) (r.set rv j) (by rw [List.length_set]; exact hz) s.toks
  by_cases h0 : 0 ≤ k
  · have hk : k.toNat = j := by
      rw [seqIndex_of h0 h4] at h1
      exact Option.some.inj h1
    exact PySem.W.ki_setAt ho h0 (by omega) (by rw [List.size_toArray, ← hl]; exact h4) (by rw [hk]; exact ⟨_, I', q⟩)
  · have hk : (k + (its.toArray.size : Int)).toNat = j := by
      rw [seqIndex_neg (by omega) h3] at h1
      rw [List.size_toArray, ← hl]
      exact Option.some.inj h1
    exact PySem.W.ki_setBack ho (by omega) (by rw [List.size_toArray, ← hl]; exact h3) (by omega) (by rw [hk]; exact ⟨_, I', q⟩)

/-! ### slices -/
/-- xs[lo:hi] of a list: a new list -/
def rSlL (K : PySem.W.Frag) : V → Option Int → Option Int → Hp → VK → Prop := fun x lo hi H Q => ∃ a xs, x = .ref a ∧ SqL K H a xs ∧ ∀ p, H p = none → Q (.ref p) (upd H p (.lst (cutV xs lo hi)))

/-! ### in, not in: flat items -/
def flatV : V → Bool
  | .non => true
  | .bl _ => true
  | .int _ => true
  | .str _ => true
  | _ => false
/-- == of flat values -/
def eqV : V → V → Bool
  | .non, .non => true
  | .bl a, .bl b => a == b
  | .bl a, .int b => (if a then 1 else 0) == b
  | .int a, .bl b => a == (if b then 1 else 0)
  | .int a, .int b => a == b
  | .str a, .str b => a == b
  | _, _ => false
theorem eqAt_V {A : Around} {s : Shared} {y x : V} {u v : Value} (ry : RelV y u) (rx : RelV x v) (fy : flatV y = true) (fx : flatV x = true) : SeqAt.EqAt A s u v (eqV y x) := by
  cases y with
  | non =>
    cases ry
    cases x with
    | non => cases rx; exact SeqAt.EqAt.same _
    | bl b => cases rx; exact SeqAt.EqAt.none_bool b
    | int b => obtain ⟨t, rfl⟩ := rx; exact SeqAt.EqAt.none_int b t
    | str b => obtain ⟨t, rfl⟩ := rx; exact SeqAt.EqAt.none_str b t
    | _ => exact absurd (show false = true from fx) Bool.false_ne_true
  | bl a =>
    cases ry
    cases x with
    | non => cases rx; exact SeqAt.EqAt.bool_none a
    | bl b => cases rx; exact SeqAt.EqAt.bool_bool a b
    | int b => obtain ⟨t, rfl⟩ := rx; exact SeqAt.EqAt.bool_int a b t
    | str b => obtain ⟨t, rfl⟩ := rx; exact SeqAt.EqAt.bool_str a b t
    | _ => exact absurd (show false = true from fx) Bool.false_ne_true
  | int a =>
    obtain ⟨t', rfl⟩ := ry
    cases x with
    | non => cases rx; exact SeqAt.EqAt.int_none a t'
    | bl b => cases rx; exact SeqAt.EqAt.int_bool a t' b
    | int b => obtain ⟨t, rfl⟩ := rx; exact SeqAt.EqAt.int_int a t' b t
    | str b => obtain ⟨t, rfl⟩ := rx; exact SeqAt.EqAt.int_str a t' b t
    | _ => exact absurd (show false = true from fx) Bool.false_ne_true
  | str a =>
    obtain ⟨t', rfl⟩ := ry
    cases x with
    | non => cases rx; exact SeqAt.EqAt.str_none a t'
    | bl b => cases rx; exact SeqAt.EqAt.str_bool a t' b
    | int b => obtain ⟨t, rfl⟩ := rx; exact SeqAt.EqAt.str_int a t' b t
    | str b => obtain ⟨t, rfl⟩ := rx; exact SeqAt.EqAt.str_str a t' b t
    | _ => exact absurd (show false = true from fx) Bool.false_ne_true
  | _ => exact absurd (show false = true from fy) Bool.false_ne_true
/-- the items' answers, read off the values (a value's own answer does not lean on its token) -/
def eqU (x : V) (u : Value) : Bool := match u with
  | .none => eqV .non x
  | .bool b => eqV (.bl b) x
  | .int i _ => eqV (.int i) x
  | .str z _ => eqV (.str z) x
  | _ => false
theorem eqU_of {x y : V} {u : Value} (r : RelV y u) (f : flatV y = true) : eqU x u = eqV y x := by
  cases y with
  | non => cases r; rfl
  | bl b => cases r; rfl
  | int i => obtain ⟨t, rfl⟩ := r; rfl
  | str z => obtain ⟨t, rfl⟩ := r; rfl
  | _ => exact absurd (show false = true from f) Bool.false_ne_true
theorem any_eqU {x : V} : ∀ {xs : List V} {us : List Value}, Vals xs us → xs.all flatV = true → us.any (eqU x) = xs.any fun y => eqV y x
  | _, _, .nil, _ => rfl
  | y :: xs, u :: us, .cons r t, f => by
    rw [List.all_cons, Bool.and_eq_true] at f
    rw [List.any_cons, List.any_cons, eqU_of r f.1, any_eqU t f.2]
theorem mem_eqAt {A : Around} {s : Shared} {x : V} {v : Value} (rx : RelV x v) (fx : flatV x = true) : ∀ {xs : List V} {us : List Value}, Vals xs us → xs.all flatV = true → ∀ u ∈ us, SeqAt.EqAt A s u v (eqU x u)
  | _, _, .nil, _ => fun u hu => by cases hu
  | y :: xs, u :: us, .cons r t, f => fun u' hu => by
    rw [List.all_cons, Bool.and_eq_true] at f
    rcases List.mem_cons.mp hu with rfl | hu
    · rw [eqU_of r f.1]; exact eqAt_V r rx f.1 fx
    · exact mem_eqAt rx fx t f.2 u' hu
def inV (x : V) (xs : List V) : Bool := xs.any fun y => eqV y x
/-- x in a list or tuple of flat items -/
def rIn (K : PySem.W.Frag) (neg : Bool) : R2 := fun x y H Q => ∃ p xs, y = .ref p ∧ (SqL K H p xs ∨ SqT K H p xs) ∧ flatV x = true ∧ xs.all flatV = true ∧ Q (.bl (if neg then !inV x xs else inV x xs)) H
theorem op_notIn_seq : OpR X (compareOp .NotIn) (rIn X.K true) := by
  intro pins s σ H x y v u Q I rx ry h
  obtain ⟨p, xs, rfl, hq, fx, fs, q⟩ := h
  cases ry
  rcases hq with hq | hq
  · obtain ⟨its, r, pl, hz⟩ := I.list hq
    refine SeqAt.notIn_listAt (eqU x) pl.isList (fun w hw => mem_eqAt rx fx r fs w (by simpa using hw)) ⟨.bl _, H, I, rfl, ?_⟩
    rw [show its.toArray.any (eqU x) = its.any (eqU x) by simp, any_eqU r fs]
    exact q
  · obtain ⟨its, r, pl, hz⟩ := I.tuple hq
    refine SeqAt.notIn_tupleAt (eqU x) pl (fun w hw => mem_eqAt rx fx r fs w (by simpa using hw)) ⟨.bl _, H, I, rfl, ?_⟩
    rw [show its.toArray.any (eqU x) = its.any (eqU x) by simp, any_eqU r fs]
    exact q

/-! ### len, list(x), tuple(x) of any list or tuple that is read -/
theorem call_len_seq : CallR X (.builtin "len") (fun xs H Q => ∃ p ys, xs = [.ref p] ∧ (SqL X.K H p ys ∨ SqT X.K H p ys) ∧ Q (.int ys.length) H) := by
  intro pins s σ H xs us Q I r h
  obtain ⟨p, ys, rfl, hq, q⟩ := h
  obtain ⟨u, rfl, rx⟩ := vals1 r
  cases rx
  have hn := line63
  rcases hq with hq | hq
  · obtain ⟨its, r', pl, hz⟩ := I.list hq
    have hlen := r'.length
    exact Calls.call_len_list pl.isList (by simp only [List.size_toArray] <;> omega) ⟨.int ys.length, H, I.tok _, ⟨s.toks + 1, by rw [List.size_toArray, hlen]⟩, q⟩
  · obtain ⟨its, r', pl, hz⟩ := I.tuple hq
    have hlen := r'.length
    exact len_tuple pl (by simp only [List.size_toArray] <;> omega) ⟨.int ys.length, H, I.tok _, ⟨s.toks + 1, by rw [List.size_toArray, hlen]⟩, q⟩
theorem call_len_str : CallR X (.builtin "len") (fun xs H Q => ∃ z, xs = [.str z] ∧ z.length ≤ sizeLine ∧ Q (.int z.length) H) := by
  intro pins s σ H xs us Q I r h
  obtain ⟨z, rfl, hz, q⟩ := h
  obtain ⟨u, rfl, t, rfl⟩ := vals1 r
  have hn := line63
  exact len_str (by omega) ⟨.int z.length, H, I.tok _, ⟨_, rfl⟩, q⟩
theorem CallR.or {f : Value} {r r' : List V → Hp → VK → Prop} (h : CallR X f r) (h' : CallR X f r') : CallR X f (fun xs H Q => r xs H Q ∨ r' xs H Q) := by
  intro pins s σ H xs us Q I rs q
  rcases q with q | q
  · exact h pins s σ H xs us Q I rs q
  · exact h' pins s σ H xs us Q I rs q
theorem call_list_of : CallR X (.type "list") (fun xs H Q => ∃ p ys, xs = [.ref p] ∧ (SqL X.K H p ys ∨ SqT X.K H p ys) ∧ ∀ l, H l = none → Q (.ref l) (upd H l (.lst ys))) := by
  intro pins s σ H xs us Q I r h
  obtain ⟨p, ys, rfl, hq, q⟩ := h
  obtain ⟨u, rfl, rx⟩ := vals1 r
  cases rx
  have fin : ∀ (its : List Value), Vals ys its → ys.length ≤ sizeLine → ∀ (h' : Heap) (c' : Nat), (∀ b o', s.heap.get? b = some o' → h'.get? b = some o') →
      h'.get? s.heap.objs.size = some { cls := .type "list", dict := none, data := .seq its.toArray c', slots := #[] } → EP X pins σ Q (.ref s.heap.objs.size) { s with heap := h' } := fun its r' hz h' c' kp e =>
    ⟨.ref s.heap.objs.size, _, I.laid (t' := s.toks) kp (Nat.le_refl _) (show ObjOk X.prog X.w _ h' _ (.lst ys) from ⟨hz, its, c', r', e⟩), rfl, q _ (I.hok.fresh (Nat.le_refl _))⟩
  rcases hq with hq | hq
  · obtain ⟨its, r', pl, hz⟩ := I.list hq
    have hlen := r'.length
    obtain ⟨o, ho, hc, n, hd⟩ := pl.isList
    exact call_list_seq p (.inl rfl) ho hc hd (fun h' c' kp e => fin its r' hz h' c' kp e) (by simp only [List.size_toArray] <;> omega)
  · obtain ⟨its, r', pl, hz⟩ := I.tuple hq
    have hlen := r'.length
    obtain ⟨o, ho, hc, n, hd⟩ := pl
    exact call_list_seq p (.inr rfl) ho hc hd (fun h' c' kp e => fin its r' hz h' c' kp e) (by simp only [List.size_toArray] <;> omega)
theorem call_tuple_of : CallR X (.type "tuple") (fun xs H Q => ∃ p ys, xs = [.ref p] ∧ ((SqL X.K H p ys ∧ ∀ l, H l = none → Q (.ref l) (upd H l (.tup ys))) ∨ (SqT X.K H p ys ∧ Q (.ref p) H))) := by
  intro pins s σ H xs us Q I r h
  obtain ⟨p, ys, rfl, h⟩ := h
  obtain ⟨u, rfl, rx⟩ := vals1 r
  cases rx
  rcases h with ⟨hq, q⟩ | ⟨hq, q⟩
  · obtain ⟨its, r', pl, hz⟩ := I.list hq
    have hlen := r'.length
    refine call_tuple_list pl.isList (fun h' kp => ?_) (by simp only [List.size_toArray] <;> omega)
    have I1 : Inv X pins σ H { s with heap := h' } := I.kept (t' := s.toks) kp
    have I2 : Inv X pins σ (upd H h'.objs.size (.tup ys)) { s with heap := h'.push { cls := .type "tuple", data := .seq its.toArray } } :=
      I1.laid (t' := s.toks) (fun b o e => Heap.get?_push_of_some _ e) (Nat.le_refl _) (show ObjOk X.prog X.w _ _ _ (.tup ys) from ⟨hz, its, r', IsTup.new _ _⟩)
    exact ⟨.ref h'.objs.size, _, I2, rfl, q _ (I1.hok.fresh (Nat.le_refl _))⟩
  · obtain ⟨its, r', pl, hz⟩ := I.tuple hq
    exact call_tuple_same pl ⟨.ref p, H, I, rfl, q⟩

/-! ### the call of a builtin's method: o.m(..) -/
/-- the value is of that builtin type -/
def tyV (K : PySem.W.Frag) (T : String) (x : V) (H : Hp) : Prop := match x with
  | .str _ => T = "str"
  | .int _ => T = "int"
  | .ref p => (T = "list" ∧ ∃ xs, SqL K H p xs) ∨ (T = "tuple" ∧ ∃ o, K.lookup p = some o ∧ o.cls = .type "tuple" ∧ o.dict = none) ∨
      (T = "dict" ∧ ((∃ kvs, H p = some (.dK kvs)) ∨ ∃ kvs, H p = some (.dT kvs))) ∨ (T = "set" ∧ ∃ S n, H p = some (.set S n))
  | _ => False
theorem tyV_is {pins : List (Addr × Obj)} {σ : St} {H : Hp} {s : Shared} {T : String} {x : V} {v : Value} (I : Inv X pins σ H s) (r : RelV x v) (ty : tyV X.K T x H) :
    s.TypeIs v T ∧ ∀ a, v = .ref a → ∃ ob, s.heap.get? a = some ob ∧ ob.dict = none := by
  cases x with
  | str z =>
    obtain ⟨t, rfl⟩ := r
    cases (show T = "str" from ty)
    exact ⟨typeIs_str s z t, fun _ e => nomatch e⟩
  | int i =>
    obtain ⟨t, rfl⟩ := r
    cases (show T = "int" from ty)
    exact ⟨typeIs_int s i t, fun _ e => nomatch e⟩
  | ref p =>
    cases r
    rcases ty with ⟨rfl, xs, hq⟩ | ⟨rfl, o, hk, hc, hd⟩ | ⟨rfl, hk⟩ | ⟨rfl, S, n, hk⟩
    · obtain ⟨its, _, pl, _⟩ := I.list hq
      refine ⟨pl.isList.typeIs, fun a e => ?_⟩
      cases e
      obtain ⟨o, n, e, c, hd, _⟩ := pl
      exact ⟨o, e, hd⟩
    · refine ⟨⟨o, I.kIn p o hk, hc⟩, fun a e => ?_⟩
      cases e
      exact ⟨o, I.kIn _ o hk, hd⟩
    · have z : ∃ o, s.heap.get? p = some o ∧ o.ExactDict := by
        rcases hk with ⟨kvs, hk⟩ | ⟨kvs, hk⟩
        · obtain ⟨_, _, _, _, o, _, _, e, ex, _⟩ := I.hok p _ hk
          exact ⟨o, e, ex⟩
        · obtain ⟨_, _, _, _, o, _, _, e, ex, _⟩ := I.hok p _ hk
          exact ⟨o, e, ex⟩
      obtain ⟨o, e, ex⟩ := z
      refine ⟨⟨o, e, ex.1⟩, fun a e2 => ?_⟩
      cases e2
      exact ⟨o, e, ex.2.1⟩
    · obtain ⟨o, _, _, _, e, ex, _⟩ := I.hok p _ hk
      refine ⟨⟨o, e, ex.1⟩, fun a e2 => ?_⟩
      cases e2
      exact ⟨o, e, ex.2.1⟩
  | _ => exact False.elim ty
def tBM0 (K : PySem.W.Frag) (T : String) (r : V → List V → Hp → VK → Prop) (to : TE) : TE := fun σ H Q => to σ H fun x H1 => tyV K T x H1 ∧ r x [] H1 Q
def tBM (K : PySem.W.Frag) (T : String) (r : V → List V → Hp → VK → Prop) (to : TE) (t : TA) : TE := fun σ H Q => to σ H fun x H1 => tyV K T x H1 ∧ t σ H1 fun xs H2 => r x xs H2 Q
variable {o e : Expr} {es : List Expr} {to : TE} {t : TA} {name : Str} {apos cpos : Pos} {T id : String} {r : V → List V → Hp → VK → Prop}
theorem pe_bm0 (pa : PlainAttrs T) (slot : Slot T name id) (hty : typeOf (.builtin id) = pure (.type "method_descriptor")) (hm : MtR X id r) (ho : PE X o to)
    (hbase : attributeBase o name X.env (eval o X.env) = eval o X.env := by rfl) (hline : (apos.endLine == cpos.line) = true := by rfl) : PE X (.Call (.Attribute o name apos) [] [] cpos) (tBM0 X.K T r to) := by
  intro pins s σ H Q I h
  refine wpAny_Call_method0_late hbase hline (thn (ho pins s σ H _ I h) fun v s1 ⟨x, H1, I1, r1, ty, q1⟩ => ?_)
  obtain ⟨h1, h2⟩ := tyV_is I1 r1 ty
  exact ⟨T, id, pa, slot, hty, h1, h2, Calls.callWith_builtin rfl (PySem.evalArgs_none (hm pins s1 σ H1 x [] v [] Q I1 r1 .nil q1))⟩
theorem pe_bm (pa : PlainAttrs T) (slot : Slot T name id) (hty : typeOf (.builtin id) = pure (.type "method_descriptor")) (hm : MtR X id r) (ho : PE X o to) (ha : PA X (e :: es) t)
    (hbase : attributeBase o name X.env (eval o X.env) = eval o X.env := by rfl)
    (hfew : ((backTo cpos (starEach (e :: es) X.env)).all (fun x => !x.1) && (backToKw cpos (keywordEach [] X.env)).all (fun x => x.1.isSome)
      && decide ((e :: es).length + ([] : List Keyword).length + (if ([] : List Keyword).isEmpty then 0 else 1) < 30)) = true := by rfl)
    (hline : (apos.endLine == cpos.line) = true := by rfl) (hs : starEach (e :: es) X.env = (false, eval e X.env) :: starEach es X.env := by rfl) (hplain : (backTo cpos (starEach es X.env)).any (·.1) = false := by rfl) :
    PE X (.Call (.Attribute o name apos) (e :: es) [] cpos) (tBM X.K T r to t) := by
  intro pins s σ H Q I h
  refine wpAny_Call_method_late hbase hfew hline rfl (thn (ho pins s σ H _ I h) fun v s1 ⟨x, H1, I1, r1, ty, q1⟩ => ?_)
  obtain ⟨h1, h2⟩ := tyV_is I1 r1 ty
  refine ⟨T, id, pa, slot, hty, h1, h2, ?_⟩
  have hA := ha cpos pins s1 σ H1 _ I1 q1
  rw [hs] at hA ⊢
  refine Calls.callWith_builtin (by show (false || (backTo cpos (starEach es X.env)).any (·.1)) = false; rw [hplain] <;> rfl) (Calls.evalArgs_plain ?_)
  exact thn hA fun us s2 ⟨vs, H2, I2, r2, q2⟩ => hm pins s2 σ H2 x vs v us Q I2 r1 r2 q2
/- xs.append(e), list.index on a module's tuple .. are MtR facts of 06m -/
end
end L2

namespace L2
open PySem PySem.Spec PyProof.Rows

def MtM (X : Cx) (id : String) (r : V → List V → Hp → VK → Prop) : Prop :=
  ∀ (pins : List (Addr × Obj)) (s : Shared) (σ : St) (H : Hp) (x : V) (xs : List V) (v : Value) (us : List Value) (Q : VK), Inv X pins σ H s → RelV x v → Vals xs us → r x xs H Q →
    wpAny (model X.prog X.w) X.A (call (.builtin id) (v :: us)) (EP X pins σ Q) X.xe s

/-! ### lists of values -/
theorem Vals.one : ∀ {x : V} {us : List Value}, Vals [x] us → ∃ u, us = [u] ∧ RelV x u
  | _, _, .cons r .nil => ⟨_, rfl, r⟩
theorem Vals.two : ∀ {x y : V} {us : List Value}, Vals [x, y] us → ∃ u v, us = [u, v] ∧ RelV x u ∧ RelV y v
  | _, _, _, .cons r (.cons q .nil) => ⟨_, _, rfl, r, q⟩
theorem Vals.zero : ∀ {us : List Value}, Vals [] us → us = []
  | _, .nil => rfl
theorem Vals.dropLast {xs : List V} {us : List Value} (h : Vals xs us) : Vals xs.dropLast us.dropLast := by
  induction h with
  | nil => exact .nil
  | cons r t ih =>
    cases t with
    | nil => exact .nil
    | cons q t' => exact .cons r ih
theorem Vals.eraseIdx : ∀ {xs : List V} {us : List Value} (i : Nat), Vals xs us → Vals (xs.eraseIdx i) (us.eraseIdx i)
  | _, _, _, .nil => .nil
  | _, _, 0, .cons _ t => t
  | _, _, i + 1, .cons r t => .cons r (Vals.eraseIdx i t)
theorem Vals.reverse {xs : List V} {us : List Value} (h : Vals xs us) : Vals xs.reverse us.reverse := by
  induction h with
  | nil => exact .nil
  | cons r t ih => rw [List.reverse_cons, List.reverse_cons]; exact Vals.append ih (.cons r .nil)

section
variable {X : Cx} {pins : List (Addr × Obj)} {σ : St} {H : Hp} {s : Shared} {l b : Addr} {xs ys zs : List V}

/-! ### the two steps: a tracked list is rewritten, a new list is laid -/
theorem Inv.lset {its its' : List Value} {n : Nat} {f : Array Value → Array Value} {t' : Nat} (I : Inv X pins σ H s) (hH : H l = some (.lst xs))
    (e : s.heap.get? l = some { cls := .type "list", data := .seq its.toArray n }) (hf : f its.toArray = its'.toArray) (hv : Vals ys its') (hz : ys.length ≤ sizeLine) :
    Inv X pins σ (upd H l (.lst ys)) { s with heap := s.heap.update l (Obj.mapSeq f), toks := t' } := by
  have q := PySem.IsL.update e f
  rw [hf] at q
  refine I.write (x := l) (e := l) (by rw [hH]; exact trivial) (.inl rfl) (fun b' u hb hu => (Heap.get?_update_other s.heap (Obj.mapSeq f) (Ne.symm hb)).trans hu) ⟨_, q⟩ ?_
  exact ⟨hz, its', _, hv, q⟩
theorem Inv.lnew {its : List Value} {t' : Nat} (I : Inv X pins σ H s) (hv : Vals ys its) (hz : ys.length ≤ sizeLine) :
    Inv X pins σ (upd H s.heap.objs.size (.lst ys)) { s with heap := s.heap.push { cls := .type "list", data := .seq its.toArray }, toks := t' } :=
  I.laid (fun _ _ q => Heap.get?_push_of_some _ q) (Nat.le_refl _) ⟨hz, its, 0, hv, Heap.get?_push_size _ rfl⟩
theorem Inv.fresh (I : Inv X pins σ H s) : H s.heap.objs.size = none := I.hok.fresh (Nat.le_refl _)
theorem Inv.lstM (I : Inv X pins σ H s) (hH : H l = some (.lst xs)) : xs.length ≤ sizeLine ∧ ∃ (its : List Value) (n : Nat), Vals xs its ∧ xs.length = its.length ∧ s.heap.get? l = some { cls := .type "list", data := .seq its.toArray n } := by
  obtain ⟨z, its, n, r, e⟩ := I.hok l _ hH
  exact ⟨z, its, n, r, r.length, e⟩

end

section
variable {X : Cx}

/-! ### methods -/
def rAppend : V → List V → Hp → VK → Prop := fun x vs H Q => ∃ l xs y, x = .ref l ∧ vs = [y] ∧ H l = some (.lst xs) ∧ xs.length < sizeLine ∧ Q .non (upd H l (.lst (xs ++ [y])))
theorem mt_append : MtM X "list.append" rAppend := by
  intro pins s σ H x vs v us Q I rx rv h
  obtain ⟨l, xs, y, rfl, rfl, hH, hz, q⟩ := h
  cases rx
  obtain ⟨u, rfl, ru⟩ := rv.one
  obtain ⟨z, its, n, r, hl, e⟩ := I.lstM hH
  refine call_meets F.slot_list_append ⟨_, e, rfl⟩ F.entry_list_append (F.args_list_append_2 _ _) (PySem.list_append l its.toArray n u (by rw [List.size_toArray]; omega)) ⟨e, ?_⟩
  refine ⟨.non, _, I.lset (its' := its ++ [u]) hH e (by simp) (r.append (.cons ru .nil)) ?_, rfl, q⟩
  rw [List.length_append, List.length_singleton]
  omega

def rExtend : V → List V → Hp → VK → Prop := fun x vs H Q => ∃ l b xs zs, x = .ref l ∧ vs = [.ref b] ∧ H l = some (.lst xs) ∧ H b = some (.lst zs) ∧ xs.length + zs.length ≤ sizeLine ∧ Q .non (upd H l (.lst (xs ++ zs)))

def rPop : V → List V → Hp → VK → Prop := fun x vs H Q => ∃ l xs y, x = .ref l ∧ vs = [] ∧ H l = some (.lst xs) ∧ xs[xs.length - 1]? = some y ∧ Q y (upd H l (.lst xs.dropLast))

def rPopAt : V → List V → Hp → VK → Prop := fun x vs H Q => ∃ l xs i k y, x = .ref l ∧ vs = [.int i] ∧ H l = some (.lst xs) ∧ -(2 ^ 63) ≤ i ∧ i < 2 ^ 63 ∧ seqIndex? i xs.length = some k ∧ xs[k]? = some y ∧ Q y (upd H l (.lst (xs.eraseIdx k)))

def rReverse : V → List V → Hp → VK → Prop := fun x vs H Q => ∃ l xs, x = .ref l ∧ vs = [] ∧ H l = some (.lst xs) ∧ Q .non (upd H l (.lst xs.reverse))

def rClear : V → List V → Hp → VK → Prop := fun x vs H Q => ∃ l xs, x = .ref l ∧ vs = [] ∧ H l = some (.lst xs) ∧ Q .non (upd H l (.lst []))

/-! ### list + list, list += list, list * int -/
def rCat : R2 := fun x y H Q => ∃ l b xs zs, x = .ref l ∧ y = .ref b ∧ H l = some (.lst xs) ∧ H b = some (.lst zs) ∧ xs.length + zs.length ≤ sizeLine ∧ ∀ p, H p = none → Q (.ref p) (upd H p (.lst (xs ++ zs)))
theorem op_cat : OpR X (binaryOp .Add) rCat := by
  intro pins s σ H x y v u Q I rx ry h
  obtain ⟨l, b, xs, zs, rfl, rfl, hH, hB, hz, q⟩ := h
  cases rx
  cases ry
  obtain ⟨z, its, n, r, hl, e⟩ := I.lstM hH
  obtain ⟨z2, its2, n2, r2, hl2, e2⟩ := I.lstM hB
  refine PySem.P.add_list e e2 ?_ (by rw [List.size_toArray, List.size_toArray]; omega)
  have ea : its.toArray ++ its2.toArray = (its ++ its2).toArray := by simp
  rw [ea]
  exact ⟨.ref _, _, I.lnew (t' := s.toks) (r.append r2) (by rw [List.length_append]; omega), rfl, q _ I.fresh⟩
/-- a list times an int (a negative one is nothing) -/
def rRep : R2 := fun x y H Q => ∃ l k xs, x = .ref l ∧ y = .int k ∧ H l = some (.lst xs) ∧ -(2 ^ 63) ≤ k ∧ k < 2 ^ 63 ∧ xs.length * k.toNat ≤ sizeLine ∧
  ∀ p, H p = none → Q (.ref p) (upd H p (.lst (List.replicate k.toNat xs).flatten))

/-! ### del xs[i] -/
end

/-! ### xs[a:b] = ys -/
section
variable {prog : Program} {w : World} {A : Around} {E : Value → Shared → Prop} {s : Shared}
end

section
variable {X : Cx}
end
end L2

namespace L2
open PySem PySem.Spec PyProof.Rows

theorem Vals.ints : ∀ {ns : List Int} {us : List Value}, Vals (ns.map V.int) us → IntsAre us ns
  | [], us, h => by
    rw [List.map_nil] at h
    cases h
    exact IntsAre.nil
  | n :: ns, us, h => by
    rw [List.map_cons] at h
    cases h with
    | cons r t =>
      obtain ⟨k, rfl⟩ := r
      exact IntsAre.cons n k (Vals.ints t)
theorem Vals.strs : ∀ {xs : List Str} {us : List Value}, Vals (xs.map V.str) us → StrsAre us xs
  | [], us, h => by
    rw [List.map_nil] at h
    cases h
    exact StrsAre.nil
  | x :: xs, us, h => by
    rw [List.map_cons] at h
    cases h with
    | cons r t =>
      obtain ⟨k, rfl⟩ := r
      exact StrsAre.cons x k (Vals.strs t)
theorem vals_of_strs : ∀ {us : List Value} {xs : List Str}, StrsAre us xs → Vals (xs.map V.str) us
  | _, _, .nil => by rw [List.map_nil]; exact Paired.nil
  | _, _, .cons x t h => by rw [List.map_cons]; exact Paired.cons (show RelV (V.str x) (Value.str x t) from ⟨t, rfl⟩) (vals_of_strs h)
theorem Vals.bls : ∀ {bs : List Bool} {us : List Value}, Vals (bs.map V.bl) us → us = bs.map Value.bool
  | [], us, h => by
    rw [List.map_nil] at h
    cases h
    rfl
  | b :: bs, us, h => by
    rw [List.map_cons] at h
    cases h with
    | cons r t =>
      cases r
      rw [Vals.bls t, List.map_cons]
theorem Vals.ref1 {a : Addr} {us : List Value} (r : Vals [V.ref a] us) : us = [Value.ref a] := by
  cases r with
  | cons r t =>
    cases t
    cases r
    rfl

/-! ### the library's walks over a list of ints, kept objects alone -/
section
variable {prog : Program} {w : World} {A : Around} {E : Value → Shared → Prop} {s : Shared} {l : Addr} {its : List Value} {ns : List Int} {Q : Value → Shared → Prop}
end

/-! ### the calls, by values (CallR of 03t; MtR of 06l) -/
section
variable {X : Cx}
/-- sum(xs) of a list of ints -/
def rSum (K : PySem.W.Frag) : List V → Hp → VK → Prop := fun vs H Q => ∃ (a : Addr) (ns : List Int), vs = [V.ref a] ∧ SqL K H a (ns.map V.int) ∧ Q (.int ns.sum) H
/-- max(xs), min(xs) of a list of ints -/
def rMax (K : PySem.W.Frag) : List V → Hp → VK → Prop := fun vs H Q => ∃ (a : Addr) (ns : List Int), vs = [V.ref a] ∧ SqL K H a (ns.map V.int) ∧ 0 < ns.length ∧ ∀ m, m ∈ ns → (∀ y, y ∈ ns → y ≤ m) → Q (.int m) H
def rMin (K : PySem.W.Frag) : List V → Hp → VK → Prop := fun vs H Q => ∃ (a : Addr) (ns : List Int), vs = [V.ref a] ∧ SqL K H a (ns.map V.int) ∧ 0 < ns.length ∧ ∀ m, m ∈ ns → (∀ y, y ∈ ns → m ≤ y) → Q (.int m) H

/-! sorted, sort (fewer than 64 items: the library's own bound) -/
def rSorted (K : PySem.W.Frag) : List V → Hp → VK → Prop := fun vs H Q => ∃ (a : Addr) (ns : List Int), vs = [V.ref a] ∧ SqL K H a (ns.map V.int) ∧ ns.length < 64 ∧
  ∀ (ns' : List Int) (p : Addr), ns'.Perm ns → ns'.Pairwise (· ≤ ·) → H p = none → Q (.ref p) (upd H p (.lst (ns'.map V.int)))
def rSortedS (K : PySem.W.Frag) : List V → Hp → VK → Prop := fun vs H Q => ∃ (a : Addr) (xs : List Str), vs = [V.ref a] ∧ SqL K H a (xs.map V.str) ∧ xs.length < 64 ∧
  ∀ (ys : List Str) (p : Addr), ys.Perm xs → sortedS ys = true → H p = none → Q (.ref p) (upd H p (.lst (ys.map V.str)))
/-- xs.sort(), ints -/
def rSort : V → List V → Hp → VK → Prop := fun x xs H Q => ∃ (a : Addr) (ns : List Int), x = V.ref a ∧ xs = [] ∧ H a = some (.lst (ns.map V.int)) ∧ ns.length < 64 ∧
  ∀ ns' : List Int, ns'.Perm ns → ns'.Pairwise (· ≤ ·) → Q .non (upd H a (.lst (ns'.map V.int)))
end

/-! ### list.index, flat items -/
section
variable {X : Cx}
def rIndex (K : PySem.W.Frag) : V → List V → Hp → VK → Prop := fun x xs H Q => ∃ (a : Addr) (ys : List V) (y : V) (j : Nat) (z : V), x = V.ref a ∧ xs = [y] ∧ SqL K H a ys ∧ flatV y = true ∧ ys.all flatV = true ∧ ys[j]? = some z ∧ eqV z y = true ∧
  (∀ (m : Nat) (z' : V), m < j → ys[m]? = some z' → eqV z' y = false) ∧ Q (.int (j : Nat)) H
end

/-! ### type(x) of an own instance; is, is not of a module's class -/
section
variable {X : Cx}
end

/-! ### any(xs), all(xs) of a list of bools -/
theorem iter_any {prog : Program} {w : World} {A : Around} {E : Value → Shared → Prop} {s : Shared} {l : Addr} {items : Array Value} {Q : Value → Shared → Prop} (hl : s.heap.IsList l items)
    (h : ∀ s₂ : Shared, s₂ = { s with heap := s.heap.push { cls := .type "list_iterator", data := .fields #[.ref l, .int 0 0] } } →
      (s₂.heap.IsListIter s.heap.objs.size l 0 ∧ s₂.heap.IsList l items) → l ≠ s.heap.objs.size → Q (.ref s.heap.objs.size) s₂) : wpAny (model prog w) A (pyIter (.ref l)) Q E s := by
  have hlt : l < s.heap.objs.size := by obtain ⟨_, e, _⟩ := hl; exact Heap.lt_size e
  exact wpAny_pyIter_list hl (h _ rfl ⟨⟨_, Heap.get?_push_size _ rfl, rfl, rfl⟩, hl.push _⟩ (Nat.ne_of_lt hlt))
theorem truth_bools {prog : Program} {w : World} {A : Around} {bs : List Bool} {its : List Value} (e : its = bs.map Value.bool) :
    TruthOf prog w A (fun i v => its.toArray[i]? = some v) (fun i => bs.getD i false) := fun i v s Q E hv hq => by
  have hv' : its[i]? = some v := by simpa using hv
  rw [e, List.getElem?_map] at hv'
  obtain ⟨b, hb, rfl⟩ := Option.map_eq_some_iff.mp hv'
  have hg : bs.getD i false = b := by rw [List.getD_eq_getElem?_getD, hb] <;> rfl
  have hq' : Q (bs.getD i false) s := hq
  rw [hg] at hq'
  exact wpAny_truthy_bool hq'
theorem all_range : ∀ bs : List Bool, (List.range bs.length).all (fun i => bs.getD i false) = bs.all id
  | [] => rfl
  | b :: bs => by
    rw [List.length_cons, List.range_succ_eq_map, List.all_cons, List.all_map, List.all_cons, ← all_range bs]
    all_goals rfl
section
variable {X : Cx}
def rAny (K : PySem.W.Frag) : List V → Hp → VK → Prop := fun vs H Q => ∃ (a : Addr) (bs : List Bool), vs = [V.ref a] ∧ SqL K H a (bs.map V.bl) ∧ Q (.bl (bs.any id)) H
def rAll (K : PySem.W.Frag) : List V → Hp → VK → Prop := fun vs H Q => ∃ (a : Addr) (bs : List Bool), vs = [V.ref a] ∧ SqL K H a (bs.map V.bl) ∧ Q (.bl (bs.all id)) H
theorem cr_all (hc : X.calm = true) : CallR X (.builtin "all") (rAll X.K) := by
  intro pins s σ H vs us Q I r h
  obtain ⟨a, bs, rfl, hs, q⟩ := h
  obtain ⟨its, rv, hl, _⟩ := I.list hs
  rw [Vals.ref1 r]
  have hb := rv.bls
  refine call_all_walk (iter_any hl.isList fun s₂ e2 st hne => ?_)
  subst e2
  refine ⟨_, _, _, _, _, _, _, rfl, Walks.list (A := X.A.in1) (I.ok.hd hc) _ a hne its.toArray, st, truth_bools hb, fun h' tk hk => ?_⟩
  refine ⟨.bl _, H, I.kept fun b o eo => hk b o (fun hmem => ?_) (Heap.get?_push_of_some _ eo), ?_, q⟩
  · rcases List.mem_cons.mp hmem with e1 | hmem
    · exact absurd (e1 ▸ Heap.lt_size eo) (Nat.lt_irrefl _)
    · cases hmem
  · show Value.bool _ = Value.bool _
    rw [← all_range, hb, List.size_toArray, List.length_map]
end

/-! ### == and != of data at any depth: none, bools, ints, texts, lists, tuples -/
mutual
inductive Dp (K : PySem.W.Frag) (H : Hp) : V → PyData → Prop
  | non : Dp K H .non .none
  | bl (b : Bool) : Dp K H (.bl b) (.bool b)
  | int (i : Int) : Dp K H (.int i) (.int i)
  | str (x : Str) : Dp K H (.str x) (.str x)
  | lst {a : Addr} {xs : List V} {ds : List PyData} : SqL K H a xs → DpAll K H xs ds → Dp K H (.ref a) (.list ds)
  | tup {a : Addr} {xs : List V} {ds : List PyData} : SqT K H a xs → DpAll K H xs ds → Dp K H (.ref a) (.tuple ds)
inductive DpAll (K : PySem.W.Frag) (H : Hp) : List V → List PyData → Prop
  | nil : DpAll K H [] []
  | cons {v : V} {vs : List V} {d : PyData} {ds : List PyData} : Dp K H v d → DpAll K H vs ds → DpAll K H (v :: vs) (d :: ds)
end
section
variable {X : Cx} {pins : List (Addr × Obj)} {σ : St} {H : Hp} {s : Shared}
mutual
theorem Dp.reads (I : Inv X pins σ H s) : ∀ (d : PyData) (v : V) (u : Value), Dp X.K H v d → RelV v u → ∃ as, Reads s.heap u d as
  | .none, _, _, h, r => by
    cases h
    cases r
    exact ⟨_, Reads.none⟩
  | .bool b, _, _, h, r => by
    cases h
    cases r
    exact ⟨_, Reads.bool b⟩
  | .int i, _, _, h, r => by
    cases h
    obtain ⟨t, rfl⟩ := r
    exact ⟨_, Reads.int i t⟩
  | .str x, _, _, h, r => by
    cases h
    obtain ⟨t, rfl⟩ := r
    exact ⟨_, Reads.str x t⟩
  | .list ds, _, _, h, r => by
    cases h with
    | lst hs ha =>
      cases r
      obtain ⟨its, rv, ⟨o, n, ho, hc, _, hd⟩, _⟩ := I.list hs
      obtain ⟨as, hr⟩ := Dp.readsAll I ds _ its ha rv
      exact ⟨_, Reads.list ho hc hd hr⟩
  | .tuple ds, _, _, h, r => by
    cases h with
    | tup hs ha =>
      cases r
      obtain ⟨its, rv, ⟨o, ho, hc, n, hd⟩, _⟩ := I.tuple hs
      obtain ⟨as, hr⟩ := Dp.readsAll I ds _ its ha rv
      exact ⟨_, Reads.tuple ho hc hd hr⟩
  | .dict _, _, _, h, _ => by cases h
theorem Dp.readsAll (I : Inv X pins σ H s) : ∀ (ds : List PyData) (vs : List V) (us : List Value), DpAll X.K H vs ds → Vals vs us → ∃ as, ReadsAll s.heap us ds as
  | [], _, _, h, r => by
    cases h
    cases r
    exact ⟨_, ReadsAll.nil⟩
  | d :: ds, _, _, h, r => by
    cases h with
    | cons h1 h2 =>
      cases r with
      | cons r1 r2 =>
        obtain ⟨as, q1⟩ := Dp.reads I d _ _ h1 r1
        obtain ⟨bs, q2⟩ := Dp.readsAll I ds _ _ h2 r2
        exact ⟨_, ReadsAll.cons q1 q2⟩
end
end
section
variable {X : Cx}
def rNeD (K : PySem.W.Frag) : R2 := fun x y H Q => ∃ d e, Dp K H x d ∧ Dp K H y e ∧ SeqAt.shaped d = true ∧ SeqAt.shaped e = true ∧ Q (.bl (!PyData.eqv d e)) H
theorem op_neD (hu : X.A.units + 64 < cLine) : OpR X (compareOp .NotEq) (rNeD X.K) := by
  intro pins s σ H x y v u Q I rx ry h
  obtain ⟨d, e, hd, he, sd, se, q⟩ := h
  obtain ⟨as, r1⟩ := Dp.reads I d x v hd rx
  obtain ⟨bs, r2⟩ := Dp.reads I e y u he ry
  exact SeqAt.compareNe_shaped r1 r2 sd se hu ⟨.bl _, H, I, rfl, q⟩
end
end L2

namespace L2
open PySem PySem.Spec PyProof.Rows
abbrev CellAt (h : Heap) (c : Addr) (v : Option Value) : Prop := h.IsCell c v
def relS (scope sc : Scope) : Scope :=
  { scope with names := scope.names.map fun (n, k) => if (k == .free && sc.kind == .function && sc.names.lookup n == some .cell) then (n, .cell) else (n, k) }

def cloFrom (cells : List (Str × Addr)) : List (Str × NameKind) → List (Str × Addr) → List (Str × Addr)
  | [], acc => acc
  | (n, k) :: r, acc => if k == .free then cloFrom cells r ((n, (cells.lookup n).getD 0) :: acc) else cloFrom cells r acc

theorem closure_loop (env : Env) (f : Str × NameKind → List (Str × Addr) → Sem (ForInStep (List (Str × Addr))))
    (hf : ∀ n k c, f (n, k) c = if k == .free then (do let a ← cellOf env n; pure (.yield ((n, a) :: c))) else pure (.yield c)) :
    ∀ (names : List (Str × NameKind)) (acc : List (Str × Addr)), (∀ y ∈ names, y.2 = .free → ∃ c, env.cells.lookup y.1 = some c) → forIn names acc f = pure (cloFrom env.cells names acc)
  | [], acc, _ => by rw [List.forIn_nil]; rfl
  | (n, k) :: r, acc, h => by
    rw [List.forIn_cons, hf]
    have ih := fun acc => closure_loop env f hf r acc fun y hy => h y (List.mem_cons_of_mem _ hy)
    unfold cloFrom
    by_cases hk : (k == NameKind.free) = true
    · rw [if_pos hk, if_pos hk]
      obtain ⟨c, hc⟩ := h (n, k) List.mem_cons_self (by simpa using hk)
      have e : cellOf env n = pure c := by unfold cellOf; rw [hc]
      rw [e]
      have e2 : (env.cells.lookup n).getD 0 = c := by rw [hc]; rfl
      rw [e2]
      exact ih _
    · rw [if_neg hk, if_neg hk]
      exact ih _
theorem closure_ok {scope : Scope} {env : Env} (h : ∀ y ∈ scope.names, y.2 = .free → ∃ c, env.cells.lookup y.1 = some c) : closureFor scope env = pure (cloFrom env.cells scope.names []) := by
  simp only [closureFor]
  rw [closure_loop env _ (fun n k c => rfl) scope.names [] h]
  rfl

theorem mem_lookup {α : Type} : ∀ {l : List (Str × α)} {n : Str} {c : α}, (n, c) ∈ l → ∃ c', l.lookup n = some c'
  | (k, v) :: r, n, c, h => by
    rw [List.lookup_cons]
    cases hb : n == k with
    | true => exact ⟨_, rfl⟩
    | false =>
      rcases List.mem_cons.mp h with e | h
      · cases e; simp at hb
      · exact mem_lookup h

theorem cloFrom_mem {cells : List (Str × Addr)} : ∀ {names : List (Str × NameKind)} {acc : List (Str × Addr)} {n : Str} {c : Addr}, (n, c) ∈ cloFrom cells names acc → (n, c) ∈ acc ∨ ((n, .free) ∈ names ∧ c = (cells.lookup n).getD 0)
  | [], _, _, _, h => .inl h
  | (m, k) :: r, acc, n, c, h => by
    unfold cloFrom at h
    split at h
    · rename_i hk
      have hk : k = .free := by simpa using hk
      rcases cloFrom_mem h with h | ⟨h1, h2⟩
      · rcases List.mem_cons.mp h with e | h
        · cases e; exact .inr ⟨hk ▸ List.mem_cons_self, rfl⟩
        · exact .inl h
      · exact .inr ⟨List.mem_cons_of_mem _ h1, h2⟩
    · rcases cloFrom_mem h with h | ⟨h1, h2⟩
      · exact .inl h
      · exact .inr ⟨List.mem_cons_of_mem _ h1, h2⟩
theorem cloFrom_acc {cells : List (Str × Addr)} : ∀ {names : List (Str × NameKind)} {acc : List (Str × Addr)} {p : Str × Addr}, p ∈ acc → p ∈ cloFrom cells names acc
  | [], _, _, h => h
  | (m, k) :: r, acc, p, h => by
    unfold cloFrom
    split
    · exact cloFrom_acc (List.mem_cons_of_mem _ h)
    · exact cloFrom_acc h
theorem cloFrom_has {cells : List (Str × Addr)} : ∀ {names : List (Str × NameKind)} {acc : List (Str × Addr)} {n : Str}, (n, .free) ∈ names → (n, (cells.lookup n).getD 0) ∈ cloFrom cells names acc
  | (m, k) :: r, acc, n, h => by
    unfold cloFrom
    rcases List.mem_cons.mp h with e | h
    · cases e
      exact cloFrom_acc List.mem_cons_self
    · split
      · exact cloFrom_has h
      · exact cloFrom_has h

theorem cells_mem : ∀ {names : List (Str × NameKind)} {h : Heap} {acc : List (Str × Addr)} {x : Str} {c : Addr}, (x, c) ∈ cellsFrom h.objs.size names acc →
    (x, c) ∈ acc ∨ ((x, .cell) ∈ names ∧ h.objs.size ≤ c ∧ CellAt (pushCells h names) c none)
  | [], _, _, _, _, h => .inl h
  | (n, k) :: r, h, acc, x, c, hm => by
    unfold cellsFrom at hm
    unfold pushCells
    split at hm
    · rename_i hk
      rw [if_pos hk]
      have hk : k = .cell := by simpa using hk
      rw [← Heap.size_push h { cls := .type "cell", data := .cell none }] at hm
      rcases cells_mem hm with hm | ⟨h1, h2, h3⟩
      · rcases List.mem_cons.mp hm with e | hm
        · cases e
          exact .inr ⟨hk ▸ List.mem_cons_self, Nat.le_refl _, _, pushCells_keeps r _ _ _ (Heap.get?_push_size _ rfl), rfl⟩
        · exact .inl hm
      · rw [Heap.size_push] at h2
        exact .inr ⟨List.mem_cons_of_mem _ h1, Nat.le_of_succ_le h2, h3⟩
    · rename_i hk
      rw [if_neg hk]
      rcases cells_mem hm with hm | ⟨h1, h2, h3⟩
      · exact .inl hm
      · exact .inr ⟨List.mem_cons_of_mem _ h1, h2, h3⟩
theorem cells_acc : ∀ {names : List (Str × NameKind)} {n : Nat} {acc : List (Str × Addr)} {p : Str × Addr}, p ∈ acc → p ∈ cellsFrom n names acc
  | [], _, _, _, h => h
  | (m, k) :: r, n, acc, p, h => by
    unfold cellsFrom
    split
    · exact cells_acc (List.mem_cons_of_mem _ h)
    · exact cells_acc h
theorem cells_has : ∀ {names : List (Str × NameKind)} {n : Nat} {acc : List (Str × Addr)} {x : Str}, (x, .cell) ∈ names → ∃ c, (x, c) ∈ cellsFrom n names acc
  | (m, k) :: r, n, acc, x, h => by
    unfold cellsFrom
    rcases List.mem_cons.mp h with e | h
    · cases e
      exact ⟨n, cells_acc List.mem_cons_self⟩
    · split
      · exact cells_has h
      · exact cells_has h
theorem cells_inj : ∀ {names : List (Str × NameKind)} {h : Heap} {acc : List (Str × Addr)} {x y : Str} {c : Addr}, (∀ p ∈ acc, p.2 < h.objs.size) → (∀ x y c, (x, c) ∈ acc → (y, c) ∈ acc → x = y) →
    (x, c) ∈ cellsFrom h.objs.size names acc → (y, c) ∈ cellsFrom h.objs.size names acc → x = y
  | [], _, _, _, _, _, _, hi, h1, h2 => hi _ _ _ h1 h2
  | (n, k) :: r, h, acc, x, y, c, hl, hi, h1, h2 => by
    unfold cellsFrom at h1 h2
    split at h1
    · rename_i hk
      rw [if_pos hk] at h2
      rw [← Heap.size_push h { cls := .type "cell", data := .cell none }] at h1 h2
      refine cells_inj (h := h.push _) (fun p hp => ?_) (fun x y c a b => ?_) h1 h2
      · rw [Heap.size_push]
        rcases List.mem_cons.mp hp with rfl | hp
        · exact Nat.lt_succ_self _
        · exact Nat.lt_succ_of_lt (hl p hp)
      · rcases List.mem_cons.mp a with e | a <;> rcases List.mem_cons.mp b with e' | b
        · cases e; cases e'; rfl
        · cases e; exact absurd (hl _ b) (Nat.lt_irrefl _)
        · cases e'; exact absurd (hl _ a) (Nat.lt_irrefl _)
        · exact hi _ _ _ a b
    · rename_i hk
      rw [if_neg hk] at h2
      exact cells_inj hl hi h1 h2

theorem newEnv_comp {M : Model} {A : Around} {E : Value → Shared → Prop} {s : Shared} {scope : Scope} {globals : Addr} {closure : List (Str × Addr)} {qual : Str} {func : Option Addr} {code : Value} {around : Env} {builtins : Addr} {Q : Env → Shared → Prop}
    (h : Q (newEnv scope s.heap.objs.size globals (cellsFrom (s.heap.objs.size + 1) scope.names closure) qual func code (some around) builtins)
      { s with heap := pushCells (s.heap.push { cls := .type "dict", data := .dict #[] }) scope.names }) :
    wpAny M A (newFunctionEnv scope globals closure [] qual func code (some around) builtins) Q E s := by
  simp only [newFunctionEnv, Option.isSome_some, if_true]
  refine wpAny_bind (wpAny_alloc ?_)
  refine wpAny_bind (wpAny_layCells _ (fun n k c => rfl) scope.names closure _ _ ?_)
  rw [show ({ s with heap := s.heap.push { cls := .type "dict", data := .dict #[] } } : Shared).heap.objs.size = s.heap.objs.size + 1 from Heap.size_push ..]
  rw [List.forIn_nil]
  exact wpAny_bind (wpAny_pure (wpAny_pure h))

/-- every name of the written scope, in the scope that runs -/
theorem lookup_relS {sc : Scope} : ∀ {names : List (Str × NameKind)} {x : Str} {k : NameKind},
    (names.map fun (n, k) => if (k == NameKind.free && sc.kind == .function && sc.names.lookup n == some .cell) then (n, NameKind.cell) else (n, k)).lookup x = some k →
    ∃ k', names.lookup x = some k' ∧ (k = k' ∨ (k' = .free ∧ k = .cell))
  | [], _, _, h => by simp at h
  | (n, k₀) :: r, x, k, h => by
    have ih := @lookup_relS sc r x k
    have h' : List.lookup x ((if (k₀ == NameKind.free && sc.kind == .function && sc.names.lookup n == some .cell) = true then (n, NameKind.cell) else (n, k₀)) :: (r.map _)) = some k := h
    cases hx : x == n with
    | true =>
      simp only [List.lookup_cons, hx]
      by_cases hc : (k₀ == NameKind.free && sc.kind == .function && sc.names.lookup n == some .cell) = true
      · rw [if_pos hc] at h'
        simp only [List.lookup_cons, hx] at h'
        cases h'
        simp only [Bool.and_eq_true, beq_iff_eq] at hc
        exact ⟨k₀, rfl, .inr ⟨hc.1.1, rfl⟩⟩
      · rw [if_neg hc] at h'
        simp only [List.lookup_cons, hx] at h'
        cases h'
        exact ⟨_, rfl, .inl rfl⟩
    | false =>
      simp only [List.lookup_cons, hx]
      by_cases hc : (k₀ == NameKind.free && sc.kind == .function && sc.names.lookup n == some .cell) = true
      · rw [if_pos hc] at h'
        simp only [List.lookup_cons, hx] at h'
        exact ih h'
      · rw [if_neg hc] at h'
        simp only [List.lookup_cons, hx] at h'
        exact ih h'



/-- the names of a comprehension's block: its own (with their places in N), or captured -/
structure BlkOk (N : List Str) (sc scope : Scope) (own : List (Str × Nat)) : Prop where
  kind : scope.kind = .function
  uniq : ∀ y ∈ scope.names, scope.names.lookup y.1 = some y.2
  ix : ∀ p ∈ own, N[p.2]? = some p.1
  free : ∀ y ∈ scope.names, y.2 = .free → sc.names.lookup y.1 = some .cell ∨ sc.names.lookup y.1 = some .free
  own : ∀ y ∈ scope.names, y.2 = .local ∨ y.2 = .cell → y.1 ∈ own.map (·.1) ∨ y.1 ∉ N
/-- the slots of the block's own names forgotten -/
def wipe (σ : St) : List Nat → St
  | [] => σ
  | v :: vs => (wipe σ vs).set v none
theorem wipe_length (σ : St) : ∀ vs : List Nat, (wipe σ vs).length = σ.length
  | [] => rfl
  | v :: vs => by unfold wipe; rw [List.length_set, wipe_length σ vs]
theorem wipe_some {σ : St} {i : Nat} {x : V} : ∀ {vs : List Nat}, (wipe σ vs)[i]? = some (some x) → σ[i]? = some (some x) ∧ i ∉ vs
  | [], h => ⟨h, by simp⟩
  | v :: vs, h => by
    unfold wipe at h
    by_cases hi : v = i
    · subst hi
      by_cases hv : v < (wipe σ vs).length
      · rw [List.getElem?_set_self hv] at h; cases h
      · rw [List.getElem?_eq_none (by simpa using hv)] at h; cases h
    · rw [List.getElem?_set_ne hi] at h
      obtain ⟨h1, h2⟩ := wipe_some h
      exact ⟨h1, by simp only [List.mem_cons, not_or]; exact ⟨fun e => hi e.symm, h2⟩⟩

/-- the context of a block that starts at s, its iterator's objects at fp -/
abbrev Cx.blk (X : Cx) (s : Shared) (H : Hp) (scope : Scope) (cenv : Env) (fp : List Addr) : Cx := { X with s_0 := s, H_0 := H, env := cenv, outer := X.stack, ex := fp, fn := fun x => scope.names.lookup x == some .cell, pn := [], xe := fun _ _ => False }
section
variable {X : Cx} {pins : List (Addr × Obj)} {σ : St} {H : Hp} {s : Shared}
theorem block_start {scope : Scope} {own : List (Str × Nat)} {fp : List Addr} (I : Inv X pins σ H s) (ok : BlkOk X.N X.env.scope scope own) (hN : X.N.Nodup) (hfp : ∀ b ∈ fp, FpOk X pins H b ∧ b < s.heap.objs.size) :
    Inv (X.blk s H scope (compEnvC scope (cellsFrom (s.heap.objs.size + 1) scope.names (cloFrom X.env.cells scope.names [])) s.heap.objs.size X.env) fp) [] (wipe σ (own.map (·.2))) H { s with heap := pushCells (s.heap.push { cls := .type "dict", data := .dict #[] }) scope.names } := by
  have hfree : ∀ y ∈ scope.names, y.2 = .free → ∃ c, X.env.cells.lookup y.1 = some c := fun y hy e => by
    rcases ok.free y hy e with k | k
    · exact I.ok.has _ (.inl k)
    · exact I.ok.has _ (.inr k)
  generalize hcenv : compEnvC scope (cellsFrom (s.heap.objs.size + 1) scope.names (cloFrom X.env.cells scope.names [])) s.heap.objs.size X.env = cenv
  have kp : ∀ b o, s.heap.get? b = some o → (pushCells (s.heap.push { cls := .type "dict", data := .dict #[] }) scope.names).get? b = some o := fun b o e => pushCells_keeps _ _ _ _ (Heap.get?_push_of_some _ e)
  have hL : cenv.locals = s.heap.objs.size := by rw [← hcenv]; rfl
  have hcl : cenv.cells = cellsFrom (s.heap.objs.size + 1) scope.names (cloFrom X.env.cells scope.names []) := by rw [← hcenv]; rfl
  have hsc : cenv.scope = relS scope X.env.scope := by rw [← hcenv]; rfl
  rw [← Heap.size_push s.heap { cls := .type "dict", data := .dict #[] }] at hcl
  have cm : ∀ {y c}, (y, c) ∈ cloFrom X.env.cells scope.names [] → X.env.cells.lookup y = some c ∧ c < s.heap.objs.size := fun {y c} hm => by
    rcases cloFrom_mem hm with hm | ⟨h1, rfl⟩
    · cases hm
    · obtain ⟨c, hc⟩ := hfree _ h1 rfl
      rw [hc]
      obtain ⟨w, z⟩ := I.cell _ _ hc
      exact ⟨rfl, z.lt⟩
  have mem : ∀ {y c}, cenv.cells.lookup y = some c → (X.env.cells.lookup y = some c ∧ c < s.heap.objs.size) ∨ (s.heap.objs.size + 1 ≤ c ∧ CellAt (pushCells (s.heap.push { cls := .type "dict", data := .dict #[] }) scope.names) c none) := fun {y c} e => by
    rw [hcl] at e
    rcases cells_mem (PySem.mem_of_lookup e) with hm | ⟨_, h2, h3⟩
    · exact .inl (cm hm)
    · rw [Heap.size_push] at h2; exact .inr ⟨h2, h3⟩
  have look : ∀ {y}, scope.names.lookup y = some .free → ∃ c, cenv.cells.lookup y = some c ∧ X.env.cells.lookup y = some c := fun {y} hl => by
    have hy : (y, NameKind.free) ∈ scope.names := PySem.mem_of_lookup hl
    obtain ⟨c', e'⟩ := mem_lookup (cells_acc (names := scope.names) (n := (s.heap.push { cls := .type "dict", data := .dict #[] }).objs.size) (cloFrom_has (cells := X.env.cells) (acc := []) hy))
    rw [← hcl] at e'
    refine ⟨c', e', ?_⟩
    rw [hcl] at e'
    rcases cells_mem (PySem.mem_of_lookup e') with hm | ⟨h1, _, _⟩
    · exact (cm hm).1
    · have := ok.uniq _ h1
      rw [hl] at this; cases this
  have okB : (X.blk s H scope cenv fp).Ok := by
    refine ⟨I.ok.mod, by show cenv.scope.kind = _; rw [hsc]; exact ok.kind, by show cenv.globals = _; rw [← hcenv]; exact I.ok.glob, by show cenv.builtins = _; rw [← hcenv]; exact I.ok.blt, by show s.heap.objs.size ≤ cenv.locals; rw [hL]; exact Nat.le_refl _,
      fun y z c e1 e2 => ?_, fun y hy => ?_, fun y c z e => ?_, I.ok.hd, I.ok.frames, .inl rfl, fun b hb => ⟨?_, fun y c e z => ?_⟩, I.bs, Nat.le_trans I.ok.bsz I.sz, fun b o e hb => ?_, fun b hb z => ?_, I.stack, I.stkFree⟩
    · have e1 : cenv.cells.lookup y = some c := e1
      have e2 : cenv.cells.lookup z = some c := e2
      rw [hcl] at e1 e2
      refine cells_inj (fun p hp => ?_) (fun y z c a b => I.ok.inj y z c (cm a).1 (cm b).1) (PySem.mem_of_lookup e1) (PySem.mem_of_lookup e2)
      rw [Heap.size_push]
      exact Nat.lt_succ_of_lt (cm (y := p.1) (c := p.2) hp).2
    · show ∃ c, cenv.cells.lookup y = some c
      have key : ∀ k, cenv.kindOf y = some k → (k = .cell ∨ k = .free) → ∃ c, cenv.cells.lookup y = some c := fun k hk hk' => by
        unfold Env.kindOf at hk
        rw [hsc] at hk
        obtain ⟨k', e, r⟩ := lookup_relS hk
        have : k' = .cell ∨ k' = .free := by
          rcases r with rfl | ⟨rfl, _⟩
          · exact hk'
          · exact .inr rfl
        rcases this with rfl | rfl
        · obtain ⟨c, hm⟩ := cells_has (n := (s.heap.push { cls := .type "dict", data := .dict #[] }).objs.size) (acc := cloFrom X.env.cells scope.names []) (PySem.mem_of_lookup e)
          obtain ⟨c', e'⟩ := mem_lookup hm
          exact ⟨c', by rw [hcl]; exact e'⟩
        · obtain ⟨c, h1, _⟩ := look e
          exact ⟨c, h1⟩
      rcases hy with hy | hy
      · exact key _ hy (.inl rfl)
      · exact key _ hy (.inr rfl)
    · have z : (scope.names.lookup y == some NameKind.cell) = true := z
      have z : scope.names.lookup y = some .cell := by simpa using z
      have e : cenv.cells.lookup y = some c := e
      rw [hcl] at e
      rcases cells_mem (PySem.mem_of_lookup e) with hm | ⟨_, h2, _⟩
      · rcases cloFrom_mem hm with hm | ⟨h1, _⟩
        · cases hm
        · have q := ok.uniq _ h1
          rw [z] at q; cases q
      · rw [Heap.size_push] at h2
        exact Nat.le_of_succ_le h2
    · show b ≠ cenv.locals
      rw [hL]; exact Nat.ne_of_lt (hfp b hb).2
    · have e : cenv.cells.lookup y = some c := e
      rcases mem e with ⟨h1, _⟩ | ⟨h1, _⟩
      · exact (hfp b hb).1.2.2.2.2.1 y c h1 z
      · have h2 : s.heap.objs.size + 1 ≤ b := by rw [← z]; exact h1
        exact absurd (Nat.lt_of_lt_of_le (hfp b hb).2 (Nat.le_of_succ_le h2)) (Nat.lt_irrefl _)
    · rcases (hfp b hb).1.2.2.2.1 with z | z
      · exact I.ok.noex b o e z
      · exact absurd (Nat.lt_of_lt_of_le (Heap.lt_size e) (Nat.le_trans I.ok.bsz z)) (Nat.lt_irrefl _)
    · rcases List.mem_cons.mp (I.stkSub b z) with z | z
      · exact (hfp b hb).1.2.1 z
      · exact (hfp b hb).1.2.2.1 z
  refine ⟨okB, rfl, I.bare, Un.kept kp, ⟨fun _ => none, ?_, fun i y av e1 e2 e3 => ?_⟩, fun y c e => ?_, ?_, fun y c e => ?_, fun p hp => ?_, I.hok.kept kp, by rw [wipe_length]; exact I.len⟩
  · show Heap.Ns _ cenv.locals _
    rw [hL]
    exact Heap.Ns.keeps (Heap.Ns.new ..) fun b o e => pushCells_keeps _ _ _ _ e
  · obtain ⟨e2, hne⟩ := wipe_some e2
    have hfr : scope.names.lookup y = some .free ∧ (cenv.kindOf y = some .cell ∨ cenv.kindOf y = some .free) := by
      have key : ∀ k, cenv.scope.names.lookup y = some k → k = .local ∨ k = .cell ∨ k = .free → scope.names.lookup y = some .free ∧ (cenv.kindOf y = some .cell ∨ cenv.kindOf y = some .free) := fun k hk hk' => by
        have hk0 := hk
        rw [hsc] at hk
        obtain ⟨k', e, r⟩ := lookup_relS hk
        have no : ¬ (k' = .local ∨ k' = .cell) := fun hh => by
          rcases ok.own _ (PySem.mem_of_lookup e) hh with e' | e'
          · obtain ⟨p, hp, hpy⟩ := List.mem_map.mp e'
            have e3 := ok.ix p hp
            have : p.1 = y := hpy
            rw [this] at e3
            exact hne (List.mem_map.mpr ⟨p, hp, nodup_ix hN e3 e1⟩)
          · exact e' (List.mem_of_getElem? e1)
        rcases r with rfl | ⟨rfl, rfl⟩
        · rcases hk' with rfl | rfl | rfl
          · exact absurd (.inl rfl) no
          · exact absurd (.inr rfl) no
          · exact ⟨e, .inr hk0⟩
        · exact ⟨e, .inl hk0⟩
      have e3 : Vis cenv.scope y := e3
      rcases e3 with e3 | e3 | e3
      · exact key _ e3 (.inl rfl)
      · exact key _ e3 (.inr (.inl rfl))
      · exact key _ e3 (.inr (.inr rfl))
    obtain ⟨m, hn, hl⟩ := I.loc
    have hvis : Vis X.env.scope y := (ok.free _ (PySem.mem_of_lookup hfr.1) rfl).elim (fun k => .inr (.inl k)) (fun k => .inr (.inr k))
    obtain ⟨w, r, q⟩ := hl i y av e1 e2 hvis
    refine ⟨w, r, .inr ⟨hfr.2, ?_⟩⟩
    obtain ⟨c, h1, h2⟩ := look hfr.1
    rcases q with ⟨k, _⟩ | ⟨_, c', e', z⟩
    · have k : X.env.scope.names.lookup y = some .local := k
      rcases ok.free _ (PySem.mem_of_lookup hfr.1) rfl with k' | k' <;> rw [show X.env.scope.names.lookup y = _ from k'] at k <;> cases k
    · rw [h2] at e'; cases e'
      exact ⟨c, h1, z.keeps kp⟩
  · have e : cenv.cells.lookup y = some c := e
    rcases mem e with ⟨h1, _⟩ | ⟨_, z⟩
    · obtain ⟨w, z⟩ := I.cell y c h1
      exact ⟨w, z.keeps kp⟩
    · exact ⟨_, z⟩
  · show H cenv.locals = none
    rw [hL]; exact I.hok.fresh (Nat.le_refl _)
  · have e : cenv.cells.lookup y = some c := e
    rcases mem e with ⟨h1, _⟩ | ⟨h1, _⟩
    · exact I.freeC y c h1
    · exact I.hok.fresh (Nat.le_of_succ_le h1)
  · exact absurd (show p ∈ ([] : List (Addr × Obj)) ++ [] from hp) (by simp)

/-- an item appended to a tracked list -/
theorem app_ok {E : Value → Shared → Prop} {D : Addr} {xs : List V} {y : V} {v : Value} {Q : Value → Shared → Prop} (I : Inv X pins σ H s) (hD : H D = some (.lst xs)) (hz : xs.length < sizeLine) (r : RelV y v)
    (h : ∀ s', Inv X pins σ (upd H D (.lst (xs ++ [y]))) s' → Q .none s') : wpAny (model X.prog X.w) X.A (call (.builtin "list.append") [.ref D, v]) Q E s := by
  obtain ⟨hz', its, n, ri, e⟩ := I.hok D _ hD
  have hl := ri.length
  refine append_at (hsz := by rw [List.size_toArray]; omega) e fun h' sb ho' => ?_
  refine h { s with heap := h' } (I.write (t' := s.toks) (by rw [hD]; trivial) (.inl rfl) (fun b u hb q => (sb.2 b hb).trans q) ⟨_, ho'⟩ ⟨by rw [List.length_append]; exact hz, its ++ [v], n + 1, ri.append (.cons r .nil), ?_⟩)
  rw [ho']
  simp

/-- a clause's tests -/
def PTs (X : Cx) (ifs : List Expr) (t : TT) : Prop :=
  ∀ (pins : List (Addr × Obj)) (s : Shared) (σ : St) (H : Hp) (Q : Bool → Hp → Prop), Inv X pins σ H s → t σ H Q →
    wpAny (model X.prog X.w) X.A (forIn ifs true fun c r => if r = true then do let ok ← isTrue c X.env (eval c X.env); pure (ForInStep.yield ok) else pure (ForInStep.yield r)) (TP X pins σ Q) X.xe s
def tYes : TT := fun _ H Q => Q true H
theorem pts_nil : PTs X [] tYes := fun _ _ _ H _ I h => wpAny_tests_nil ⟨H, I, h⟩
theorem pts_one {c : Expr} {t : TT} (h : PT X c t) : PTs X [c] t := fun pins s σ H Q I hw => wpAny_tests_one (h pins s σ H Q I hw)
end

theorem thnF {α : Type} {t : Sem α} {Q Q' : α → Shared → Prop} {M : Model} {A : Around} {E : Value → Shared → Prop} {s : Shared} (h : wpAny M A t Q (fun _ _ => False) s) (hQ : ∀ a s, Q a s → Q' a s) : wpAny M A t Q' E s := wpAny_mono h hQ fun _ _ z => False.elim z

/-- the loop of a list comprehension's block, the target of any form (codeAny_compLoop_tests asks a target that no tuple goes to; statement and proof follow it, PyProof/CompMap.lean:41-61, with the step letOwnedTupleGo kept) -/
theorem compLoop_any {prog : Program} {w : World} {A : Around} {R : Result → Shared → Prop} {s : Shared} {elt target iter : Expr} {ifs : List Expr} {scope : Scope} {pos : Pos} {it acc : Value} {env : Env} (I : Nat → Shared → Prop)
    (turn : ∀ n s, I n s → wpAny (model prog w) A (pyNext it) (fun r s₁ => match r with
      | none => R (.ok .next) s₁
      | some v => wpAny (model prog w) A (letOwnedTupleGo target it v) (fun _ s₁' => wpAny (model prog w) A (assign target env v) (fun _ s₂ =>
          wpAny (model prog w) A (forIn ifs true fun c r => if r = true then do let ok ← isTrue c env (eval c env); pure (ForInStep.yield ok) else pure (ForInStep.yield r)) (fun ok s₃ =>
            if ok = true then wpAny (model prog w) A (eval elt env) (fun x s₄ =>
              wpAny (model prog w) A (call (.builtin "list.append") [acc, x]) (fun _ s₅ => ∃ m, m < n ∧ I m s₅) (notedBy (model prog w) A env fun e s' => R (.error e) s') s₄) (notedBy (model prog w) A env fun e s' => R (.error e) s') s₃
            else ∃ m, m < n ∧ I m s₃) (notedBy (model prog w) A env fun e s' => R (.error e) s') s₂) (notedBy (model prog w) A env fun e s' => R (.error e) s') s₁') (notedBy (model prog w) A env fun e s' => R (.error e) s') s₁) (notedBy (model prog w) A env fun e s' => R (.error e) s') s)
    (n : Nat) (h : I n s) :
    codeAny (model prog w) A (.compLoop (.ListComp elt [⟨target, iter, ifs, 0⟩] scope pos) 0 it acc env) R s := by
  refine codeAny_loop rfl I (fun n s hI => ?_) n h
  show wpAny _ A ((compTurn (.ListComp elt [⟨target, iter, ifs, 0⟩] scope pos) 0 it acc env).onRaise (fun x => do noteFrame x env; theTreesLotGoes x)) _ _ s
  refine wpAny_noted ?_
  rw [compTurn_list]
  refine wpAny_bind (wpAny_standAt (wpAny_bind (wpAny_mono (turn n s hI) (fun r s₁ h₁ => ?_) fun _ _ h' => h')))
  cases r with
  | none => exact wpAny_pure h₁
  | some v =>
    refine wpAny_bind (wpAny_mono h₁ (fun _ s₁' h₁' => ?_) fun _ _ h' => h')
    refine wpAny_bind (wpAny_mono h₁' (fun _ s₂ h₂ => wpAny_bind (wpAny_mono h₂ (fun ok s₃ h₃ => ?_) fun _ _ h' => h')) fun _ _ h' => h')
    cases ok with
    | false => exact wpAny_pure ⟨rfl, h₃⟩
    | true =>
      exact wpAny_bind (wpAny_bind (wpAny_mono h₃ (fun x s₄ h₄ => wpAny_bind (wpAny_mono h₄ (fun _ s₅ h₅ => wpAny_pure (wpAny_pure ⟨rfl, h₅⟩)) fun _ _ h' => h')) fun _ _ h' => h'))

section
variable {X : Cx}
/-- [elt for target in iter if ..]: D the new list; W by the turn and a measure, Nx what a turn is to reach -/
def tLc (wi : TI) (g : TG) (tt : TT) (te : TE) (vs : List Nat) : TE := fun σ H Q => wi σ H fun J H1 => ∀ D, H1 D = none → ∃ W : Nat → Nat → Hp → Prop, (∃ m, W 0 m (upd H1 D (.lst []))) ∧ ∀ i m H, W i m H →
  (J.stop i H ∧ Q (.ref D) H) ∨ (J.go i H ∧ ∃ Nx : Hp → Prop, (∀ H', Nx H' → ∃ m', m' < m ∧ W (i + 1) m' H') ∧ ∀ x H', J.yld i H x H' → g x (wipe σ vs) H' fun σ2 H2 => wipe σ2 vs = wipe σ vs ∧ tt σ2 H2 fun b H3 =>
    if b = true then te σ2 H3 fun y H4 => ∃ acc, H4 D = some (.lst acc) ∧ acc.length < sizeLine ∧ Nx (upd H4 D (.lst (acc ++ [y]))) else Nx H3)
theorem lc_core {pins : List (Addr × Obj)} {s : Shared} {σ : St} {H : Hp} {Q : VK} {elt tg iter : Expr} {ifs : List Expr} {scope : Scope} {own : List (Str × Nat)} {pos pos' : Pos} {wi : TI} {g : TG} {tt : TT} {te : TE} {use : Option (Value → Sem Unit)} {Qf : Value → Shared → Prop}
    (hc : X.calm = true) (hN : X.N.Nodup) (I : Inv X pins σ H s) (hi : PI X tg iter wi) (ok : BlkOk X.N X.env.scope scope own)
    (hg : ∀ (s : Shared) (H : Hp) (C : Addr) (cl : List (Str × Addr)) (fp : List Addr), PG (X.blk s H scope (compEnvC scope cl C X.env) fp) tg g) (ht : ∀ (s : Shared) (H : Hp) (C : Addr) (cl : List (Str × Addr)) (fp : List Addr), PTs (X.blk s H scope (compEnvC scope cl C X.env) fp) ifs tt)
    (he : ∀ (s : Shared) (H : Hp) (C : Addr) (cl : List (Str × Addr)) (fp : List Addr), PE (X.blk s H scope (compEnvC scope cl C X.env) fp) elt te) (hs : ∀ x, foldedSetIterable iter X.env x = pure x)
    (h : tLc wi g tt te (own.map (·.2)) σ H Q)
    (hRR : ∀ D C s' m H', Inv X pins σ H' s' → Q (.ref D) H' → s'.heap.Ns C m → FpOk X pins H' C → compPost (model X.prog X.w) X.A X.xe use Qf (.ref D) C (.ok .next) s') :
    wpAny (model X.prog X.w) X.A (comprehension (.ListComp elt [⟨tg, iter, ifs, 0⟩] scope pos) scope X.env pos' (newList []) false (eval iter X.env) use) Qf X.xe s := by
  have hfree : ∀ y ∈ scope.names, y.2 = .free → ∃ c, X.env.cells.lookup y.1 = some c := fun y hy e => by
    rcases ok.free y hy e with k | k
    · exact I.ok.has _ (.inl k)
    · exact I.ok.has _ (.inr k)
  refine wpAny_comprehension_free (use := use) rfl hs (closure_ok hfree) ok.kind (fun y hy e => by rw [ok.uniq y hy, e])
    (thn (hi pins s σ H _ I h) fun xv s1 hx => thn hx fun itv s2 h2 => ?_)
  obtain ⟨it, fp, tn, J, H2, e, I2, T, st2, f2, q⟩ := h2
  subst e
  refine wpAny_newObj_type (newEnv_comp ?_) (by show 0 ≤ sizeLine; decide)
  generalize hD : s2.heap.objs.size = D
  have hDn : H2 D = none := I2.hok.fresh (Nat.le_of_eq hD)
  obtain ⟨W, ⟨m0, w0⟩, turn⟩ := q D hDn
  -- the new list
  generalize hs3 : ({ s2 with heap := s2.heap.push { cls := .type "list", data := .seq ([] : List Value).toArray } } : Shared) = s3
  have I3 : Inv X pins σ (upd H2 D (.lst [])) s3 := by
    rw [← hs3]
    refine I2.laid (t' := s2.toks) (fun b o e => Heap.get?_push_of_some _ e) (Nat.le_of_eq hD) ⟨Nat.zero_le _, [], 0, .nil, ?_⟩
    rw [← hD]
    exact Heap.get?_push_size _ rfl
  have h3 : s3.heap = s2.heap.push { cls := .type "list", data := .seq ([] : List Value).toArray } := by rw [← hs3]
  have sz : ∀ b ∈ fp, b < s2.heap.objs.size := fun b hb => by
    obtain ⟨o, e, _⟩ := T.obj _ _ st2 b hb
    exact Heap.lt_size e
  have f3 : ∀ b ∈ fp, FpOk X pins (upd H2 D (.lst [])) b ∧ b < s3.heap.objs.size := fun b hb => by
    have hlt := sz b hb
    refine ⟨⟨?_, (f2 b hb).2⟩, by rw [h3, Heap.size_push]; exact Nat.lt_succ_of_lt hlt⟩
    rw [upd_ne (by rw [← hD]; exact Nat.ne_of_lt hlt)]
    exact (f2 b hb).1
  have st3 : tn 0 s3.heap := T.keep _ _ _ st2 fun b _ o e => by rw [h3]; exact Heap.get?_push_of_some _ e
  have I4 := block_start I3 ok hN f3
  have pg := hg s3 (upd H2 D (.lst [])) s3.heap.objs.size (cellsFrom (s3.heap.objs.size + 1) scope.names (cloFrom X.env.cells scope.names [])) fp
  have pt := ht s3 (upd H2 D (.lst [])) s3.heap.objs.size (cellsFrom (s3.heap.objs.size + 1) scope.names (cloFrom X.env.cells scope.names [])) fp
  have pe := he s3 (upd H2 D (.lst [])) s3.heap.objs.size (cellsFrom (s3.heap.objs.size + 1) scope.names (cloFrom X.env.cells scope.names [])) fp
  show codeAny _ _ (.compStart (.ListComp elt [⟨tg, iter, ifs, 0⟩] scope pos) 0 (.ref it) (.ref D) (compEnvC scope (cellsFrom (s3.heap.objs.size + 1) scope.names (cloFrom X.env.cells scope.names [])) s3.heap.objs.size X.env)) (compPost (model X.prog X.w) X.A X.xe use Qf (.ref D) s3.heap.objs.size) { s3 with heap := pushCells (s3.heap.push { cls := .type "dict", data := .dict #[] }) scope.names }
  have nfp : ∀ b ∈ fp, (upd H2 D (.lst [])) b = none := fun b hb => (f3 b hb).1.1
  generalize hce : compEnvC scope (cellsFrom (s3.heap.objs.size + 1) scope.names (cloFrom X.env.cells scope.names [])) s3.heap.objs.size X.env = ce at I4 pg pt pe ⊢
  have cL : ce.locals = s3.heap.objs.size := by subst hce; rfl
  generalize hH3 : upd H2 D (.lst []) = H3 at I3 I4 pg pt pe w0 nfp f3
  generalize hs4 : ({ s3 with heap := pushCells (s3.heap.push { cls := .type "dict", data := .dict #[] }) scope.names } : Shared) = s4 at I4 ⊢
  have st4 : tn 0 s4.heap := T.keep _ _ _ st3 fun b _ o e => by rw [← hs4]; exact pushCells_keeps _ _ _ _ (Heap.get?_push_of_some _ e)
  have stat : ∀ {σ' : St} {H' : Hp} {s' : Shared}, Inv (X.blk s3 H3 scope ce fp) [] σ' H' s' → (∀ b ∈ fp, H' b = none) → ∀ b ∈ fp, FpOk (X.blk s3 H3 scope ce fp) [] H' b := fun {σ' H' s'} I' hn b hb =>
    ⟨hn b hb, (I'.ok.exf b hb).1, I'.ok.exfs b hb, .inl hb, fun x c e => (I'.ok.exf b hb).2 x c e, fun p hp => absurd (show p ∈ ([] : List (Addr × Obj)) ++ [] from hp) (by simp)⟩
  have loop : codeAny (model X.prog X.w) X.A (.compLoop (.ListComp elt [⟨tg, iter, ifs, 0⟩] scope pos) 0 (.ref it) (.ref D) ce) (compPost (model X.prog X.w) X.A X.xe use Qf (.ref D) s3.heap.objs.size) s4 := by
    refine compLoop_any (fun n s' => ∃ i H', Inv (X.blk s3 H3 scope ce fp) [] (wipe σ (own.map (·.2))) H' s' ∧ tn i s'.heap ∧ (∀ b ∈ fp, H' b = none) ∧ W i n H') ?_ m0 ⟨0, H3, I4, st4, nfp, w0⟩
    rintro n s5 ⟨i, H5, I5, st5, n5, w5⟩
    rcases turn i n H5 w5 with ⟨stop, qq⟩ | ⟨go, Nx, hNx, step⟩
    · have td := T.done (X.blk s3 H3 scope ce fp) rfl rfl rfl hc i [] s5 _ H5 (fun _ _ => False) I5 (stat I5 n5) st5 stop
      refine thnF td fun r s6 ⟨hr, I6⟩ => ?_
      subst hr
      -- back in the def's context
      have I7 : Inv X pins σ H5 s6 := I3.call' (ch := fp) I6.os I6.base I6.hok I6.bare fun b hb => ⟨(f3 b hb).1.2.2.2.1, (f3 b hb).1.2.1, (f3 b hb).1.2.2.2.2.1, (f3 b hb).1.2.2.2.2.2⟩
      have nC : H5 s3.heap.objs.size = none := by
        have z : H5 ce.locals = none := I6.free
        rw [cL] at z
        exact z
      obtain ⟨m, hn, _⟩ := I6.loc
      have hn : s6.heap.Ns ce.locals m := hn
      rw [cL] at hn
      exact hRR D s3.heap.objs.size s6 m H5 I7 qq hn (I3.fpOk (Nat.le_refl _) nC)
    · have ti := T.item (X.blk s3 H3 scope ce fp) rfl rfl rfl hc i [] s5 _ H5 (fun _ _ => False) I5 (stat I5 n5) st5 go
      refine thnF ti fun r s6 ⟨u, hr, h6⟩ => ?_
      subst hr
      refine thnF h6 fun _ s7 ⟨x, H7, I7, r7, y7, st7, n7⟩ => ?_
      have I7' := I7.pinned (stat I7 n7) (T.obj _ _ st7)
      refine thnF (pg _ s7 _ H7 x u _ I7' r7 (step x H7 y7)) fun _ s8 ⟨σ8, H8, I8, hw8, q8⟩ => ?_
      refine thnF (pt _ s8 σ8 H8 _ I8 q8) fun b s9 ⟨H9, I9, q9⟩ => ?_
      -- the turn's end
      have fin : ∀ {s' : Shared} {H' : Hp}, Inv (X.blk s3 H3 scope ce fp) ([] ++ pinsAt fp s7.heap) σ8 H' s' → Nx H' → ∃ m, m < n ∧ ∃ i H', Inv (X.blk s3 H3 scope ce fp) [] (wipe σ (own.map (·.2))) H' s' ∧ tn i s'.heap ∧ (∀ b ∈ fp, H' b = none) ∧ W i m H' := fun {s' H'} I' nx => by
        obtain ⟨m', hm, w'⟩ := hNx H' nx
        have pin' : ∀ b ∈ fp, ∀ o, s7.heap.get? b = some o → s'.heap.get? b = some o ∧ H' b = none := fun b hb o e =>
          let z := I'.pin (b, o) (List.mem_append_right _ (List.mem_append_right _ (mem_pinsAt hb e)))
          ⟨z.1, z.2.1⟩
        have hl : (wipe σ (own.map (·.2))).length = σ8.length := by rw [← hw8, wipe_length]
        refine ⟨m', hm, i + 1, H', (I'.unpinned (pins := [])).weak hl (fun j v e => ?_), T.keep _ _ _ st7 fun b hb o e => (pin' b hb o e).1, fun b hb => ?_, w'⟩
        · rw [← hw8] at e
          exact (wipe_some e).1
        · obtain ⟨o, e, _⟩ := T.obj _ _ st7 b hb
          exact (pin' b hb o e).2
      cases b with
      | false =>
        simp only [Bool.false_eq_true, if_false] at q9 ⊢
        exact fin I9 q9
      | true =>
        simp only [if_true] at q9 ⊢
        refine thnF (pe _ s9 σ8 H9 _ I9 q9) fun z s10 ⟨yv, H10, I10, r10, acc, hD10, hz10, nx⟩ => ?_
        exact app_ok (X := X.blk s3 H3 scope ce fp) I10 hD10 hz10 r10 fun s11 I11 => fin I11 nx
  exact codeAny_compStart_list loop (T.self X.A 0 _ _ _ st4 loop)
/-- as a value -/
theorem pe_lc {elt tg iter : Expr} {ifs : List Expr} {scope : Scope} {own : List (Str × Nat)} {pos : Pos} {wi : TI} {g : TG} {tt : TT} {te : TE} (hc : X.calm = true) (hN : X.N.Nodup) (hi : PI X tg iter wi) (ok : BlkOk X.N X.env.scope scope own)
    (hg : ∀ (s : Shared) (H : Hp) (C : Addr) (cl : List (Str × Addr)) (fp : List Addr), PG (X.blk s H scope (compEnvC scope cl C X.env) fp) tg g) (ht : ∀ (s : Shared) (H : Hp) (C : Addr) (cl : List (Str × Addr)) (fp : List Addr), PTs (X.blk s H scope (compEnvC scope cl C X.env) fp) ifs tt)
    (he : ∀ (s : Shared) (H : Hp) (C : Addr) (cl : List (Str × Addr)) (fp : List Addr), PE (X.blk s H scope (compEnvC scope cl C X.env) fp) elt te) (hs : ∀ x, foldedSetIterable iter X.env x = pure x := by intro _; rfl) :
    PE X (.ListComp elt [⟨tg, iter, ifs, 0⟩] scope pos) (tLc wi g tt te (own.map (·.2))) := by
  intro pins s σ H Q I h
  rw [eval_ListComp]
  refine lc_core hc hN I hi ok hg ht he hs h fun D C s' m H' I' q hn f => ⟨m, hn, fun h'' sb => ?_⟩
  obtain ⟨f0, f1, f2, f3, f4, f5⟩ := f
  exact ⟨.ref D, H', I'.turned (t' := s'.toks) (fun b o hb e => (sb.2 b hb).trans e) f0 f1 f3 f4 f5, rfl, q⟩
/-- name = [..] on one line, the name a local -/
theorem ps_setLc {i : Nat} {y : Str} {py : Pos} {elt tg iter : Expr} {ifs : List Expr} {scope : Scope} {own : List (Str × Nat)} {pos spos : Pos} {wi : TI} {g : TG} {tt : TT} {te : TE} (hc : X.calm = true) (hN : X.N.Nodup) (hy : X.N[i]? = some y) (hyl : X.env.scope.names.lookup y = some .local)
    (hsw : swapsWith (.ListComp elt [⟨tg, iter, ifs, 0⟩] scope pos) (some (.Name y py)) spos.line X.env = pure true) (hi : PI X tg iter wi) (ok : BlkOk X.N X.env.scope scope own)
    (hg : ∀ (s : Shared) (H : Hp) (C : Addr) (cl : List (Str × Addr)) (fp : List Addr), PG (X.blk s H scope (compEnvC scope cl C X.env) fp) tg g) (ht : ∀ (s : Shared) (H : Hp) (C : Addr) (cl : List (Str × Addr)) (fp : List Addr), PTs (X.blk s H scope (compEnvC scope cl C X.env) fp) ifs tt)
    (he : ∀ (s : Shared) (H : Hp) (C : Addr) (cl : List (Str × Addr)) (fp : List Addr), PE (X.blk s H scope (compEnvC scope cl C X.env) fp) elt te) (hs : ∀ x, foldedSetIterable iter X.env x = pure x := by intro _; rfl) :
    PS X (.Assign [.Name y py] (.ListComp elt [⟨tg, iter, ifs, 0⟩] scope pos) spos) (tAsg (tLc wi g tt te (own.map (·.2))) (gName i)) := by
  intro pins s σ H D I h
  rw [exec_Assign_Name_used _ _ _ _ hsw]
  refine wpAny_bind (wpAny_standAt (wpAny_bind ?_))
  show wpAny _ X.A (do let _ ← comprehension (.ListComp elt [⟨tg, iter, ifs, 0⟩] scope pos) scope X.env (firstIterPos [⟨tg, iter, ifs, 0⟩] pos) (newList []) false (eval iter X.env) (some (assign (.Name y py) X.env))) _ _ s
  have h : tLc wi g tt te (own.map (·.2)) σ H (fun x H1 => gName i x σ H1 D.nx) := h
  refine wpAny_bind (thn (lc_core (Qf := fun _ s' => SP X pins D .next s') hc hN I hi ok hg ht he hs h fun L C s' m H' I' q hn f => ?_) fun _ s' hq => wpAny_pure (wpAny_pure hq))
  show wpAny _ _ (assign (.Name y py) X.env (.ref L)) _ _ _
  refine wpAny_assign_Name (store_ok2 (v := V.ref L) I' hN hy (.inl hyl) rfl (fun s2 I2 ⟨a, sb, ha⟩ => ?_) (.inr hyl))
  obtain ⟨f0, f1, f2, f3, f4, f5⟩ := f
  have haC : C ≠ a := by
    rcases ha with z | z
    · rw [z]; exact f1
    · exact fun e => f4 y a z e.symm
  refine ⟨m, hn.sameBut sb haC, fun h3 sb3 => ?_⟩
  exact ⟨_, H', I2.turned (t' := s2.toks) (fun b o hb e => (sb3.2 b hb).trans e) f0 f1 f3 f4 f5, q⟩
theorem sw_true {elt : Expr} {gs : List Comprehension} {scope : Scope} {pos py : Pos} {y : Str} {l : Nat} {env : Env} (hk : env.scope.kind = .function) (hy : env.scope.names.lookup y = some .local) (hl : (py.line == pos.line) = true)
    (ha : (scope.names.any fun (n, k) => n == y && (k == .local || k == .cell)) = false) : swapsWith (.ListComp elt gs scope pos) (some (.Name y py)) l env = pure true := by
  have ky : env.kindOf y = some .local := hy
  have hb : env.blockKind = .function := by unfold Env.blockKind; rw [hk]; rfl
  unfold swapsWith
  simp only [hb, ky, ha, Expr.pos, hl]
  rfl
end

/-! ### the forms one uses -/
/-- over a range: Pv by the turn and the heap (the new list at D within) -/
theorem lc_range {lo : Int} {n : Nat} {g : TG} {tt : TT} {te : TE} {vs : List Nat} {σ : St} {H1 : Hp} {D : Addr} {Qd : Hp → Prop} (Pv : Nat → Hp → Prop) (h0 : Pv 0 (upd H1 D (.lst [])))
    (hs : ∀ i H, i < n → Pv i H → g (.int (lo + i)) (wipe σ vs) H fun σ2 H2 => wipe σ2 vs = wipe σ vs ∧ tt σ2 H2 fun b H3 =>
      if b = true then te σ2 H3 fun y H4 => ∃ acc, H4 D = some (.lst acc) ∧ acc.length < sizeLine ∧ Pv (i + 1) (upd H4 D (.lst (acc ++ [y]))) else Pv (i + 1) H3) (hd : ∀ H, Pv n H → Qd H) :
    ∃ W : Nat → Nat → Hp → Prop, (∃ m, W 0 m (upd H1 D (.lst []))) ∧ ∀ i m H, W i m H →
      ((Itr lo n).stop i H ∧ Qd H) ∨ ((Itr lo n).go i H ∧ ∃ Nx : Hp → Prop, (∀ H', Nx H' → ∃ m', m' < m ∧ W (i + 1) m' H') ∧ ∀ x H', (Itr lo n).yld i H x H' → g x (wipe σ vs) H' fun σ2 H2 => wipe σ2 vs = wipe σ vs ∧ tt σ2 H2 fun b H3 =>
        if b = true then te σ2 H3 fun y H4 => ∃ acc, H4 D = some (.lst acc) ∧ acc.length < sizeLine ∧ Nx (upd H4 D (.lst (acc ++ [y]))) else Nx H3) := by
  refine ⟨fun i m H => m = n - i ∧ i ≤ n ∧ Pv i H, ⟨n, by simp, Nat.zero_le _, h0⟩, ?_⟩
  rintro i m H ⟨rfl, hi, p⟩
  by_cases hlt : i < n
  · refine .inr ⟨hlt, Pv (i + 1), fun H' p' => ⟨n - (i + 1), by omega, rfl, hlt, p'⟩, fun x H' y => ?_⟩
    obtain ⟨e, y⟩ := y
    subst e y
    exact hs i _ hlt p
  · have e : i = n := by omega
    subst e
    exact .inl ⟨Nat.le_refl _, hd H p⟩
/-- over a list that the block leaves as it is -/
theorem lc_list {K : PySem.W.Frag} {a : Addr} {xs : List V} {g : TG} {tt : TT} {te : TE} {vs : List Nat} {σ : St} {H1 : Hp} {D : Addr} {Qd : Hp → Prop} (Pv : Nat → Hp → Prop) (h0 : Pv 0 (upd H1 D (.lst []))) (hl : ∀ i H, i ≤ xs.length → Pv i H → SqL K H a xs)
    (hs : ∀ i x H, xs[i]? = some x → Pv i H → g x (wipe σ vs) H fun σ2 H2 => wipe σ2 vs = wipe σ vs ∧ tt σ2 H2 fun b H3 =>
      if b = true then te σ2 H3 fun y H4 => ∃ acc, H4 D = some (.lst acc) ∧ acc.length < sizeLine ∧ Pv (i + 1) (upd H4 D (.lst (acc ++ [y]))) else Pv (i + 1) H3) (hd : ∀ H, Pv xs.length H → Qd H) :
    ∃ W : Nat → Nat → Hp → Prop, (∃ m, W 0 m (upd H1 D (.lst []))) ∧ ∀ i m H, W i m H →
      ((Itl K a).stop i H ∧ Qd H) ∨ ((Itl K a).go i H ∧ ∃ Nx : Hp → Prop, (∀ H', Nx H' → ∃ m', m' < m ∧ W (i + 1) m' H') ∧ ∀ x H', (Itl K a).yld i H x H' → g x (wipe σ vs) H' fun σ2 H2 => wipe σ2 vs = wipe σ vs ∧ tt σ2 H2 fun b H3 =>
        if b = true then te σ2 H3 fun y H4 => ∃ acc, H4 D = some (.lst acc) ∧ acc.length < sizeLine ∧ Nx (upd H4 D (.lst (acc ++ [y]))) else Nx H3) := by
  refine ⟨fun i m H => m = xs.length - i ∧ i ≤ xs.length ∧ Pv i H, ⟨xs.length, by simp, Nat.zero_le _, h0⟩, ?_⟩
  rintro i m H ⟨rfl, hi, p⟩
  have q := hl i H hi p
  by_cases hlt : i < xs.length
  · refine .inr ⟨⟨xs, xs[i], q, by simp [hlt]⟩, Pv (i + 1), fun H' p' => ⟨xs.length - (i + 1), by omega, rfl, hlt, p'⟩, fun x H' y => ?_⟩
    obtain ⟨e, y⟩ := y
    subst e
    exact hs i x _ (y xs q) p
  · have e : i = xs.length := by omega
    subst e
    exact .inl ⟨⟨xs, q, Nat.le_refl _⟩, hd H p⟩
def blkC (N : List Str) (sc scope : Scope) (own : List (Str × Nat)) : Bool :=
  (match scope.kind with | .function => true | _ => false) && (scope.names.all fun y => decide (scope.names.lookup y.1 = some y.2)) && (own.all fun p => decide (N[p.2]? = some p.1)) &&
    (scope.names.all fun y => match y.2 with
      | .free => (match sc.names.lookup y.1 with | some .cell => true | some .free => true | _ => false)
      | .local => decide (y.1 ∈ own.map (·.1)) || decide (y.1 ∉ N)
      | .cell => decide (y.1 ∈ own.map (·.1)) || decide (y.1 ∉ N)
      | _ => true)
theorem blkOk_by {N : List Str} {sc scope : Scope} {own : List (Str × Nat)} (h : blkC N sc scope own = true) : BlkOk N sc scope own := by
  unfold blkC at h
  simp only [Bool.and_eq_true, List.all_eq_true, decide_eq_true_eq] at h
  obtain ⟨⟨⟨h1, h2⟩, h3⟩, h4⟩ := h
  refine ⟨?_, h2, h3, fun y hy e => ?_, fun y hy e => ?_⟩
  · split at h1
    · assumption
    · cases h1
  · have q := h4 y hy
    simp only [e] at q
    split at q <;> first | exact .inl (by assumption) | exact .inr (by assumption) | cases q
  · have q := h4 y hy
    rcases e with e | e <;> (simp only [e, Bool.or_eq_true, decide_eq_true_eq] at q; exact q)
end L2

namespace L2
open PySem PySem.Spec PyProof.Rows


section
variable {prog : Program} {w : World} {A : Around} {R : Result → Shared → Prop} {s : Shared} {elt t0 i0 t1 i1 : Expr} {ifs0 ifs1 : List Expr} {scope : Scope} {pos : Pos} {it acc : Value} {env : Env}
end

section
variable {X : Cx}
end
end L2

namespace L2
open PySem PySem.Spec PyProof.Rows

/-! ### lists of pairs as tables -/
section
variable {κ : Type} [DecidableEq κ]
def valV (kvs : List (κ × V)) (k : κ) : Option V := (kvs.find? fun kv => decide (kv.1 = k)).map (·.2)
/-- in its place, or at the end -/
def putK (kvs : List (κ × V)) (k : κ) (v : V) : List (κ × V) :=
  if (kvs.any fun kv => decide (kv.1 = k)) = true then kvs.map (fun kv => if kv.1 = k then (kv.1, v) else kv) else kvs ++ [(k, v)]
def dropK (kvs : List (κ × V)) (k : κ) : List (κ × V) := kvs.filter fun kv => decide (kv.1 ≠ k)

theorem valV_pos {p : κ × V} {r : List (κ × V)} {k : κ} (e : p.1 = k) : valV (p :: r) k = some p.2 := by simp [valV, List.find?_cons, e]
theorem valV_neg {p : κ × V} {r : List (κ × V)} {k : κ} (e : ¬ p.1 = k) : valV (p :: r) k = valV r k := by simp [valV, List.find?_cons, e]
theorem valV_any (k : κ) : ∀ kvs : List (κ × V), (kvs.any fun kv => decide (kv.1 = k)) = (valV kvs k).isSome
  | [] => rfl
  | p :: r => by
    rw [List.any_cons]
    by_cases e : p.1 = k
    · simp only [valV_pos e, decide_eq_true e, Bool.true_or, Option.isSome_some]
    · rw [valV_neg e, decide_eq_false e, Bool.false_or]; exact valV_any k r
theorem length_putK (kvs : List (κ × V)) (k : κ) (v : V) : (putK kvs k v).length ≤ kvs.length + 1 := by
  unfold putK
  split
  · rw [List.length_map]; omega
  · rw [List.length_append, List.length_cons, List.length_nil]; omega

theorem RelO.isSome_eq {o : Option V} {u : Option Value} (r : RelO o u) : o.isSome = u.isSome := by
  cases o with
  | none => cases u with
    | none => rfl
    | some _ => exact (show False from r).elim
  | some _ => cases u with
    | none => exact (show False from r).elim
    | some _ => rfl
theorem RelO.getD {o : Option V} {u : Option Value} {d : V} {d' : Value} (r : RelO o u) (rd : RelV d d') : RelV (o.getD d) (u.getD d') := by
  cases o with
  | none => cases u with
    | none => exact rd
    | some _ => exact (show False from r).elim
  | some _ => cases u with
    | none => exact (show False from r).elim
    | some _ => exact r

/-- raw tables of the same keys -/
theorem KV.val {kvs : List (κ × V)} {vs : List (κ × Value)} (r : KV kvs vs) (k : κ) : RelO (valV kvs k) (valueAt vs k) := by
  unfold KV at r
  induction r with
  | nil => exact True.intro
  | @cons p q ps qs h t ih =>
    obtain ⟨h1, h2⟩ := h
    by_cases e : p.1 = k
    · have e' : q.1 = k := h1.symm.trans e
      have b : valueAt (q :: qs) k = some q.2 := by simp [valueAt, List.find?_cons, e']
      rw [valV_pos e, b]; exact h2
    · have e' : ¬ q.1 = k := fun z => e (h1.trans z)
      have b : valueAt (q :: qs) k = valueAt qs k := by simp [valueAt, List.find?_cons, e']
      rw [valV_neg e, b]; exact ih
theorem KV.any {kvs : List (κ × V)} {vs : List (κ × Value)} (r : KV kvs vs) (k : κ) : (kvs.any fun kv => decide (kv.1 = k)) = vs.any fun kv => decide (kv.1 = k) := by
  unfold KV at r
  induction r with
  | nil => rfl
  | cons h t ih => rw [List.any_cons, List.any_cons, ih, h.1]
theorem KV.repl {kvs : List (κ × V)} {vs : List (κ × Value)} (r : KV kvs vs) (k : κ) {y : V} {u : Value} (ry : RelV y u) :
    KV (kvs.map fun kv => if kv.1 = k then (kv.1, y) else kv) (vs.map fun kv => if kv.1 = k then (kv.1, u) else kv) := by
  unfold KV at r ⊢
  induction r with
  | nil => exact .nil
  | @cons p q ps qs h t ih =>
    rw [List.map_cons, List.map_cons]
    refine .cons ?_ ih
    obtain ⟨h1, h2⟩ := h
    by_cases e : p.1 = k
    · rw [if_pos e, if_pos (h1.symm.trans e)]; exact ⟨h1, ry⟩
    · rw [if_neg e, if_neg (fun z => e (h1.trans z))]; exact ⟨h1, h2⟩
theorem KV.put {kvs : List (κ × V)} {vs : List (κ × Value)} (r : KV kvs vs) (k : κ) {y : V} {u : Value} (ry : RelV y u) : KV (putK kvs k y) (stored vs k u) := by
  unfold putK stored
  rw [r.any k]
  by_cases e : (vs.any fun kv => decide (kv.1 = k)) = true
  · rw [if_pos e, if_pos e]; exact r.repl k ry
  · rw [if_neg e, if_neg e]; exact Paired.snoc r ⟨rfl, ry⟩
theorem KV.drop {kvs : List (κ × V)} {vs : List (κ × Value)} (r : KV kvs vs) (k : κ) : KV (dropK kvs k) (without vs k) := by
  unfold KV at r ⊢
  unfold dropK without
  induction r with
  | nil => exact .nil
  | @cons p q ps qs h t ih =>
    obtain ⟨h1, h2⟩ := h
    rw [List.filter_cons, List.filter_cons]
    by_cases e : p.1 = k
    · have a : ¬ decide (p.1 ≠ k) = true := by simp [e]
      have b : ¬ decide (q.1 ≠ k) = true := by simp [h1.symm.trans e]
      rw [if_neg a, if_neg b]; exact ih
    · have e' : ¬ q.1 = k := fun z => e (h1.trans z)
      have a : decide (p.1 ≠ k) = true := by simp [e]
      have b : decide (q.1 ≠ k) = true := by simp [e']
      rw [if_pos a, if_pos b]; exact .cons ⟨h1, h2⟩ ih
theorem KV.keys {kvs : List (κ × V)} {vs : List (κ × Value)} (r : KV kvs vs) : kvs.map (·.1) = vs.map (·.1) := by
  unfold KV at r
  induction r with
  | nil => rfl
  | cons h t ih => rw [List.map_cons, List.map_cons, ih, h.1]
theorem KV.length {kvs : List (κ × V)} {vs : List (κ × Value)} (r : KV kvs vs) : kvs.length = vs.length := Paired.length r
end


/-! ### a tracked dict, its keys ints and texts or tuples of these -/
theorem kV_is {P : Program} {w : World} {k : Key} {u : Value} (r : RelV (kV k) u) : (mixKind P w).is k u = true := by
  cases k with
  | inl i => obtain ⟨t, e⟩ := (show ∃ t, u = Value.int i t from r); subst e; exact mixKind_int P w i t
  | inr x => obtain ⟨t, e⟩ := (show ∃ t, u = Value.str x t from r); subst e; exact mixKind_str P w x t
theorem items_are {P : Program} {w : World} : ∀ {ks : List Key} {us : List Value}, Vals (ks.map kV) us → ItemsAre (mixKind P w) ks us
  | [], _, r => by rw [List.map_nil] at r; cases r; exact .nil
  | k :: ks, _, r => by
    rw [List.map_cons] at r
    cases r with
    | cons h t => exact .cons (kV_is h) (items_are t)

/-- raw entries of a dict with tuple keys -/
abbrev KT (H : Hp) : List (List Key × V) → List (List Key × Addr × Value) → Prop := Paired fun p q => p.1 = q.1 ∧ H q.2.1 = some (.tup (p.1.map kV)) ∧ RelV p.2 q.2.2
theorem KT.val {H : Hp} {kvs : List (List Key × V)} {xs : List (List Key × Addr × Value)} (r : KT H kvs xs) (k : List Key) : RelO (valV kvs k) ((atKey xs k).map (·.2)) := by
  induction r with
  | nil => exact True.intro
  | @cons p q ps qs h t ih =>
    obtain ⟨h1, _, h2⟩ := h
    by_cases e : p.1 = k
    · have e' : q.1 = k := h1.symm.trans e
      have b : atKey (q :: qs) k = some q.2 := by simp [atKey, List.find?_cons, e']
      rw [valV_pos e, b]; exact h2
    · have e' : ¬ q.1 = k := fun z => e (h1.trans z)
      have b : atKey (q :: qs) k = atKey qs k := by simp [atKey, List.find?_cons, e']
      rw [valV_neg e, b]; exact ih
theorem KT.repl {H : Hp} {kvs : List (List Key × V)} {xs : List (List Key × Addr × Value)} (r : KT H kvs xs) (k : List Key) {y : V} {u : Value} (ry : RelV y u) :
    KT H (kvs.map fun kv => if kv.1 = k then (kv.1, y) else kv) (xs.map (putAt k u)) := by
  induction r with
  | nil => exact .nil
  | @cons p q ps qs h t ih =>
    rw [List.map_cons, List.map_cons]
    refine .cons ?_ ih
    obtain ⟨h1, h2, h3⟩ := h
    unfold putAt
    by_cases e : p.1 = k
    · rw [if_pos e, if_pos (h1.symm.trans e)]; exact ⟨h1, h2, ry⟩
    · rw [if_neg e, if_neg (fun z => e (h1.trans z))]; exact ⟨h1, h2, h3⟩
theorem KT.put {H : Hp} {kvs : List (List Key × V)} {xs : List (List Key × Addr × Value)} (r : KT H kvs xs) (k : List Key) {b : Addr} {y : V} {u : Value} (hb : H b = some (.tup (k.map kV))) (ry : RelV y u) :
    KT H (putK kvs k y) (storedH xs k b u) := by
  have e : (kvs.any fun kv => decide (kv.1 = k)) = (atKey xs k).isSome := by
    rw [valV_any, (r.val k).isSome_eq, Option.isSome_map]
  unfold putK storedH
  rw [e]
  by_cases q : (atKey xs k).isSome = true
  · rw [if_pos q, if_pos q]; exact r.repl k ry
  · rw [if_neg q, if_neg q]; exact Paired.snoc r ⟨rfl, hb, ry⟩
theorem KT.keeps {H H' : Hp} {kvs : List (List Key × V)} {xs : List (List Key × Addr × Value)} (r : KT H kvs xs) (ht : ∀ b ys, H b = some (.tup ys) → H' b = some (.tup ys)) : KT H' kvs xs :=
  Paired.mapP r fun _ _ z => ⟨z.1, ht _ _ z.2.1, z.2.2⟩

section
variable {P : Program} {w : World} {H : Hp} {h : Heap} {a : Addr}
theorem rd_of {u : HO} (ok : HOk P w H h) (e : Rd H a u) : ObjOk P w H h a u := e.ok ok
theorem dk_rd {kvs : List (Key × V)} (ok : HOk P w H h) (e : Rd H a (.dK kvs)) : kvs.length ≤ sizeLine ∧ (a == sysModules) = false ∧ ∃ vs, KV kvs vs ∧ h.DictOf (mixKind P w) a vs :=
  show ObjOk P w H h a (.dK kvs) from rd_of ok e
theorem dk_of {kvs : List (Key × V)} (ok : HOk P w H h) (e : H a = some (.dK kvs)) : kvs.length ≤ sizeLine ∧ (a == sysModules) = false ∧ ∃ vs, KV kvs vs ∧ h.DictOf (mixKind P w) a vs := dk_rd ok (.inl e)
/-- a tracked tuple of ints and texts is a key -/
theorem key_of {ks : List Key} (ok : HOk P w H h) (e : H a = some (.tup (ks.map kV))) : (tupleKind (mixKind P w)).is h ks a := by
  obtain ⟨_, its, r, o, h1, h2, n, h3⟩ := (show ObjOk P w H h a (.tup (ks.map kV)) from ok a _ e)
  exact ⟨o, its.toArray, n, h1, h2, h3, by simpa using items_are r⟩
theorem dt_rd {kvs : List (List Key × V)} (ok : HOk P w H h) (e : Rd H a (.dT kvs)) : kvs.length ≤ sizeLine ∧ (a == sysModules) = false ∧
    ∃ xs, KT H kvs xs ∧ h.DictOfH (tupleKind (mixKind P w)) a xs := by
  obtain ⟨z, y, xs, r, o, es, ep, h1, h2, h3, h4, h5⟩ := (show ObjOk P w H h a (.dT kvs) from rd_of ok e)
  refine ⟨z, y, xs, r, o, es, ep, h1, h2, h3, h4, fun x hx => ?_, h5⟩
  have all : ∀ {l : List (List Key × V)} {m : List (List Key × Addr × Value)}, KT H l m → ∀ x ∈ m, (tupleKind (mixKind P w)).is h x.1 x.2.1 := by
    intro l m q
    induction q with
    | nil => intro x hx; exact nomatch hx
    | @cons p q ps qs hq t ih =>
      intro x hx
      rcases List.mem_cons.mp hx with e | hx
      · subst e
        exact key_of ok (by rw [← hq.1]; exact hq.2.1)
      · exact ih x hx
  exact all r x hx
theorem dt_of {kvs : List (List Key × V)} (ok : HOk P w H h) (e : H a = some (.dT kvs)) : kvs.length ≤ sizeLine ∧ (a == sysModules) = false ∧
    ∃ xs, KT H kvs xs ∧ h.DictOfH (tupleKind (mixKind P w)) a xs := dt_rd ok (.inl e)
end

/-- what the dict at a holds at the key y -/
def DGet (H : Hp) (a : Addr) (y : V) (r : Option V) : Prop :=
  (∃ kvs k, Rd H a (.dK kvs) ∧ y = kV k ∧ r = valV kvs k) ∨ ∃ kvs k b, Rd H a (.dT kvs) ∧ y = .ref b ∧ H b = some (.tup (k.map kV)) ∧ r = valV kvs k
/-- the heap behind a[y] = v -/
def DPut (H : Hp) (a : Addr) (y v : V) (H' : Hp) : Prop :=
  (∃ kvs k, H a = some (.dK kvs) ∧ y = kV k ∧ kvs.length < sizeLine ∧ H' = upd H a (.dK (putK kvs k v))) ∨
  ∃ kvs k b, H a = some (.dT kvs) ∧ y = .ref b ∧ H b = some (.tup (k.map kV)) ∧ kvs.length < sizeLine ∧ H' = upd H a (.dT (putK kvs k v))
theorem DGet.k {H : Hp} {a : Addr} {kvs : List (Key × V)} {k : Key} (e : H a = some (.dK kvs)) : DGet H a (kV k) (valV kvs k) := .inl ⟨kvs, k, .inl e, rfl, rfl⟩
theorem DGet.t {H : Hp} {a b : Addr} {kvs : List (List Key × V)} {k : List Key} (e : H a = some (.dT kvs)) (eb : H b = some (.tup (k.map kV))) : DGet H a (.ref b) (valV kvs k) := .inr ⟨kvs, k, b, .inl e, rfl, eb, rfl⟩
theorem DPut.k {H : Hp} {a : Addr} {kvs : List (Key × V)} {k : Key} {v : V} (e : H a = some (.dK kvs)) (hl : kvs.length < sizeLine) : DPut H a (kV k) v (upd H a (.dK (putK kvs k v))) := .inl ⟨kvs, k, e, rfl, hl, rfl⟩
theorem DPut.t {H : Hp} {a b : Addr} {kvs : List (List Key × V)} {k : List Key} {v : V} (e : H a = some (.dT kvs)) (eb : H b = some (.tup (k.map kV))) (hl : kvs.length < sizeLine) :
    DPut H a (.ref b) v (upd H a (.dT (putK kvs k v))) := .inr ⟨kvs, k, b, e, rfl, eb, hl, rfl⟩


section
variable {X : Cx} {pins : List (Addr × Obj)} {σ : St} {H : Hp} {s : Shared} {a : Addr} {y v : V} {u r : Value} {o : Option V} {A : Around} {E : Value → Shared → Prop}

theorem Inv.big (I : Inv X pins σ H s) : sysModules < s.heap.objs.size := by
  have h : mainGlobals < s.heap.objs.size := (I.mod.glob.keeps I.bk).lt
  exact Nat.lt_trans (by decide) h

/-- d[y], there -/
theorem d_getItem {Q : Value → Shared → Prop} (hu : A.units + 1 < cLine) (I : Inv X pins σ H s) (g : DGet H a y (some v)) (ry : RelV y u) (h : ∀ w' s', Inv X pins σ H s' → RelV v w' → Q w' s') :
    wpAny (model X.prog X.w) A (getItem (.ref a) u) Q E s := by
  rcases g with ⟨kvs, k, e, ey, l⟩ | ⟨kvs, k, b, e, ey, eb, l⟩
  · subst ey
    obtain ⟨z, hd, vs, rel, dd⟩ := dk_rd I.hok e
    obtain ⟨w', hw, rw'⟩ := RelO.some_of (v := v) (o := valueAt vs k) (by rw [l]; exact rel.val k)
    exact wpAny_getItem_of (kV_is ry) dd.mapOf hw (h w' _ (I.tok _) rw')
  · subst ey
    cases (show u = Value.ref b from ry)
    obtain ⟨z, hd, xs, rel, dd⟩ := dt_rd I.hok e
    obtain ⟨w', hw, rw'⟩ := RelO.some_of (v := v) (o := (atKey xs k).map (·.2)) (by rw [l]; exact rel.val k)
    obtain ⟨p, hp, hp2⟩ := Option.map_eq_some_iff.mp hw
    refine wpAny_getItem_heap (tupleKind_room_in1 hu) (key_of I.hok eb) dd hp ?_
    rw [hp2]
    exact h w' _ (I.tok _) rw'
theorem d_notIn {Q : Value → Shared → Prop} (hu : A.units + 1 < cLine) (I : Inv X pins σ H s) (g : DGet H a y o) (ry : RelV y u) (h : ∀ s', Inv X pins σ H s' → Q (.bool (!o.isSome)) s') :
    wpAny (model X.prog X.w) A (compareOp .NotIn u (.ref a)) Q E s := by
  rcases g with ⟨kvs, k, e, ey, l⟩ | ⟨kvs, k, b, e, ey, eb, l⟩
  · subst ey
    obtain ⟨z, hd, vs, rel, dd⟩ := dk_rd I.hok e
    refine wpAny_notIn_of (kV_is ry) hd dd.mapOf ?_
    rw [← (rel.val k).isSome_eq, ← l]
    exact h _ (I.tok _)
  · subst ey
    cases (show u = Value.ref b from ry)
    obtain ⟨z, hd, xs, rel, dd⟩ := dt_rd I.hok e
    refine wpAny_notIn_heap (tupleKind_room_in1 hu) (key_of I.hok eb) hd dd ?_
    have q := (rel.val k).isSome_eq
    rw [Option.isSome_map] at q
    rw [← q, ← l]
    exact h _ (I.tok _)
/-- a dict's object is replaced -/
theorem d_write {h' : Heap} {t' : Nat} {ob : HO} (I : Inv X pins σ H s) (mu : Mut (H a)) (hs : Heap.SameBut a s.heap h') (he : ∃ q, h'.get? a = some q) (new : ObjOk X.prog X.w (upd H a ob) h' a ob) :
    Inv X pins σ (upd H a ob) { s with heap := h', toks := t' } :=
  I.write (x := a) (e := a) mu (.inl rfl) (fun b q hb z => (hs.2 b hb).trans z) he new
theorem dk_new {P : Program} {w : World} {H' : Hp} {h' : Heap} {kvs : List (Key × V)} {vs : List (Key × Value)} (z : kvs.length ≤ sizeLine) (hd : (a == sysModules) = false) (rel : KV kvs vs) (dd : h'.DictOf (mixKind P w) a vs) :
    ObjOk P w H' h' a (.dK kvs) := ⟨z, hd, vs, rel, dd⟩
/-- d[y] = v -/
theorem d_setItem {H' : Hp} {Q : Unit → Shared → Prop} (hu : A.units + 1 < cLine) (I : Inv X pins σ H s) (g : DPut H a y v H') (ry : RelV y u) (rv : RelV v r) (h : ∀ s', Inv X pins σ H' s' → Q () s') :
    wpAny (model X.prog X.w) A (setItem (.ref a) u r) Q E s := by
  rcases g with ⟨kvs, k, e, ey, l, eH⟩ | ⟨kvs, k, b, e, ey, eb, l, eH⟩
  · subst ey eH
    obtain ⟨z, hd, vs, rel, dd⟩ := dk_of I.hok e
    have hz : vs.length ≤ sizeLine := by rw [← rel.length]; exact z
    have hl : (putK kvs k v).length ≤ sizeLine := by have := length_putK kvs k v; omega
    refine wpAny_setItem_pairs (hsz := hz) (kV_is ry) dd fun h' dd' hs => h _ ?_
    have he : ∃ q, h'.get? a = some q := let ⟨q, _, _, hq, _⟩ := dd'; ⟨q, hq⟩
    exact d_write I (by rw [e]; exact True.intro) hs he (dk_new hl hd (rel.put k rv) dd')
  · subst ey eH
    cases (show u = Value.ref b from ry)
    obtain ⟨z, hd, xs, rel, dd⟩ := dt_of I.hok e
    have hz : xs.length ≤ sizeLine := by rw [← Paired.length rel]; exact z
    have hl : (putK kvs k v).length ≤ sizeLine := by have := length_putK kvs k v; omega
    refine wpAny_setItem_heap (hsz := hz) (tupleKind_room_in1 hu) (key_of I.hok eb) dd fun h' dd' hs => h _ ?_
    obtain ⟨q, es, ep, hq, h2, h3, h4, _, h5⟩ := dd'
    refine d_write I (by rw [e]; exact True.intro) hs ⟨q, hq⟩ ⟨hl, hd, _, (rel.put k eb rv).keeps fun c ys ec => ?_, q, es, ep, hq, h2, h3, h4, h5⟩
    rw [upd_ne (ne_of ec e (fun z => nomatch z))]
    exact ec
end

section
variable {X : Cx} {pins : List (Addr × Obj)} {σ : St} {H : Hp} {s : Shared} {a : Addr} {kvs : List (Key × V)} {k : Key} {u : Value} {A : Around} {E : Value → Shared → Prop}
end


/-! ### readings and rules -/
/-- the element of a subscription, not a slice -/
def NoSl (i : Expr) : Prop := ∀ ov iv, subscripted i false ov iv = operate [ov, iv] (getItem ov iv)
theorem subD_of {prog : Program} {w : World} {A : Around} {E : Value → Shared → Prop} {s : Shared} {env : Env} {value slice : Expr} {pos : Pos} {T id : String} {Q : Value → Shared → Prop}
    (hl : typeLookup (.type T) "__getitem__" = pure (some (.builtin id))) (hs : NoSl slice)
    (h : wpAny (model prog w) A (eval value env) (fun o s₁ => wpAny (model prog w) A (eval slice env) (fun i s₂ => s₂.TypeIs o T ∧ wpAny (model prog w) A (getItem o i) Q E s₂) E s₁) E s) :
    wpAny (model prog w) A (eval (.Subscript value slice pos) env) Q E s := by
  refine Subscript_ (wpAny_mono h (fun o s₁ h₁ => wpAny_mono h₁ (fun i s₂ h₂ => ?_) fun _ _ x => x) fun _ _ x => x)
  obtain ⟨hT, h₂⟩ := h₂
  unfold subscriptTail
  refine wpAny_bind ?_
  rw [getitemInPython_of_ne hT.not_modules]
  refine wpAny_bind (wpAny_specialOf hT hl ?_)
  have fin : wpAny (model prog w) A (subscripted slice false o i) (fun r s₃ => wpAny (model prog w) A (letTemporaryGo value o r >>= fun _ => pure r) Q E s₃) E s₂ := by
    rw [hs o i]
    exact wpAny_operating (wpAny_mono h₂ (fun r s₃ h₃ => wpAny_bind (wpAny_letTemporaryGo (wpAny_pure h₃))) fun _ _ x => x)
  first
    | exact wpAny_pure (wpAny_bind fin)
    | exact wpAny_bind (wpAny_pure (wpAny_bind fin))
    | exact wpAny_bind fin

theorem dict_typeIs {X : Cx} {pins : List (Addr × Obj)} {σ : St} {H : Hp} {s : Shared} {a : Addr} {y : V} {o : Option V} (I : Inv X pins σ H s) (g : DGet H a y o) : s.TypeIs (.ref a) "dict" := by
  rcases g with ⟨kvs, k, e, _, _⟩ | ⟨kvs, k, b, e, _, _, _⟩
  · obtain ⟨_, _, vs, _, dd⟩ := dk_rd I.hok e
    exact dd.typeIs
  · obtain ⟨_, _, xs, _, dd⟩ := dt_rd I.hok e
    exact dd.typeIs

/-- d[y] -/
def tDGet (td ty : TE) : TE := fun σ H Q => td σ H fun x H1 => ty σ H1 fun y H2 => ∃ a v, x = .ref a ∧ DGet H2 a y (some v) ∧ Q v H2
/-- y in d, y not in d -/
def tDIn (ty td : TE) : TE := fun σ H Q => ty σ H fun y H1 => td σ H1 fun x H2 => ∃ a o, x = .ref a ∧ DGet H2 a y o ∧ Q (.bl o.isSome) H2
def tDNotIn (ty td : TE) : TE := fun σ H Q => ty σ H fun y H1 => td σ H1 fun x H2 => ∃ a o, x = .ref a ∧ DGet H2 a y o ∧ Q (.bl (!o.isSome)) H2
/-- d[y] = v -/
def sDPut (td ty tv : TE) : TS := fun D σ H => tv σ H fun v H1 => td σ H1 fun x H2 => ty σ H2 fun y H3 => ∃ a H4, x = .ref a ∧ DPut H3 a y v H4 ∧ D.nx σ H4
/-- d[y] op= v -/
def sDAug (td ty tv : TE) (rd : V → V → Hp → VK → Prop) : TS := fun D σ H => td σ H fun x H1 => ty σ H1 fun y H2 => ∃ a v, x = .ref a ∧ DGet H2 a y (some v) ∧
  tv σ H2 fun y2 H3 => rd v y2 H3 fun z H4 => ∃ H5, DPut H4 a y z H5 ∧ D.nx σ H5
/-- del d[y] -/
def sDDel (td ty : TE) : TS := fun D σ H => td σ H fun x H1 => ty σ H1 fun y H2 => ∃ a kvs k, x = .ref a ∧ H2 a = some (.dK kvs) ∧ y = kV k ∧ (valV kvs k).isSome = true ∧ D.nx σ (upd H2 a (.dK (dropK kvs k)))

section
variable {X : Cx} {o i e value : Expr} {pos pos' tpos : Pos} {td ty tv : TE}
theorem pe_dget (hu : X.A.units + 1 < cLine) (ho : PE X o td) (hi : PE X i ty) (hs : NoSl i) : PE X (.Subscript o i pos) (tDGet td ty) := by
  intro pins s σ H Q I h
  refine subD_of PySem.F.slot_dict_getitem.lookup hs (thn (ho pins s σ H _ I h) fun u s1 ⟨x, H1, I1, rx, q1⟩ => thn (hi pins s1 σ H1 _ I1 q1) fun iv s2 ⟨y, H2, I2, ry, a, v, ex, g, q2⟩ => ?_)
  subst ex
  obtain rfl : u = Value.ref a := rx
  exact ⟨dict_typeIs I2 g, d_getItem hu I2 g ry fun w' s3 I3 rw' => ⟨v, H2, I3, rw', q2⟩⟩
theorem pc_dnotin (hu : X.A.units + 1 < cLine) (hi : PE X i ty) (ho : PE X o td) : PC X .NotIn i o (tDNotIn ty td) := by
  intro pins s σ H Q I h
  refine thn (hi pins s σ H _ I h) fun iv s1 ⟨y, H1, I1, ry, q1⟩ => thn (ho pins s1 σ H1 _ I1 q1) fun u s2 ⟨x, H2, I2, rx, a, ov, ex, g, q2⟩ => ?_
  subst ex
  obtain rfl : u = Value.ref a := rx
  exact d_notIn hu I2 g ry fun s3 I3 => ⟨.bl (!ov.isSome), H2, I3, rfl, q2⟩
theorem ps_dput (hu : X.A.units + 1 < cLine) (ho : PE X o td) (hi : PE X i ty) (hv : PE X value tv) (hs : swapsWith value (some (.Subscript o i pos')) pos.line X.env = pure false) :
    PS X (.Assign [.Subscript o i pos'] value pos) (sDPut td ty tv) := by
  intro pins s σ H D I h
  refine wpAny_Assign_Subscript (thn (hv pins s σ H _ I h) fun r s1 ⟨v, H1, I1, rv, q1⟩ => thn (ho pins s1 σ H1 _ I1 q1) fun u s2 ⟨x, H2, I2, rx, q2⟩ => thn (hi pins s2 σ H2 _ I2 q2) fun iv s3 ⟨y, H3, I3, ry, a, H4, ex, g, q3⟩ => ?_) hs
  subst ex
  obtain rfl : u = Value.ref a := rx
  exact d_setItem hu I3 g ry rv fun s4 I4 => ⟨σ, H4, I4, q3⟩
end


/-! ### displays -/
theorem dk_empty {P : Program} {w : World} {H : Hp} (h : Heap) (hb : sysModules < h.objs.size) : ObjOk P w H (h.push { cls := .type "dict", data := .dict #[] }) h.objs.size (.dK []) :=
  ⟨Nat.zero_le _, beq_eq_false_iff_ne.mpr (Ne.symm (Nat.ne_of_lt hb)), [], .nil, Heap.DictOf.new h⟩
/-- {}, to be a dict of the kind that is wanted -/
def tDNewK : TE := fun _ H Q => ∀ p, H p = none → Q (.ref p) (upd H p (.dK []))
def tDNewT : TE := fun _ H Q => ∀ p, H p = none → Q (.ref p) (upd H p (.dT []))
section
variable {X : Cx} {pos : Pos}
theorem pe_dnewK : PE X (.Dict [] [] pos) tDNewK := fun pins s σ H Q I h =>
  wpAny_Dict_empty ⟨.ref s.heap.objs.size, _, I.laid (a := s.heap.objs.size) (o := .dK []) (t' := s.toks) (fun _ _ q => Heap.get?_push_of_some _ q) (Nat.le_refl _) (dk_empty s.heap I.big), rfl, h _ (I.hok.fresh (Nat.le_refl _))⟩
end

/-- the pairs of a display, from the left -/
def tPairs : List (TE × TE) → St → Hp → (List (V × V) → Hp → Prop) → Prop
  | [], _, H, Q => Q [] H
  | (tk, tv) :: r, σ, H, Q => tk σ H fun x H1 => tv σ H1 fun y H2 => tPairs r σ H2 fun ps H3 => Q ((x, y) :: ps) H3

def mergeK (kvs more : List (Key × V)) : List (Key × V) := more.foldl (fun acc kv => putK acc kv.1 kv.2) kvs
theorem KV.merge : ∀ {more : List (Key × V)} {rs : List (Key × Value)} {kvs : List (Key × V)} {vs : List (Key × Value)}, KV more rs → KV kvs vs → KV (mergeK kvs more) (merged vs rs) := by
  intro more rs kvs vs r
  unfold KV at r
  induction r generalizing kvs vs with
  | nil => intro q; exact q
  | @cons p q ps qs h t ih =>
    intro r0
    have e : KV (putK kvs p.1 p.2) (stored vs q.1 q.2) := by
      have := r0.put p.1 h.2
      rw [← h.1]; exact this
    exact ih e
/-- {k: v, ..} with keys ints and texts; the new dict stands empty while the pairs are made -/
def tDisp (trs : List (TE × TE)) : TE := fun σ H Q => ∀ p, H p = none → tPairs trs σ (upd H p (.dK [])) fun ps H2 => H2 p = some (.dK []) ∧ ∃ kvs : List (Key × V), ps = kvs.map (fun kv => (kV kv.1, kv.2)) ∧ kvs.length ≤ 15 ∧ Q (.ref p) (upd H2 p (.dK (mergeK [] kvs)))


/-! ### methods -/
/-- a method call o.m(e) of a built-in, with one argument: what must be seen of the text -/
structure M1 (X : Cx) (o : Expr) (m : Str) (apos : Pos) (e : Expr) (cpos : Pos) : Prop where
  base : attributeBase o m X.env (eval o X.env) = eval o X.env
  few : ((backTo cpos (starEach [e] X.env)).all (fun x => !x.1) && (backToKw cpos (keywordEach [] X.env)).all (fun x => x.1.isSome)
    && decide (([e] : List Expr).length + ([] : List Keyword).length + (if ([] : List Keyword).isEmpty then 0 else 1) < 30)) = true
  line : (apos.endLine == cpos.line) = true
  trees : backTo cpos (starEach [e] X.env) = [(false, eval e X.env)]
structure M2 (X : Cx) (o : Expr) (m : Str) (apos : Pos) (e f : Expr) (cpos : Pos) : Prop where
  base : attributeBase o m X.env (eval o X.env) = eval o X.env
  few : ((backTo cpos (starEach [e, f] X.env)).all (fun x => !x.1) && (backToKw cpos (keywordEach [] X.env)).all (fun x => x.1.isSome)
    && decide (([e, f] : List Expr).length + ([] : List Keyword).length + (if ([] : List Keyword).isEmpty then 0 else 1) < 30)) = true
  line : (apos.endLine == cpos.line) = true
  trees : backTo cpos (starEach [e, f] X.env) = [(false, eval e X.env), (false, eval f X.env)]

/-- a is a dict, whatever its keys -/
def IsD (H : Hp) (a : Addr) : Prop := (∃ kvs, Rd H a (.dK kvs)) ∨ ∃ kvs, Rd H a (.dT kvs)

section
variable {X : Cx} {pins : List (Addr × Obj)} {σ : St} {H : Hp} {s : Shared} {a : Addr} {y d : V} {u r : Value} {o : Option V} {A : Around} {E : Value → Shared → Prop}
end

def tDGet1 (td ty : TE) : TE := fun σ H Q => td σ H fun x H1 => ∃ a, x = .ref a ∧ IsD H1 a ∧ ty σ H1 fun y H2 => ∃ o, DGet H2 a y o ∧ Q (o.getD .non) H2
def tDGet2 (td ty tx : TE) : TE := fun σ H Q => td σ H fun x H1 => ∃ a, x = .ref a ∧ IsD H1 a ∧ ty σ H1 fun y H2 => tx σ H2 fun z H3 => ∃ o, DGet H3 a y o ∧ Q (o.getD z) H3
/-- d.pop(k): there; d.pop(k, x): there or not -/
def tDPop1 (td ty : TE) : TE := fun σ H Q => td σ H fun x H1 => ∃ a, x = .ref a ∧ IsD H1 a ∧ ty σ H1 fun y H2 => ∃ kvs k v, H2 a = some (.dK kvs) ∧ y = kV k ∧ valV kvs k = some v ∧ Q v (upd H2 a (.dK (dropK kvs k)))
def tDPop2 (td ty tx : TE) : TE := fun σ H Q => td σ H fun x H1 => ∃ a, x = .ref a ∧ IsD H1 a ∧ ty σ H1 fun y H2 => tx σ H2 fun z H3 => ∃ kvs k, H3 a = some (.dK kvs) ∧ y = kV k ∧
  (∀ v, valV kvs k = some v → Q v (upd H3 a (.dK (dropK kvs k)))) ∧ (valV kvs k = none → Q z H3)
section
variable {X : Cx} {o e f : Expr} {apos cpos : Pos} {td ty tx : TE}
end

/-! ### dict(d): a copy -/
section
variable {X : Cx} {pins : List (Addr × Obj)} {σ : St} {H : Hp} {s : Shared} {a : Addr} {kvs : List (Key × V)} {A : Around} {E : Value → Shared → Prop}
end


section
variable {X : Cx} {pins : List (Addr × Obj)} {σ : St} {H : Hp} {s : Shared} {a : Addr} {y : V} {u : Value} {A : Around} {E : Value → Shared → Prop}
end
end L2

namespace L2
open PySem PySem.Spec PyProof.Rows


section
variable {prog : Program} {w : World} {A : Around} {E : Value → Shared → Prop}


end

section
variable {X : Cx}
end
end L2

namespace L2
open PySem PySem.Spec PyProof.Rows


section
variable {X : Cx} {pins : List (Addr × Obj)} {σ : St} {H : Hp} {s : Shared} {h' : Heap}
/-- .. and one new object is laid -/
theorem Inv.turnedNew {t' : Nat} {ch : List Addr} {T : Addr} {ob : HO} (I : Inv X pins σ H s) (k : ∀ b o, b ∉ ch → s.heap.get? b = some o → h'.get? b = some o) (hf : ∀ b ∈ ch, FpOk X pins H b) (hT : s.heap.objs.size ≤ T)
    (new : ObjOk X.prog X.w (upd H T ob) h' T ob) : Inv X pins σ (upd H T ob) { s with heap := h', toks := t' } := by
  have hn : H T = none := I.hok.fresh hT
  have nit : ∀ b u, H b = some u → b ∉ ch := fun b u e z => by
    have q := (hf b z).1
    rw [q] at e; cases e
  refine I.step (g' := s.gens) (d' := s.drawn) (ch := ch) (fun b hb => ⟨(hf b hb).2.2.2.1, (hf b hb).2.1, (hf b hb).2.2.2.2.1, (hf b hb).2.2.2.2.2⟩) (fun b o _ _ hc e _ => k b o hc e) (fun b o _ _ hc e _ => ⟨o.slots, k b o hc e⟩)
    (fun b o _ e n => ?_) (fun b o hc e => ⟨o, k b o hc e⟩) (fun b xs e => ?_) (fun b o u e => ?_) (fun b ps e => ⟨#[], ?_⟩) (fun m hm => ?_) (fun b u e => ?_) I.bare
  · rw [upd_ne (Nat.ne_of_lt (Nat.lt_of_lt_of_le (Heap.lt_size e) hT))]; exact n
  · rw [upd_ne (ne_of_none e hn)]; exact e
  · rw [upd_ne (ne_of_none e hn)]; exact e
  · rw [upd_ne (ne_of_none e hn), e]; simp
  · obtain ⟨o, es, ep, ho, r⟩ := hm
    exact ⟨o, es, ep, k _ o (fun z => (hf _ z).2.1 rfl) ho, r⟩
  · by_cases hb : b = T
    · subst hb
      rw [upd_same] at e
      cases e
      exact new
    · rw [upd_ne hb] at e
      refine (I.hok b u e).stay (fun c v hc q => k c v ?_ q) (fun c q => by rw [upd_ne (ne_of_none q hn)]; exact q) fun c xs q => by rw [upd_ne (ne_of_none q hn)]; exact q
      rcases hc with z | z
      · rw [z]; exact nit b u e
      · exact nit c _ z

/-! ### locking a thing while a statement runs -/
theorem Inv.lock {d : Addr} {u : HO} (I : Inv X pins σ H s) (h : H d = some u) (mu : Mut (some u)) : ∃ od, Inv X pins σ (upd H d (.frz od u)) s := by
  have x := I.hok d u h
  have ex : ∃ od, s.heap.get? d = some od := by
    cases u with
    | lst xs => obtain ⟨_, _, _, _, e⟩ := x; exact ⟨_, e⟩
    | dK kvs => obtain ⟨_, _, _, _, o, _, _, e, _⟩ := x; exact ⟨o, e⟩
    | dT kvs => obtain ⟨_, _, _, _, o, _, _, e, _⟩ := x; exact ⟨o, e⟩
    | set S n => obtain ⟨o, _, _, _, e, _⟩ := x; exact ⟨o, e⟩
    | ins C dx fs => obtain ⟨_, _, _, e, _⟩ := x; exact ⟨_, e⟩
    | ext φ => obtain ⟨_, ⟨_, e⟩, _⟩ := x; exact ⟨_, e⟩
    | _ => exact False.elim mu
  obtain ⟨od, e⟩ := ex
  have new : ObjOk X.prog X.w (upd H d (.frz od u)) s.heap d (.frz od u) := by
    refine ⟨e, x.stay (fun b v _ q => q) (fun b q => ?_) fun b xs q => ?_⟩
    · rw [upd_ne (fun z => by rw [z, h] at q; cases q; exact mu)]; exact q
    · rw [upd_ne (fun z => by rw [z, h] at q; cases q; exact mu)]; exact q
  exact ⟨od, I.write (x := d) (e := d) (t' := s.toks) (h' := s.heap) (by rw [h]; exact mu) (.inl rfl) (fun b v _ q => q) ⟨od, e⟩ new⟩
theorem Inv.nofrz {d : Addr} {u : HO} (I : Inv X pins σ H s) (h : H d = some u) (mu : Mut (some u)) : ∀ o' u', X.H_0 d ≠ some (.frz o' u') := fun o' u' e => by
  have q := I.base.frzs d o' u' e
  rw [h] at q
  cases q
  exact mu
theorem Inv.unlock {d : Addr} {od : Obj} {u : HO} (I : Inv X pins σ H s) (h : H d = some (.frz od u)) (hn : ∀ o' u', X.H_0 d ≠ some (.frz o' u')) : Inv X pins σ (upd H d u) s := by
  have neH : ∀ b o, H b = some o → (∀ o' u', o ≠ .frz o' u') → b ≠ d := fun b o e hne z => by
    rw [z, h] at e
    cases e
    exact hne _ _ rfl
  have neN : ∀ b, H b = none → b ≠ d := fun b e z => by rw [z, h] at e; cases e
  refine ⟨I.ok, I.os, I.bare, ⟨I.base.keep, I.base.slot, fun b o e n hx => ?_, I.base.there, fun b xs e => ?_, fun b o x e => ?_, fun b ps e => ?_⟩, I.loc, I.cell, ?_, fun x c e => ?_, fun p hp => ?_, fun b o e => ?_, I.len⟩
  · rw [upd_ne (neN b (I.base.free b o e n hx))]; exact I.base.free b o e n hx
  · have q := I.base.tups b xs e
    rw [upd_ne (neH b _ q (fun _ _ z => nomatch z))]; exact q
  · have q := I.base.frzs b o x e
    rw [upd_ne (fun z => by rw [z] at e; exact hn _ _ e)]; exact q
  · obtain ⟨m, q⟩ := I.base.tbls b ps e
    exact ⟨m, by rw [upd_ne (neH b _ q (fun _ _ z => nomatch z))]; exact q⟩
  · rw [upd_ne (neN _ I.free)]; exact I.free
  · rw [upd_ne (neN c (I.freeC x c e))]; exact I.freeC x c e
  · obtain ⟨e, n, r⟩ := I.pin p hp
    exact ⟨e, by rw [upd_ne (neN _ n)]; exact n, r⟩
  · by_cases hb : b = d
    · rw [hb, upd_same] at e
      cases e
      rw [hb]
      obtain ⟨_, x⟩ := I.hok d _ h
      exact x.stay (fun c v _ q => q) (fun c q => by rw [upd_ne (neH c _ q (fun _ _ z => nomatch z))]; exact q) fun c xs q => by rw [upd_ne (neH c _ q (fun _ _ z => nomatch z))]; exact q
    · rw [upd_ne hb] at e
      exact (I.hok b o e).stay (fun c v _ q => q) (fun c q => by rw [upd_ne (neH c _ q (fun _ _ z => nomatch z))]; exact q) fun c xs q => by rw [upd_ne (neH c _ q (fun _ _ z => nomatch z))]; exact q
end
/-- the statement runs while the thing at d is locked (read, not written); d and what stands there are the reading's choice -/
def tLock (t : TS) : TS := fun D σ H => ∃ d u, H d = some u ∧ Mut (some u) ∧ ∀ od, t ⟨fun σ' H' => H' d = some (.frz od u) ∧ D.nx σ' (upd H' d u), fun v H' => H' d = some (.frz od u) ∧ D.rt v (upd H' d u), fun σ' H' => H' d = some (.frz od u) ∧ D.bk σ' (upd H' d u), fun σ' H' => H' d = some (.frz od u) ∧ D.ct σ' (upd H' d u)⟩ σ (upd H d (.frz od u))
def tLockE (t : TE) : TE := fun σ H Q => ∃ d u, H d = some u ∧ Mut (some u) ∧ ∀ od, t σ (upd H d (.frz od u)) fun v H' => H' d = some (.frz od u) ∧ Q v (upd H' d u)
section
variable {X : Cx}
theorem ps_lock {st : Stmt} {t : TS} (h : PS X st t) : PS X st (tLock t) := by
  intro pins s σ H D I hw
  obtain ⟨d, u, hd, mu, hw⟩ := hw
  obtain ⟨od, I1⟩ := I.lock hd mu
  refine thn (h pins s σ _ _ I1 (hw od)) fun f s1 q => ?_
  cases f with
  | next => obtain ⟨σ', H', I2, e, q⟩ := q; exact ⟨σ', _, I2.unlock e (I.nofrz hd mu), q⟩
  | brk => obtain ⟨σ', H', I2, e, q⟩ := q; exact ⟨σ', _, I2.unlock e (I.nofrz hd mu), q⟩
  | cont => obtain ⟨σ', H', I2, e, q⟩ := q; exact ⟨σ', _, I2.unlock e (I.nofrz hd mu), q⟩
  | ret v => obtain ⟨x, σ', H', I2, r, e, q⟩ := q; exact ⟨x, σ', _, I2.unlock e (I.nofrz hd mu), r, q⟩
theorem pe_lock {e : Expr} {t : TE} (h : PE X e t) : PE X e (tLockE t) := by
  intro pins s σ H Q I hw
  obtain ⟨d, u, hd, mu, hw⟩ := hw
  obtain ⟨od, I1⟩ := I.lock hd mu
  refine thn (h pins s σ _ _ I1 (hw od)) fun v s1 ⟨x, H1, I2, r, e2, q⟩ => ?_
  exact ⟨x, _, I2.unlock e2 (I.nofrz hd mu), r, q⟩

/-! ### one iterator just laid -/
theorem pi_one {tg : Expr} {pins : List (Addr × Obj)} {σ : St} {H : Hp} {s : Shared} {R : It → Hp → Prop} {J : It} {tn : Nat → Heap → Prop} {tk : Nat} (I : Inv X pins σ H s) (o : Obj)
    (T : Turn X.prog X.w X.K tg J [s.heap.objs.size] s.heap.objs.size tn) (st : tn 0 (s.heap.push o)) (q : R J H) : PIE X pins σ tg R (.ref s.heap.objs.size) { s with heap := s.heap.push o, toks := tk } := by
  refine ⟨s.heap.objs.size, [s.heap.objs.size], tn, J, H, rfl, I.kept fun b ob e => Heap.get?_push_of_some _ e, T, st, fun b hb => ?_, q⟩
  have e : b = s.heap.objs.size := by simpa using hb
  subst e
  exact I.fpOk (Nat.le_refl _) (I.hok.fresh (Nat.le_refl _))
end

/-! ### range with a step -/
/-- lo, lo + c, .. (n of them) -/
def Itc (lo c : Int) (n : Nat) : It := ⟨fun i _ => i < n, fun i H x H' => H' = H ∧ x = .int (lo + (i : Nat) * c), fun i _ => n ≤ i⟩
/-- range(i, j, c): small bounds, n items -/
def RgC (i j c : Int) (n : Nat) : Prop := c ≠ 0 ∧ c.natAbs < 1073741824 ∧ Builtin.Range.small i j c = true ∧ Builtin.Range.rangeSize i j c = n
theorem RgC.neg {i j : Int} (ha : -(2 ^ 62) ≤ i) (ha' : i < 2 ^ 62) (hb : -(2 ^ 62) ≤ j) (hb' : j < 2 ^ 62) : RgC i j (-1) (i - j).toNat :=
  ⟨by decide, by decide, PySem.W.small_down ha ha' hb hb', PySem.W.rangeSize_downNat i j⟩
def iRng3 (ta : TA) : TI := fun σ H R => ta σ H fun vs H1 => ∃ (i j c : Int) (n : Nat), vs = [.int i, .int j, .int c] ∧ RgC i j c n ∧ R (Itc i c n) H1
section
variable {X : Cx} {tg : Expr}
end

/-! ### reversed(list) -/
/-- the list at a (n items at the start, which the loop leaves there), from its end -/
def Itv (K : PySem.W.Frag) (a : Addr) (n : Nat) : It :=
  ⟨fun i H => i < n ∧ ∃ (xs : List V) (x : V), SqL K H a xs ∧ xs[n - 1 - i]? = some x, fun i H x H' => H' = H ∧ ∀ xs, SqL K H a xs → xs[n - 1 - i]? = some x, fun i _ => n ≤ i⟩
def iRev (K : PySem.W.Frag) (ta : TA) : TI := fun σ H R => ta σ H fun vs H1 => ∃ (a : Addr) (xs : List V), vs = [.ref a] ∧ SqL K H1 a xs ∧ R (Itv K a xs.length) H1
section
variable {X : Cx} {tg : Expr}
end

/-! ### a str -/
def Its (x : Str) : It := ⟨fun i _ => i < x.cps.size, fun i H v H' => H' = H ∧ ∃ c, x.cps[i]? = some c ∧ v = .str ⟨#[c]⟩, fun i _ => x.cps.size ≤ i⟩
theorem turn_str {P : Program} {w : World} {K : PySem.W.Frag} {tg : Expr} (it : Addr) (x : Str) (t : Tok) (ty : String) (hty : ty = "str_ascii_iterator" ∨ ty = "str_iterator") :
    Turn P w K tg (Its x) [it] it (fun i h => h.IsStrIter it ty x t i) where
  mem := by simp
  obj := fun i h st b hb => by
    have e : b = it := by simpa using hb
    subst e
    obtain ⟨o, e, c, d⟩ := st
    exact ⟨o, e, fun v z => by rw [d] at z; cases z⟩
  keep := fun i h h' st k => let ⟨o, ho, r⟩ := st; ⟨o, k it (by simp) o ho, r⟩
  item := by
    intro X hP hw hK hc i pins s σ H E I hf st hg
    subst hP hw hK
    obtain ⟨f0, f1, f2, f3, f4, f5⟩ := hf it (by simp)
    have W : Walks X.prog X.w X.A it [it] [it] x.cps.size (SignAt x) (fun i h => h.IsStrIter it ty x t i) := by
      rcases hty with e | e
      · rw [e]; exact Walks.strAscii (I.ok.hd hc) it x t
      · rw [e]; exact Walks.strWide (I.ok.hd hc) it x t
    have hno : ["enumerate", "zip", "dict_itemiterator", "dict_reverseitemiterator", "odict_iterator", "itertools.zip_longest", "itertools.pairwise"].contains ty = false := by
      rcases hty with e | e
      · rw [e]; decide
      · rw [e]; decide
    refine W.item i s _ _ hg st fun v h' tk hv st' kk => ?_
    obtain ⟨c, u, hcx, rfl⟩ := hv
    have I1 : Inv X pins σ H { s with heap := h', toks := tk } := I.turned (fun b o hb e => kk b o (by simpa using hb) e) f0 f1 f3 f4 f5
    obtain ⟨oi, e, cc, dd⟩ := id st'
    exact ⟨_, rfl, go_of (s := { s with heap := h', toks := tk }) e cc dd hno ⟨.str ⟨#[c]⟩, H, I1, ⟨u, rfl⟩, ⟨rfl, c, hcx, rfl⟩, st', fun b hb => (hf b hb).1⟩⟩
  done := by
    intro X hP hw hK hc i pins s σ H E I hf st hg
    subst hP hw hK
    obtain ⟨f0, f1, f2, f3, f4, f5⟩ := hf it (by simp)
    have hx : x.cps[i]? = none := Array.getElem?_eq_none hg
    rcases hty with e | e
    · rw [e] at st
      exact wpAny_pyNext_ascii_end (I.ok.hd hc) st hx fun h' eb => ⟨rfl, I.turned (t' := s.toks) (fun b o hb e => eb b o hb e) f0 f1 f3 f4 f5⟩
    · rw [e] at st
      exact wpAny_pyNext_wide_end (I.ok.hd hc) st hx fun h' eb => ⟨rfl, I.turned (t' := s.toks) (fun b o hb e => eb b o hb e) f0 f1 f3 f4 f5⟩
  self := fun A i s Q E st h => by
    rcases hty with e | e
    · rw [e] at st; exact wpAny_pyIter_striter_ascii st h
    · rw [e] at st; exact wpAny_pyIter_striter_wide st h
def iStr (te : TE) : TI := fun σ H R => te σ H fun v H1 => ∃ x, v = .str x ∧ R (Its x) H1
theorem pi_str {X : Cx} {tg e : Expr} {te : TE} (he : PE X e te) : PI X tg e (iStr te) := by
  intro pins s σ H R I h
  refine thn (he pins s σ H _ I h) fun v s1 ⟨y, H1, I1, r1, x, ex, q⟩ => ?_
  subst ex
  obtain ⟨t, rfl⟩ := r1
  cases ha : x.cps.all (· < 128)
  · exact wpAny_pyIter_wide ha (pi_one (tk := s1.toks) I1 _ (turn_str _ x t "str_iterator" (.inr rfl)) ⟨_, Heap.get?_push_size _ rfl, rfl, rfl⟩ q)
  · exact wpAny_pyIter_ascii ha (pi_one (tk := s1.toks) I1 _ (turn_str _ x t "str_ascii_iterator" (.inl rfl)) ⟨_, Heap.get?_push_size _ rfl, rfl, rfl⟩ q)

/-! ### a dict's keys: any dict's entries -/
section
variable {prog : Program} {w : World} {A : Around} {E : Value → Shared → Prop} {s : Shared}
theorem iter_keys {d : Addr} {o : Obj} {es : Array DictEntry} {ep : Nat} {Q : Value → Shared → Prop} (hd : (d == sysModules) = false) (ho : s.heap.get? d = some o) (hc : o.ExactDict) (hdat : o.data = .dict es ep)
    (hQ : Q (.ref s.heap.objs.size) { s with heap := s.heap.push { cls := .type "dict_keyiterator", data := .fields #[.ref d, .int 0 0, .int es.size 0, .int ep 0] } }) :
    wpAny (model prog w) A (pyIter (.ref d)) Q E s := by
  have hT : s.TypeIs (.ref d) "dict" := ⟨o, ho, hc.1⟩
  refine wpAny_pyIter_slot hT F.slot_dict_iter (wpAny_call_entry F.slot_dict_iter hT F.entry_dict_iter ?_ (F.args_dict_iter_1 _))
  unfold Builtin.«dict.__iter__»
  refine wpAny_bind ?_
  unfold Builtin.Dict.dictSlotNone
  refine wpAny_bind (wpAny_notOrdered_dict hT ?_)
  show wpAny _ _ (pure (Value.ref d)) _ _ s
  refine wpAny_pure ?_
  show wpAny _ _ (Builtin.Dict.showsAll d >>= _) _ _ s
  unfold Builtin.Dict.showsAll
  rw [if_neg (by rw [hd]; exact Bool.false_ne_true)]
  refine wpAny_bind (wpAny_pure ?_)
  refine wpAny_bind (wpAny_dictEntries ho hdat ?_)
  refine wpAny_bind (wpAny_dictEpoch ho hdat ?_)
  refine wpAny_bind (wpAny_newObj_type (wpAny_pure ⟨_, rfl, "dict_keyiterator", _, ⟨_, Heap.get?_push_size _ rfl, rfl⟩, F.slot_dict_keyiterator_next.lookup, ?_⟩))
  simpa [rawInt] using hQ
theorem next_key_item {it d : Addr} {i n ep : Nat} {od : Obj} {es : Array DictEntry} {en : DictEntry} {Q : Option Value → Shared → Prop} (hit : s.heap.IsKeyIter it d i n ep) (hod : s.heap.get? d = some od) (hdd : od.data = .dict es ep)
    (hsz : es.size = n) (hx : es[i]? = some en) (hQ : ∀ h', h'.IsKeyIter it d (i + 1) n ep → Heap.SameBut it s.heap h' → Q (some en.key) { s with heap := h' }) : wpAny (model prog w) A (pyNext (.ref it)) Q E s := by
  obtain ⟨o, ho, hc, hd⟩ := id hit
  unfold pyNext
  refine wpAny_bind (wpAny_attempt (wpAny_callSpecial?_slot (name := Str.ofString "__next__") hit.typeIs F.slot_dict_keyiterator_next
    (wpAny_call_entry F.slot_dict_keyiterator_next hit.typeIs F.entry_dict_keyiterator_next ?_ (F.args_dict_keyiterator_next_1 _))))
  refine wpAny_bind (wpAny_pure ?_)
  refine wpAny_bind ?_
  refine wpAny_bind ?_
  first | refine wpAny_bind (wpAny_typeNameOfWhole_keyiter hit.typeIs (wpAny_pure ?_)) | refine wpAny_bind (wpAny_typeNameOf_keyiter hit.typeIs (wpAny_pure ?_))
  refine wpAny_bind (wpAny_fieldsOf ho hd ?_)
  have hown : Builtin.Dict_items.ownsTuple "dict_keyiterator" = false := by decide
  simp only [hown, Bool.false_eq_true, if_false]
  show wpAny _ _ (if (Value.ref d == Value.none) = true then _ else _) _ _ s
  rw [if_neg (show ¬ ((Value.ref d == Value.none) = true) from Bool.false_ne_true)]
  refine wpAny_bind (wpAny_pure ?_)
  refine wpAny_bind (wpAny_dictEntries hod hdd ?_)
  rw [if_neg (by rw [hsz]; simp)]
  refine wpAny_bind (wpAny_pure ?_)
  refine wpAny_bind (wpAny_dictEpoch hod hdd ?_)
  rw [if_neg (by simp)]
  refine wpAny_pure ?_
  obtain ⟨hlt', hen⟩ := Array.getElem?_eq_some_iff.mp hx
  simp only [show ¬ ((i : Int) < 0) from by omega, if_false, Int.toNat_natCast, Array.getElem?_eq_getElem hlt']
  refine wpAny_bind ?_
  first | refine wpAny_bind (wpAny_typeNameOfWhole_keyiter hit.typeIs (wpAny_pure ?_)) | refine wpAny_bind (wpAny_typeNameOf_keyiter hit.typeIs (wpAny_pure ?_))
  refine wpAny_bind (wpAny_isOneOf_keyiter hit.typeIs ?_)
  show wpAny _ _ (setField (.ref it) 1 (rawInt ((i : Int) + 1)) >>= _) _ _ s
  refine wpAny_bind (wpAny_setField ho hd (by simp) ?_)
  have hit' : (s.heap.update it (Obj.mapFields (·.setIfInBounds 1 (rawInt ((i : Int) + 1))))).IsKeyIter it d (i + 1) n ep :=
    ⟨_, Heap.get?_update_self _ ho (Obj.isFreed_of_fields (Obj.data_mapFields hd _)), (Obj.cls_mapFields ..).trans hc, by rw [Obj.data_mapFields hd]; simp [rawInt]⟩
  refine wpAny_bind (wpAny_holding ?_)
  refine wpAny_bind (wpAny_isOneOf_keyiter (s := { s with heap := s.heap.update it (Obj.mapFields (·.setIfInBounds 1 (rawInt ((i : Int) + 1)))) }) hit'.typeIs ?_)
  show wpAny _ _ (pure es[i].key) _ _ _
  rw [hen]
  exact wpAny_pure (wpAny_pure ⟨_, rfl, wpAny_pure (hQ _ hit' (Heap.SameBut.update ..))⟩)
theorem next_key_end {it d : Addr} {i n ep : Nat} {od : Obj} {es : Array DictEntry} {Q : Option Value → Shared → Prop} (hh : A.handled = none) (hit : s.heap.IsKeyIter it d i n ep) (hod : s.heap.get? d = some od) (hdd : od.data = .dict es ep)
    (hsz : es.size = n) (hge : n ≤ i) (hQ : ∀ h', Heap.ExtBut it s.heap h' → Q none { s with heap := h' }) : wpAny (model prog w) A (pyNext (.ref it)) Q E s := by
  obtain ⟨o, ho, hc, hd⟩ := id hit
  unfold pyNext
  refine wpAny_bind (wpAny_attempt (wpAny_callSpecial?_slot (name := Str.ofString "__next__") hit.typeIs F.slot_dict_keyiterator_next
    (wpAny_call_entry F.slot_dict_keyiterator_next hit.typeIs F.entry_dict_keyiterator_next ?_ (F.args_dict_keyiterator_next_1 _))))
  refine wpAny_bind (wpAny_pure ?_)
  refine wpAny_bind ?_
  refine wpAny_bind ?_
  first | refine wpAny_bind (wpAny_typeNameOfWhole_keyiter hit.typeIs (wpAny_pure ?_)) | refine wpAny_bind (wpAny_typeNameOf_keyiter hit.typeIs (wpAny_pure ?_))
  refine wpAny_bind (wpAny_fieldsOf ho hd ?_)
  have hown : Builtin.Dict_items.ownsTuple "dict_keyiterator" = false := by decide
  simp only [hown, Bool.false_eq_true, if_false]
  show wpAny _ _ (if (Value.ref d == Value.none) = true then _ else _) _ _ s
  rw [if_neg (show ¬ ((Value.ref d == Value.none) = true) from Bool.false_ne_true)]
  refine wpAny_bind (wpAny_pure ?_)
  refine wpAny_bind (wpAny_dictEntries hod hdd ?_)
  rw [if_neg (by rw [hsz]; simp)]
  refine wpAny_bind (wpAny_pure ?_)
  refine wpAny_bind (wpAny_dictEpoch hod hdd ?_)
  rw [if_neg (by simp)]
  refine wpAny_pure ?_
  have hge' : es.size ≤ i := by rw [hsz]; exact hge
  simp only [show ¬ ((i : Int) < 0) from by omega, if_false, Int.toNat_natCast, Array.getElem?_eq_none hge']
  refine wpAny_bind ?_
  first | refine wpAny_bind (wpAny_typeNameOfWhole_keyiter hit.typeIs (wpAny_pure ?_)) | refine wpAny_bind (wpAny_typeNameOf_keyiter hit.typeIs (wpAny_pure ?_))
  show wpAny _ _ (setField (.ref it) 0 .none >>= _) _ _ s
  refine wpAny_bind (wpAny_setField ho hd (by simp) ?_)
  show wpAny _ _ (newExc (.type "StopIteration") [] >>= _) _ _ _
  refine wpAny_bind ?_
  simp only [newExc, newTuple]
  refine wpAny_bind (wpAny_newObj_type ?_ (by size_fits))
  refine wpAny_bind (m := firstArgMember _ _) (wpAny_of_eq (a := Value.none) (by first | rfl | (simp only [firstArgMember]; rfl)) ?_)
  refine wpAny_newObj_type ?_ (by size_fits)
  simp only [raiseNew]
  refine wpAny_bind (wpAny_handled ?_)
  rw [show A.in1.handled = none from hh]
  refine wpAny_bind (wpAny_pure (wpAny_throw ?_))
  refine wpAny_bind (wpAny_isInstance (T := "StopIteration") (b := true) ⟨_, Heap.get?_push_size _ rfl, rfl⟩ isSubtype_stop ?_)
  exact wpAny_pure (hQ _ (((Heap.SameBut.update ..).extBut.push _).push _))
end

/-! ### a locked dict -/
theorem kv_get {κ : Type} {kvs : List (κ × V)} {vs : List (κ × Value)} (h : KV kvs vs) : ∀ {i : Nat} {k : κ} {v : V}, kvs[i]? = some (k, v) → ∃ u, vs[i]? = some (k, u) ∧ RelV v u := by
  unfold KV at h
  induction h with
  | nil => intro i k v e; simp at e
  | @cons a b l₁ l₂ r t ih =>
    intro i k v e
    cases i with
    | zero =>
      simp only [List.getElem?_cons_zero, Option.some.injEq] at e
      subst e
      refine ⟨b.2, ?_, r.2⟩
      simp only [List.getElem?_cons_zero]
      exact congrArg some (Prod.ext r.1.symm rfl)
    | succ j =>
      simp only [List.getElem?_cons_succ] at e ⊢
      exact ih e
theorem paired_get {α β : Type} {G : α → β → Prop} {l₁ : List α} {l₂ : List β} (h : Paired G l₁ l₂) : ∀ {i : Nat} {a : α}, l₁[i]? = some a → ∃ b, l₂[i]? = some b ∧ G a b := by
  induction h with
  | nil => intro i a e; simp at e
  | @cons a b l₁ l₂ r t ih =>
    intro i a' e
    cases i with
    | zero =>
      simp only [List.getElem?_cons_zero, Option.some.injEq] at e
      subst e
      exact ⟨b, rfl, r⟩
    | succ j =>
      simp only [List.getElem?_cons_succ] at e ⊢
      exact ih e
theorem relV_key {k : Key} {u : Value} (h : keyIs k u = true) : RelV (kV k) u := by
  rcases keyIs_shape h with ⟨i, t, rfl, rfl⟩ | ⟨x, t, rfl, rfl⟩
  · exact ⟨t, rfl⟩
  · exact ⟨t, rfl⟩
section
variable {X : Cx} {pins : List (Addr × Obj)} {σ : St} {H : Hp} {s : Shared} {d : Addr} {o : Obj}
theorem Inv.frzK {kvs : List (Key × V)} (I : Inv X pins σ H s) (h : H d = some (.frz o (.dK kvs))) :
    (d == sysModules) = false ∧ s.heap.get? d = some o ∧ o.ExactDict ∧ ∃ (es : Array DictEntry) (ep : Nat) (vs : List (Key × Value)), o.data = .dict es ep ∧ es.size = kvs.length ∧ KV kvs vs ∧ s.heap.DictAt (mixKind X.prog X.w) d vs ep := by
  obtain ⟨hd, z, hs, vs, kv, o', es, ep, ho, hx, hdt, r⟩ := I.hok d _ h
  rw [hd] at ho
  cases ho
  refine ⟨hs, hd, hx, es, ep, vs, hdt, ?_, kv, o, es, hd, hx, hdt, r⟩
  have l1 := r.2.1.length
  have l2 : kvs.length = vs.length := Paired.length kv
  rw [Array.length_toList] at l1
  omega
/-- the same for tuple keys -/
theorem Inv.frzT {kvs : List (List Key × V)} (I : Inv X pins σ H s) (h : H d = some (.frz o (.dT kvs))) :
    (d == sysModules) = false ∧ s.heap.get? d = some o ∧ o.ExactDict ∧ ∃ (es : Array DictEntry) (ep : Nat), o.data = .dict es ep ∧ es.size = kvs.length ∧
      ∀ (i : Nat) (k : List Key) (v : V), kvs[i]? = some (k, v) → ∃ (en : DictEntry) (q : Addr), es[i]? = some en ∧ en.key = .ref q ∧ H q = some (.tup (k.map kV)) := by
  obtain ⟨hd, z, hs, xs, pr, o', es, ep, ho, hx, hdt, he, _⟩ := I.hok d _ h
  rw [hd] at ho
  cases ho
  refine ⟨hs, hd, hx, es, ep, hdt, ?_, fun i k v e => ?_⟩
  · have l1 : es.size = xs.length := size_of_entries he
    have l2 : kvs.length = xs.length := Paired.length pr
    omega
  · obtain ⟨b, hb, e1, e2, _⟩ := paired_get pr e
    have q := entry_at he i
    rw [hb] at q
    exact ⟨_, b.2.1, q, rfl, e2⟩
end

/-- the keys of the locked dict at d, in their order -/
def Itk (d : Addr) (o : Obj) (kvs : List (Key × V)) : It :=
  ⟨fun i H => H d = some (.frz o (.dK kvs)) ∧ i < kvs.length, fun i H x H' => H' = H ∧ ∃ k v, kvs[i]? = some (k, v) ∧ x = kV k, fun i H => H d = some (.frz o (.dK kvs)) ∧ kvs.length ≤ i⟩
/-- .. of tuple keys: the key's own tuple -/
def Itkt (d : Addr) (o : Obj) (kvs : List (List Key × V)) : It :=
  ⟨fun i H => H d = some (.frz o (.dT kvs)) ∧ i < kvs.length, fun i H x H' => H' = H ∧ ∃ (k : List Key) (v : V) (q : Addr), kvs[i]? = some (k, v) ∧ x = .ref q ∧ H q = some (.tup (k.map kV)), fun i H => H d = some (.frz o (.dT kvs)) ∧ kvs.length ≤ i⟩
/-- the values -/
def Itd (d : Addr) (o : Obj) (kvs : List (Key × V)) : It :=
  ⟨fun i H => H d = some (.frz o (.dK kvs)) ∧ i < kvs.length, fun i H x H' => H' = H ∧ ∃ k, kvs[i]? = some (k, x), fun i H => H d = some (.frz o (.dK kvs)) ∧ kvs.length ≤ i⟩
/-- the pairs, each a new tuple -/
def Iti (d : Addr) (o : Obj) (kvs : List (Key × V)) : It :=
  ⟨fun i H => H d = some (.frz o (.dK kvs)) ∧ i < kvs.length, fun i H x H' => ∃ T k v, kvs[i]? = some (k, v) ∧ x = .ref T ∧ H T = none ∧ H' = upd H T (.tup [kV k, v]), fun i H => H d = some (.frz o (.dK kvs)) ∧ kvs.length ≤ i⟩
theorem dict_ep {o : Obj} {es es' : Array DictEntry} {ep ep' : Nat} (h : o.data = .dict es ep) (h' : o.data = .dict es' ep') : es' = es ∧ ep' = ep := by
  rw [h] at h'
  cases h'
  exact ⟨rfl, rfl⟩
section
variable {P : Program} {w : World} {K : PySem.W.Frag} {tg : Expr} {d : Addr} {o : Obj} {es : Array DictEntry} {ep : Nat}
theorem turn_keys {kvs : List (Key × V)} (it : Addr) (hod : o.data = .dict es ep) : Turn P w K tg (Itk d o kvs) [it] it (fun i h => h.IsKeyIter it d i kvs.length ep) where
  mem := by simp
  obj := fun i h st b hb => by
    have e : b = it := by simpa using hb
    subst e
    obtain ⟨oi, e, c, dd⟩ := st
    exact ⟨oi, e, fun v z => by rw [dd] at z; cases z⟩
  keep := fun i h h' st k => st.at fun oi e => k it (by simp) oi e
  item := by
    intro X hP hw hK hc i pins s σ H E I hf st hg
    subst hP hw hK
    obtain ⟨hd, hi⟩ := hg
    obtain ⟨f0, f1, f2, f3, f4, f5⟩ := hf it (by simp)
    obtain ⟨hs, hgd, hx, es', ep', vs, hdt, hsz, kv, hm⟩ := I.frzK hd
    obtain ⟨rfl, rfl⟩ := dict_ep hod hdt
    obtain ⟨⟨k, v⟩, hkv⟩ : ∃ p, kvs[i]? = some p := ⟨kvs[i], List.getElem?_eq_getElem hi⟩
    obtain ⟨u, hu, ru⟩ := kv_get kv hkv
    have hl : kvs.length = vs.length := Paired.length kv
    rw [hl] at st
    refine wpAny_pyNext_dict_item st hm hu fun key h' hkey st' sb => ?_
    have I1 : Inv X pins σ H { s with heap := h' } := I.turned (t' := s.toks) (fun b ob hb e => (sb.2 b hb).trans e) f0 f1 f3 f4 f5
    obtain ⟨oi, e, c, dd⟩ := id st'
    refine ⟨key, rfl, go_of (s := { s with heap := h' }) e c dd (by decide) ⟨kV k, H, I1, relV_key (show keyIs k key = true from hkey), ⟨rfl, k, v, hkv, rfl⟩, ?_, fun b hb => (hf b hb).1⟩⟩
    show h'.IsKeyIter it d (i + 1) kvs.length _
    rw [hl]
    exact st'
  done := by
    intro X hP hw hK hc i pins s σ H E I hf st hg
    subst hP hw hK
    obtain ⟨hd, hi⟩ := hg
    obtain ⟨f0, f1, f2, f3, f4, f5⟩ := hf it (by simp)
    obtain ⟨hs, hgd, hx, es', ep', vs, hdt, hsz, kv, hm⟩ := I.frzK hd
    obtain ⟨rfl, rfl⟩ := dict_ep hod hdt
    exact next_key_end (I.ok.hd hc) st hgd hdt hsz hi fun h' eb => ⟨rfl, I.turned (t' := s.toks) (fun b ob hb e => eb b ob hb e) f0 f1 f3 f4 f5⟩
  self := fun A i s Q E st h => wpAny_pyIter_keyiter st h
theorem turn_keysT {kvs : List (List Key × V)} (it : Addr) (hod : o.data = .dict es ep) : Turn P w K tg (Itkt d o kvs) [it] it (fun i h => h.IsKeyIter it d i kvs.length ep) where
  mem := by simp
  obj := fun i h st b hb => by
    have e : b = it := by simpa using hb
    subst e
    obtain ⟨oi, e, c, dd⟩ := st
    exact ⟨oi, e, fun v z => by rw [dd] at z; cases z⟩
  keep := fun i h h' st k => st.at fun oi e => k it (by simp) oi e
  item := by
    intro X hP hw hK hc i pins s σ H E I hf st hg
    subst hP hw hK
    obtain ⟨hd, hi⟩ := hg
    obtain ⟨f0, f1, f2, f3, f4, f5⟩ := hf it (by simp)
    obtain ⟨hs, hgd, hx, es', ep', hdt, hsz, ent⟩ := I.frzT hd
    obtain ⟨rfl, rfl⟩ := dict_ep hod hdt
    obtain ⟨⟨k, v⟩, hkv⟩ : ∃ p, kvs[i]? = some p := ⟨kvs[i], List.getElem?_eq_getElem hi⟩
    obtain ⟨en, q, hen, hkey, hq⟩ := ent i k v hkv
    refine next_key_item st hgd hdt hsz hen fun h' st' sb => ?_
    have I1 : Inv X pins σ H { s with heap := h' } := I.turned (t' := s.toks) (fun b ob hb e => (sb.2 b hb).trans e) f0 f1 f3 f4 f5
    obtain ⟨oi, e, c, dd⟩ := id st'
    exact ⟨en.key, rfl, go_of (s := { s with heap := h' }) e c dd (by decide) ⟨.ref q, H, I1, hkey, ⟨rfl, k, v, q, hkv, rfl, hq⟩, st', fun b hb => (hf b hb).1⟩⟩
  done := by
    intro X hP hw hK hc i pins s σ H E I hf st hg
    subst hP hw hK
    obtain ⟨hd, hi⟩ := hg
    obtain ⟨f0, f1, f2, f3, f4, f5⟩ := hf it (by simp)
    obtain ⟨hs, hgd, hx, es', ep', hdt, hsz, ent⟩ := I.frzT hd
    obtain ⟨rfl, rfl⟩ := dict_ep hod hdt
    exact next_key_end (I.ok.hd hc) st hgd hdt hsz hi fun h' eb => ⟨rfl, I.turned (t' := s.toks) (fun b ob hb e => eb b ob hb e) f0 f1 f3 f4 f5⟩
  self := fun A i s Q E st h => by
    refine wpAny_pyIter_slot st.typeIs F.slot_dict_keyiterator_iter (wpAny_call_entry F.slot_dict_keyiterator_iter st.typeIs F.entry_dict_keyiterator_iter ?_ (F.args_dict_keyiterator_iter_1 _))
    show wpAny _ _ (ret (.ref it)) _ _ s
    exact wpAny_pure ⟨_, rfl, "dict_keyiterator", _, st.typeIs, F.slot_dict_keyiterator_next.lookup, h⟩
theorem turn_items {kvs : List (Key × V)} {elts : List Expr} {kk : Nat} {tpos : Pos} (it : Addr) (hod : o.data = .dict es ep) :
    Turn P w K (.Tuple elts kk tpos) (Iti d o kvs) [it] it (fun i h => ∃ ok ov, IsItemIter h it d i kvs.length ep ok ov) where
  mem := by simp
  obj := fun i h st b hb => by
    have e : b = it := by simpa using hb
    subst e
    obtain ⟨ok, ov, e⟩ := st
    exact ⟨_, e, fun v z => nomatch z⟩
  keep := fun i h h' st k => let ⟨ok, ov, e⟩ := st; ⟨ok, ov, k it (by simp) _ e⟩
  item := by
    intro X hP hw hK hc i pins s σ H E I hf st hg
    subst hP hw hK
    obtain ⟨hd, hi⟩ := hg
    obtain ⟨hs, hgd, hx, es', ep', vs, hdt, hsz, kv, hm⟩ := I.frzK hd
    obtain ⟨rfl, rfl⟩ := dict_ep hod hdt
    obtain ⟨⟨k, v⟩, hkv⟩ : ∃ p, kvs[i]? = some p := ⟨kvs[i], List.getElem?_eq_getElem hi⟩
    obtain ⟨u, hu, ru⟩ := kv_get kv hkv
    have hl : kvs.length = vs.length := Paired.length kv
    obtain ⟨ok, ov, he⟩ := st
    rw [hl] at he
    have hlt : it < s.heap.objs.size := Heap.lt_size he
    refine wpAny_pyNext_items_item he hm hu fun key h' hkey ho hT hz hk => ?_
    refine ⟨_, rfl, wpAny_letOwnedTupleGo_items (s := { s with heap := h' }) ho fun h'' he' sb => ?_⟩
    have hT2 : h''.get? s.heap.objs.size = some { cls := .type "tuple", data := .seq #[key, u] } := (sb.2 _ (Nat.ne_of_gt hlt)).trans hT
    have new : ObjOk X.prog X.w (upd H s.heap.objs.size (.tup [kV k, v])) h'' s.heap.objs.size (.tup [kV k, v]) :=
      ⟨by show 2 ≤ sizeLine; decide, [key, u], .cons (relV_key (show keyIs k key = true from hkey)) (.cons ru .nil), ⟨_, hT2, rfl, _, rfl⟩⟩
    have I1 : Inv X pins σ (upd H s.heap.objs.size (.tup [kV k, v])) { s with heap := h'' } :=
      I.turnedNew (t' := s.toks) (ch := [it]) (fun b ob hb e => (sb.2 b (by simpa using hb)).trans (hk b ob (by simpa using hb) e)) hf (Nat.le_refl _) new
    refine ⟨.ref s.heap.objs.size, _, I1, rfl, ⟨_, k, v, hkv, rfl, I.hok.fresh (Nat.le_refl _), rfl⟩, ⟨key, u, ?_⟩, fun b hb => ?_⟩
    · rw [hl]; exact he'
    · have e : b = it := by simpa using hb
      rw [e, upd_ne (Nat.ne_of_lt hlt)]
      exact (hf it (by simp)).1
  done := by
    intro X hP hw hK hc i pins s σ H E I hf st hg
    subst hP hw hK
    obtain ⟨hd, hi⟩ := hg
    obtain ⟨f0, f1, f2, f3, f4, f5⟩ := hf it (by simp)
    obtain ⟨hs, hgd, hx, es', ep', vs, hdt, hsz, kv, hm⟩ := I.frzK hd
    obtain ⟨rfl, rfl⟩ := dict_ep hod hdt
    have hl : kvs.length = vs.length := Paired.length kv
    obtain ⟨ok, ov, he⟩ := st
    rw [hl] at he
    exact wpAny_pyNext_items_end (I.ok.hd hc) he hm (List.getElem?_eq_none (by omega)) fun h' eb => ⟨rfl, I.turned (t' := s.toks) (fun b ob hb e => eb b ob hb e) f0 f1 f3 f4 f5⟩
  self := fun A i s Q E st h => let ⟨_, _, e⟩ := st; PySem.W.kcp_self e h
end

/-! ### for k in d, d.keys(), d.values(), d.items() -/
/-- the dict is locked (tLock, or by the caller) -/
def iKeys (td : TE) : TI := fun σ H R => td σ H fun x H1 => ∃ d o, x = .ref d ∧ ((∃ kvs, H1 d = some (.frz o (.dK kvs)) ∧ R (Itk d o kvs) H1) ∨ ∃ kvs, H1 d = some (.frz o (.dT kvs)) ∧ R (Itkt d o kvs) H1)
def iVals (td : TE) : TI := fun σ H R => td σ H fun x H1 => ∃ d o kvs, x = .ref d ∧ H1 d = some (.frz o (.dK kvs)) ∧ R (Itd d o kvs) H1
def iItems (td : TE) : TI := fun σ H R => td σ H fun x H1 => ∃ d o kvs, x = .ref d ∧ H1 d = some (.frz o (.dK kvs)) ∧ R (Iti d o kvs) H1
def iKeysM (td : TE) : TI := fun σ H R => td σ H fun x H1 => ∃ d o kvs, x = .ref d ∧ H1 d = some (.frz o (.dK kvs)) ∧ R (Itk d o kvs) H1
section
variable {X : Cx} {tg e : Expr} {td : TE} {apos cpos : Pos}
theorem pi_keys (he : PE X e td) : PI X tg e (iKeys td) := by
  intro pins s σ H R I h
  refine thn (he pins s σ H _ I h) fun u s1 ⟨x, H1, I1, rx, d, o, ex, q⟩ => ?_
  subst ex
  obtain rfl : u = Value.ref d := rx
  rcases q with ⟨kvs, hd, q⟩ | ⟨kvs, hd, q⟩
  · obtain ⟨hs, hgd, hx, es, ep, vs, hdt, hsz, kv, hm⟩ := I1.frzK hd
    refine iter_keys hs hgd hx hdt (pi_one (tk := s1.toks) I1 _ (turn_keys _ hdt) ⟨_, Heap.get?_push_size _ rfl, rfl, ?_⟩ q)
    rw [hsz] <;> rfl
  · obtain ⟨hs, hgd, hx, es, ep, hdt, hsz, ent⟩ := I1.frzT hd
    refine iter_keys hs hgd hx hdt (pi_one (tk := s1.toks) I1 _ (turn_keysT _ hdt) ⟨_, Heap.get?_push_size _ rfl, rfl, ?_⟩ q)
    rw [hsz] <;> rfl
theorem pi_items {elts : List Expr} {kk : Nat} {tpos : Pos} (he : PE X e td) (hbase : attributeBase e "items" X.env (eval e X.env) = eval e X.env := by rfl) (hline : (apos.endLine == cpos.line) = true := by rfl) :
    PI X (.Tuple elts kk tpos) (.Call (.Attribute e "items" apos) [] [] cpos) (iItems td) := by
  intro pins s σ H R I h
  refine wpAny_Call_method (T := "dict") (id := "dict.items") hbase rfl hline F.plainAttrs_dict F.slot_dict_items F.type_dict_items (thn (he pins s σ H _ I h) fun u s1 ⟨x, H1, I1, rx, d, o, kvs, ex, hd, q⟩ => ?_)
  subst ex
  obtain rfl : u = Value.ref d := rx
  obtain ⟨hs, hgd, hx, es, ep, vs, hdt, hsz, kv, hm⟩ := I1.frzK hd
  have hl : kvs.length = vs.length := Paired.length kv
  refine ⟨hm.dictOf.typeIs, hm.dictOf.mapOf.noDict, ?_⟩
  have I2 : Inv X pins σ H1 { s1 with heap := s1.heap.push { cls := .type "dict_items", data := .fields #[.ref d] } } := I1.kept (t' := s1.toks) fun b ob q => Heap.get?_push_of_some _ q
  have fin : wpAny (model X.prog X.w) X.A (pyIter (.ref s1.heap.objs.size)) (PIE X pins σ (.Tuple elts kk tpos) R) X.xe { s1 with heap := s1.heap.push { cls := .type "dict_items", data := .fields #[.ref d] } } := by
    refine wpAny_pyIter_items (d := d) (knd := mixKind X.prog X.w) ⟨_, Heap.get?_push_size _ rfl, rfl, rfl⟩ (hm.push _) (pi_one (tk := s1.toks) I2 _ (turn_items _ hdt) ⟨.none, .none, ?_⟩ q)
    rw [hl]
    exact Heap.get?_push_size _ rfl
  show wpAny _ _ (callWith cpos (.builtin "dict.items") [.ref d] [] []) _ X.xe s1
  exact method_meetsIn F.slot_dict_items F.entry_dict_items rfl (PySem.evalArgs_none ⟨rfl, hm.dictOf.typeIs, F.args_dict_items_1 _, _, meets_dict_items (mixKind X.prog X.w) d hs, ⟨vs, hm.dictOf⟩, fin⟩)
end

/-! ### enumerate(list) -/
/-- the list at a as it stands at each turn, each item in a new pair -/
def Ite (K : PySem.W.Frag) (a : Addr) : It :=
  ⟨fun i H => ∃ (xs : List V) (x : V), SqL K H a xs ∧ xs[i]? = some x, fun i H v H' => ∃ T x, v = .ref T ∧ H T = none ∧ H' = upd H T (.tup [.int (i : Nat), x]) ∧ ∀ xs, SqL K H a xs → xs[i]? = some x, fun i H => ∃ xs : List V, SqL K H a xs ∧ xs.length ≤ i⟩
def iEnum (K : PySem.W.Frag) (ta : TA) : TI := fun σ H R => ta σ H fun vs H1 => ∃ a xs, vs = [.ref a] ∧ SqL K H1 a xs ∧ R (Ite K a) H1
/-! ### zip(list, list) -/
/-- the lists at a and b as they stand at each turn, the items in new pairs -/
def Itz (K : PySem.W.Frag) (a b : Addr) : It :=
  ⟨fun i H => ∃ (xs ys : List V) (x y : V), SqL K H a xs ∧ SqL K H b ys ∧ xs[i]? = some x ∧ ys[i]? = some y,
    fun i H v H' => ∃ T x y, v = .ref T ∧ H T = none ∧ H' = upd H T (.tup [x, y]) ∧ (∀ xs, SqL K H a xs → xs[i]? = some x) ∧ ∀ ys, SqL K H b ys → ys[i]? = some y,
    fun i H => ∃ xs ys : List V, SqL K H a xs ∧ SqL K H b ys ∧ (xs.length ≤ i ∨ ys.length ≤ i)⟩
def iZip (K : PySem.W.Frag) (ta : TA) : TI := fun σ H R => ta σ H fun vs H1 => ∃ a b xs ys, vs = [.ref a, .ref b] ∧ SqL K H1 a xs ∧ SqL K H1 b ys ∧ R (Itz K a b) H1
end L2

section 
namespace Bits
open PySem PyProof.Rows








end Bits
end 

section 
namespace TL
open PySem PySem.Builtin PySem.Builtin.Str PySem.StrLaws

abbrev tl (x : Str) : List Nat := x.cps.toList

/-! ### the list functions -/
/-- S stands at the head of l -/
def pre (S l : List Nat) : Bool := l.take S.length == S
/-- l cut at each S from the left; k signs are still to be passed over -/
def spl (S : List Nat) : Nat → List Nat → List Nat → List (List Nat)
  | _, acc, [] => [acc]
  | 0, acc, c :: r => if pre S (c :: r) = true then acc :: spl S (S.length - 1) [] r else spl S 0 (acc ++ [c]) r
  | k + 1, acc, _ :: r => spl S k acc r
/-- what stands before the first S, and behind it -/
def par (S : List Nat) : List Nat → List Nat → Option (List Nat × List Nat)
  | _, [] => none
  | acc, c :: r => if pre S (c :: r) = true then some (acc, (c :: r).drop S.length) else par S (acc ++ [c]) r




/-! ### the model's split and partition are these -/




/-! ### computing spl and par -/

theorem join_eq (y : Str) (parts : List Str) : Txt.join y parts = Str.join y parts := glued_eq_join y parts

/-! ### digits -/

/-! ### words: x.split() -/
end TL
end 

namespace L2
open PySem PySem.Spec PyProof.Rows


theorem strs_of_vals : ∀ {ys : List Str} {us : List Value}, Vals (ys.map V.str) us → StrsAre us ys
  | [], _, .nil => .nil
  | y :: ys, _, .cons r t => by
    obtain ⟨k, rfl⟩ := r
    exact .cons y k (strs_of_vals t)

/-- a new list of texts, tracked -/
def rNewStrs (ys : List Str) : Hp → VK → Prop := fun H Q => ∀ p, H p = none → Q (.ref p) (upd H p (.lst (ys.map V.str)))

section
variable {X : Cx} {pins : List (Addr × Obj)} {σ : St} {H : Hp} {s : Shared} {Q : VK}
end

section
variable {X : Cx}




/-- sep.join(a list | a tuple of texts) -/
theorem mt_join : MtR X "str.join" (fun x xs H Q => ∃ a p, ∃ ys : List Str, x = .str a ∧ xs = [.ref p] ∧ (SqL X.K H p (ys.map V.str) ∨ SqT X.K H p (ys.map V.str)) ∧
    (ys.map (·.length)).sum + ys.length * a.length ≤ 16777216 ∧ Q (.str (Txt.join a ys)) H) := by
  intro pins s σ H x xs v us Q I rx rs h
  obtain ⟨a, p, ys, rfl, rfl, hp, hz, h⟩ := h
  obtain ⟨t, rfl⟩ := rx
  cases rs with
  | cons r1 rs =>
    cases rs
    cases r1
    rcases hp with hp | hp
    · obtain ⟨its, r, ⟨o, n, ho, hc, _, hd⟩, _⟩ := I.list hp
      exact PyProof.Rows.join_list (items := its.toArray) ⟨o, ho, hc, n, hd⟩ (by rw [List.toList_toArray]; exact strs_of_vals r) hz fun t' k => ⟨.str _, H, I.tok k, ⟨t', rfl⟩, h⟩
    · obtain ⟨its, r, ht, _⟩ := I.tuple hp
      exact PyProof.Rows.join_tuple (items := its.toArray) ht (by rw [List.toList_toArray]; exact strs_of_vals r) hz fun t' k => ⟨.str _, H, I.tok k, ⟨t', rfl⟩, h⟩

/-! ### of a text alone -/

/-! ### of a text and a text -/

end

section
variable {X : Cx} {o e : Expr} {to te : TE}
def tM0 (r : V → List V → Hp → VK → Prop) (to : TE) : TE := fun σ H Q => to σ H fun x H1 => (∃ a, x = .str a) ∧ r x [] H1 Q
def tM1 (r : V → List V → Hp → VK → Prop) (to te : TE) : TE := fun σ H Q => to σ H fun x H1 => (∃ a, x = .str a) ∧ te σ H1 fun y H2 => r x [y] H2 Q
theorem pe_m1 {id : String} {name : Str} {apos pos : Pos} {r : V → List V → Hp → VK → Prop} (slot : Slot "str" name id) (ty : typeOf (.builtin id) = pure (.type "method_descriptor")) (rule : MtR X id r) (ho : PE X o to) (he : PE X e te)
    (hs : starEach [e] X.env = [(false, eval e X.env)] := by rfl) (hbase : attributeBase o name X.env (eval o X.env) = eval o X.env := by rfl) (hline : (apos.endLine == pos.line) = true := by rfl) :
    PE X (.Call (.Attribute o name apos) [e] [] pos) (tM1 r to te) := by
  intro pins s σ H Q I h
  refine PySem.Call_method1 hbase hs hline (thn (ho pins s σ H _ I h) fun v s1 ⟨x, H1, I1, r1, q1⟩ => ?_)
  obtain ⟨⟨a, rfl⟩, q1⟩ := q1
  obtain ⟨t, rfl⟩ := _root_.id r1
  refine ⟨"str", _, F.plainAttrs_str, slot, ty, typeIs_str _ _ _, (fun _ e => nomatch e), Calls.callWith_builtin rfl (Calls.evalArgs_plain (Calls.spliced_cons ?_))⟩
  exact thn (he pins s1 σ H1 _ I1 q1) fun u s2 ⟨y, H2, I2, r2, q2⟩ => Calls.spliced_nil (rule pins s2 σ H2 _ [y] _ [u] Q I2 r1 (.cons r2 .nil) q2)

end
end L2

namespace L2
open PySem PySem.Spec PyProof.Rows

section
variable {X : Cx}
theorem op_le_str : OpR X (compareOp .LtE) (fun x y H Q => ∃ i j, x = .str i ∧ y = .str j ∧ Q (.bl (!decide (j.cps.toList < i.cps.toList))) H) := by
  intro pins s σ H x y v u Q I rx ry h
  obtain ⟨i, j, rfl, rfl, q⟩ := h
  obtain ⟨t, rfl⟩ := rx
  obtain ⟨t', rfl⟩ := ry
  exact PySem.P.le_str (fin_bl I q rfl)
end

/-! ### slices of a text -/
theorem IsPart.raw {v : Value} {o : Option Int} (p : IsPart v o) : ∃ l : Option (Int × Tok), v = partValue l ∧ l.map (·.1) = o := by
  cases p with
  | none => exact ⟨none, rfl, rfl⟩
  | int i t => exact ⟨some (i, t), rfl, rfl⟩


/-- z[lo:hi] -/
def cutS (z : Str) (lo hi : Option Int) : Str :=
  ⟨((z.cps.toList.drop (HT.sIx z.length 0 lo)).take (HT.sIx z.length z.length hi - HT.sIx z.length 0 lo)).toArray⟩
def rSlS : V → Option Int → Option Int → Hp → VK → Prop := fun x lo hi H Q => ∃ z, x = .str z ∧ z.length ≤ sizeLine ∧ Q (.str (cutS z lo hi)) H
end L2

namespace Att
open PySem PySem.W PySem.Calls PyProof.Rows

/-! ### the script -/
theorem ints_of_wellAll {P : Params} {h : Heap} : ∀ (ns : List Int) (vs : List Value), WellAll P h vs (ns.map WData.int) → IntsAre vs ns := by
  intro ns
  induction ns with
  | nil =>
    intro vs w
    rw [List.map_nil] at w
    cases w
    exact .nil
  | cons n ns ih =>
    intro vs w
    rw [List.map_cons] at w
    cases w with
    | cons a b =>
      cases a
      exact .cons _ _ (ih _ b)

theorem script_of {l : OpenLaw} {n : Nat} (hn : l.most = some n) {P : Params} {h : Heap} {args : List WData} {vals : List Value}
    (hpre : l.row.toRowW.claim.pre args = true) (hwl : WellAll P h vals args) :
    ∃ a vs ns, vals = [Value.ref a] ∧ args = [WData.list (ns.map WData.int)] ∧ h.get? a = some { cls := .type "list", data := .seq vs.toArray } ∧ IntsAre vs ns ∧ ns.length ≤ n := by
  have hsh : WShape.hasAll [] args [.list .int] = true := (pre_splitW hpre).1
  have hc : l.pre.holds [] { args := args } = true := (pre_splitW hpre).2
  obtain ⟨d, r, rfl, h1, h2⟩ := hasAllW_cons hsh
  obtain rfl := hasAllW_nil h2
  obtain ⟨xs, rfl, h3⟩ := hasW_list h1
  obtain ⟨ns, rfl⟩ := items_int h3
  have hlen : ns.length ≤ n := by
    unfold OpenLaw.pre at hc
    have h4 : (WTm.not (.lt (.lit (.int (n : Int))) (.len (.arg 0)))).holds [] { args := [.list (ns.map .int)] } = true := by
      have h4 := (holds_andW hc).1
      rw [hn] at h4
      exact h4
    have h5 := condW_of h4 (w_not (w_lt w_lit (w_len_list (w_arg rfl))))
    rw [List.length_map] at h5
    refine Nat.le_of_not_lt fun q => ?_
    have q' : (n : Int) < ((ns.length : Nat) : Int) := by omega
    first
      | (rw [decide_eq_true q'] at h5; exact absurd h5 (by decide))
      | (simp at h5; omega)
  cases hwl with
  | cons w1 w2 =>
    cases w2
    cases w1 with
    | list ho hall => exact ⟨_, _, ns, rfl, rfl, ho, ints_of_wellAll ns _ hall, hlen⟩

theorem post_true (l : OpenLaw) (args : List WData) : l.row.toRowW.claim.post args (.bool true) args = true :=
  postW_of (r := l.row.toRowW) (X := (true == true))
    (show WShape.has [] (.bool true) .bool = true by first | rfl | decide | simp [WShape.has, WShape.arms, WShape.armsAll])
    (show (WTm.eq .res (.lit (.bool true))).value [] { args := args, res := some (.bool true), after := args } = some (.bool (true == true)) from w_eq_bool (w_res rfl) w_lit) rfl

/-! ### the attachment: holds_open's last premise (the goal 'hc' behind k_head) from a wpAny of the law's body -/



/-! ### rules over ANY heap (no ledger) from facts about the written part K: the library's own take a ledger (News) for what they write -/
section
variable {prog : Program} {w : World} {A : Around} {E : Value → Shared → Prop} {s : Shared} {K : Frag}





/-! the whole heap as the ledger: makes every rule that writes through a ledger a rule over any heap -/
def noObjs (h : Heap) : Heap := { h with objs := #[] }
theorem noObjs_get (h : Heap) (b : Addr) : (noObjs h).get? b = none := by
  cases e : (noObjs h).get? b with
  | none => rfl
  | some o => exact absurd (Heap.lt_size e) (Nat.not_lt_zero _)
def ledger (h : Heap) (L d : Addr) : List (Addr × Obj) := (List.range h.objs.size).filterMap fun a => if a = L ∨ a = d then none else (h.get? a).map fun o => (a, o)
theorem mem_ledger {h : Heap} {L d a : Addr} {o : Obj} : (a, o) ∈ ledger h L d ↔ a ≠ L ∧ a ≠ d ∧ h.get? a = some o := by
  unfold ledger
  rw [List.mem_filterMap]
  constructor
  · rintro ⟨b, _, e⟩
    split at e
    · cases e
    · rename_i hb
      obtain ⟨o', ho, e'⟩ := Option.map_eq_some_iff.mp e
      cases e'
      exact ⟨fun q => hb (.inl q), fun q => hb (.inr q), ho⟩
  · rintro ⟨n1, n2, ho⟩
    refine ⟨a, List.mem_range.mpr (Heap.lt_size ho), ?_⟩
    rw [if_neg (show ¬ (a = L ∨ a = d) from fun q => q.elim n1 n2), ho] <;> rfl
theorem fr_all {h : Heap} {L : Addr} {m : Str → Option Value} (n : h.Ns L m) : Fr (noObjs h) L h m :=
  ⟨n, fun b o e => (by rw [noObjs_get] at e; cases e), Nat.zero_le _⟩

end
end Att

namespace L2
open PySem PySem.Spec PyProof.Rows

theorem vals_ints : ∀ {vs : List Value} {ns : List Int}, IntsAre vs ns → Vals (ns.map V.int) vs
  | _, _, .nil => .nil
  | _, _, .cons n t h => .cons ⟨t, rfl⟩ (vals_ints h)


end L2

namespace L2
open PySem PySem.Spec PyProof.Rows

abbrev KOf {K : PySem.W.Frag} {h : Heap} (_ : K.In h) : PySem.W.Frag := K

end L2

/- THE LAST THEOREM (shape; LID, My.* are yours):
   My.Adr: a structure of the addresses that your layer names (classes, functions); My.Txt K t: a structure (Prop) of the equations over K;
   My.txt_mk : {K} {implicit addresses ..} (e1 : nsIn K mainGlobals "law" = some (some (.ref f))) (e2 : K.lookup f = some ⟨oc, od, .func (fnOf "law" "law" params body scope dV kV doc pm an cdv ct), sl⟩) (e3 : codeIn K cdv "law" = true) .. : ∃ t, My.Txt K t

(the tactic k_is has no namespace: write k_is) -/

/-! SHORT WORDS over the layer: a def of the text, its body, what a loop and a test want. -/
namespace L2
open PySem PySem.Spec PyProof.Rows

/-! ### the text by places -/
/-- the j-th statement of a class's body -/
def inClass (s : Stmt) (j : Nat) : Stmt := match s with
  | .ClassDef _ _ _ body _ _ _ _ _ _ _ => body.getD j (.Pass ⟨0, 0, 0, 0⟩)
  | _ => .Pass ⟨0, 0, 0, 0⟩
def defArgs (s : Stmt) : Arguments := match s with
  | .FunctionDef _ a _ _ _ _ _ _ _ _ => a
  | _ => { posonlyargs := [], args := [], vararg := none, kwonlyargs := [], kw_defaults := [], kwarg := none, defaults := [] }
def defBody (s : Stmt) : List Stmt := match s with
  | .FunctionDef _ _ b _ _ _ _ _ _ _ => b
  | _ => []
def defScope (s : Stmt) : Scope := match s with
  | .FunctionDef _ _ _ _ _ _ sc _ _ _ => sc
  | _ => { kind := .function, names := [], isGenerator := false, isCoroutine := false }

/-! ### no exception leaves a def -/
abbrev CX0 : CXT := fun _ _ _ _ _ _ => False
abbrev E0 : XK := fun _ _ _ => False
theorem pass0 {X : Cx} : Passes CX0 X E0 := fun _ _ _ _ _ _ _ h => h.elim

/-! ### a def (or method) of the text as it stands behind the top -/
structure Fun (K : PySem.W.Frag) (x qual : Str) (st : Stmt) (f : Addr) (fd : FuncData) : Prop where
  ex : ∃ (oc : Value) (od : Option Addr) (kV doc pm : Value) (an : Option Addr) (cdv ct : Value) (osl : Array (Option Value)),
    fd = PySem.W.fnOf x qual (defArgs st) (defBody st) (defScope st) .none kV doc pm an cdv ct ∧ K.lookup f = some ⟨oc, od, .func fd, osl⟩ ∧ PySem.W.codeIn K cdv qual = true
  kp : PySem.W.keepIn K (.ref f) = true
section
variable {P : Program} {w : World} {K : PySem.W.Frag} {mg : Str → Option Value} {base : Heap}
/-- THE RULE for a def: its body as a term of rules, and the reading of that term -/
theorem Fun.ok {x qual : Str} {st : Stmt} {f : Addr} {fd : FuncData} {N ps : List Str} {k : Nat} {sp : Sp} (F : Fun K x qual st f fd) (S : FnScope N ps (defScope st)) (len : ∀ vs H Q E, sp vs H Q E → vs.length = ps.length)
    (hbody : ∀ (cdv : Value) (A : Around) (outer : List Env) (s : Shared) (H : Hp) (vs : List V) (Q : VK) (E : XK), Room k (A.deeper (envOfC qual (defScope st) s.heap.objs.size f cdv)) → sp vs H Q E →
      ∃ t, PSs (cxOf CX0 P w K mg base N qual (defScope st) f cdv A outer s H E).nox (defBody st) t ∧ t { nx := fun _ H' => Q .non H', rt := Q } (start N vs) H) : FnOk P w K mg base CX0 (k + 1) f fd ps sp := by
  obtain ⟨oc, od, kV, doc, pm, an, cdv, ct, osl, rfl, lk, hcd⟩ := F.ex
  refine fn_of lk hcd S len fun A outer s H vs Q E hr hsp => ?_
  obtain ⟨t, h, q⟩ := hbody cdv A outer s H vs Q E hr hsp
  exact ⟨t, h.nox, q⟩
/-- how its arguments bind (no defaults): h is «fun _ _ _ _ _ _ us hl => match us, hl with | [_, _], _ => rfl», one _ a parameter -/
theorem Fun.binds {x qual : Str} {st : Stmt} {f : Addr} {fd : FuncData} {ps : List Str} (F : Fun K x qual st f fd)
    (h : ∀ (kV doc pm : Value) (an : Option Addr) (cdv ct : Value) (us : List Value), us.length = ps.length → bindArgs (PySem.W.fnOf x qual (defArgs st) (defBody st) (defScope st) .none kV doc pm an cdv ct) ⟨us, []⟩ = pure (ps.zip us)) : Binds K fd ps [] := by
  obtain ⟨oc, od, kV, doc, pm, an, cdv, ct, osl, rfl, lk, hcd⟩ := F.ex
  exact .all (h kV doc pm an cdv ct)
theorem fun_mk {x qual : Str} {st : Stmt} {f : Addr} {oc : Value} {od an : Option Addr} {osl : Array (Option Value)} {kV doc pm cdv ct : Value} (l : K.lookup f = some ⟨oc, od, .func (PySem.W.fnOf x qual (defArgs st) (defBody st) (defScope st) .none kV doc pm an cdv ct), osl⟩)
    (c : PySem.W.codeIn K cdv qual = true) (k : PySem.W.keepIn K (.ref f) = true) : Fun K x qual st f (PySem.W.fnOf x qual (defArgs st) (defBody st) (defScope st) .none kV doc pm an cdv ct) := ⟨⟨oc, od, kV, doc, pm, an, cdv, ct, osl, rfl, l, c⟩, k⟩
end
theorem hu_of {A : Around} {k : Nat} (hr : Room k A) : A.units + 1 < cLine := Nat.lt_of_le_of_lt (Nat.add_le_add_left (by decide : 1 ≤ 64) _) hr.units
theorem small1000 {n : Nat} (h : n ≤ 1000) : n < sizeLine := Nat.lt_of_le_of_lt h (by decide)

/-! ### expressions in short: the name that stands in the i-th slot -/
section
variable {X : Cx}
theorem pv (i : Nat) {x : Str} {pos : Pos} (hN : X.N[i]? = some x := by rfl) (hv : Vis X.env.scope x := by first | exact Or.inl rfl | exact Or.inr (Or.inl rfl) | exact Or.inr (Or.inr rfl)) (hd : (x == ("__debug__" : Str)) = false := by decide)
    (hcd : (x == ("__classdict__" : Str)) = false := by decide) : PE X (.Name x pos) (tVar i) := pe_var hN hv hd hcd
end

/-! ### tests -/
theorem ite2 {c A B : Prop} [Decidable c] (h1 : c → A) (h2 : ¬ c → B) : if c then A else B := by
  by_cases h : c
  · rw [if_pos h]
    exact h1 h
  · rw [if_neg h]
    exact h2 h

/-! ### heaps -/
/-- all that was tracked is as it was -/
def Same (H H' : Hp) : Prop := ∀ b o, H b = some o → H' b = some o
theorem Same.refl (H : Hp) : Same H H := fun _ _ h => h
theorem Same.trans {H H1 H2 : Hp} (a : Same H H1) (b : Same H1 H2) : Same H H2 := fun c o h => b c o (a c o h)
theorem Same.free {H H' : Hp} (e : Same H H') {l : Addr} (h : H' l = Option.none) : H l = Option.none := by
  cases q : H l with
  | none => rfl
  | some o =>
    rw [e l o q] at h
    cases h
theorem Same.seq {K : PySem.W.Frag} {H H' : Hp} {a : Addr} {xs : List V} (e : Same H H') (h : SqL K H a xs) : SqL K H' a xs := by
  rcases h with (h | ⟨o, h⟩) | h
  · exact .inl (.inl (e _ _ h))
  · exact .inl (.inr ⟨o, e _ _ h⟩)
  · exact .inr h

/-! ### a dict's pairs: keys that differ -/
section
variable {κ : Type} [DecidableEq κ]
theorem valV_not {kvs : List (κ × V)} {k : κ} (h : valV kvs k = none) : ¬ k ∈ kvs.map (·.1) := by
  intro m
  obtain ⟨p, hp, e⟩ := List.mem_map.mp m
  have q : (kvs.any fun kv => decide (kv.1 = k)) = true := List.any_eq_true.mpr ⟨p, hp, decide_eq_true e⟩
  rw [valV_any, h] at q
  exact absurd q (by simp)
theorem nd_snoc : ∀ {l : List κ} {k : κ}, l.Nodup → ¬ k ∈ l → (l ++ [k]).Nodup
  | [], k, _, _ => by simp
  | a :: r, k, h, hk => by
    obtain ⟨h1, h2⟩ := List.nodup_cons.mp h
    show (a :: (r ++ [k])).Nodup
    refine List.nodup_cons.mpr ⟨fun m => ?_, nd_snoc h2 fun m => hk (List.mem_cons.mpr (Or.inr m))⟩
    rcases List.mem_append.mp m with q | q
    · exact h1 q
    · exact hk (List.mem_cons.mpr (Or.inl (List.mem_singleton.mp q).symm))
end
/-! ### lists -/
theorem at_of {xs : List V} {z : Int} {j : Nat} {v : V} (e : z = (j : Int)) (h : xs[j]? = some v) : atI xs z = some v := by
  rw [e]
  exact atI_nat h
/-- a new instance and its __init__ leave all that was tracked as it was -/
theorem Same.made {H H1 : Hp} {x dx C : Addr} (nx : H x = Option.none) (nd : H dx = Option.none) (k : ∀ b o, (upd (upd H dx (.own x)) x (.ins C dx [])) b = some o → b ≠ x → H1 b = some o) : Same H H1 := fun b o e =>
  k b o (by rw [upd_ne (ne_of_none e nx), upd_ne (ne_of_none e nd)]; exact e) (ne_of_none e nx)
end L2
namespace L2
open PySem PySem.Spec PyProof.Rows
/-! ### more rules over the layer -/
/-- a def of the top: its object, and its name's value -/
def Def (K : PySem.W.Frag) (mg : Str → Option Value) (x : Str) (st : Stmt) : Prop := ∃ f fd, Fun K x x st f fd ∧ mg x = some (.ref f)
/-- a def that keeps a promise, by its name -/
def Cal (P : Program) (w : World) (K : PySem.W.Frag) (mg : Str → Option Value) (base : Heap) (k : Nat) (x : Str) (ps : List Str) (sp : Sp) : Prop :=
  ∃ f fd, FnOk P w K mg base CX0 k f fd ps sp ∧ mg x = some (.ref f) ∧ PySem.W.keepIn K (.ref f) = true ∧ Binds K fd ps [] ∧ ∃ (oc : Value) (od : Option Addr) (osl : Array (Option Value)), K.lookup f = some ⟨oc, od, .func fd, osl⟩
section
variable {P : Program} {w : World} {K : PySem.W.Frag} {mg : Str → Option Value} {base : Heap}
theorem Cal.mono {j k : Nat} {x : Str} {ps : List Str} {sp : Sp} (C : Cal P w K mg base j x ps sp) (h : j ≤ k) : Cal P w K mg base k x ps sp := by
  obtain ⟨f, fd, F, m, kp, b⟩ := C
  exact ⟨f, fd, F.mono h, m, kp, b⟩
theorem Cal.imp {k : Nat} {x : Str} {ps : List Str} {sp sp' : Sp} (C : Cal P w K mg base k x ps sp) (h : ∀ vs H Q E, sp' vs H Q E → sp vs H Q E) : Cal P w K mg base k x ps sp' := by
  obtain ⟨f, fd, F, m, kp, b⟩ := C
  exact ⟨f, fd, F.imp h, m, kp, b⟩
theorem Def.cal {x : Str} {st : Stmt} {N ps : List Str} {k : Nat} {sp : Sp} (D : Def K mg x st) (S : FnScope N ps (defScope st))
    (hb : ∀ (kV doc pm : Value) (an : Option Addr) (cdv ct : Value) (us : List Value), us.length = ps.length → bindArgs (PySem.W.fnOf x x (defArgs st) (defBody st) (defScope st) .none kV doc pm an cdv ct) ⟨us, []⟩ = pure (ps.zip us))
    (len : ∀ vs H Q E, sp vs H Q E → vs.length = ps.length)
    (hbody : ∀ (f : Addr) (cdv : Value) (A : Around) (outer : List Env) (s : Shared) (H : Hp) (vs : List V) (Q : VK) (E : XK), Room k (A.deeper (envOfC x (defScope st) s.heap.objs.size f cdv)) → sp vs H Q E →
      ∃ t, PSs (cxOf CX0 P w K mg base N x (defScope st) f cdv A outer s H E).nox (defBody st) t ∧ t { nx := fun _ H' => Q .non H', rt := Q } (start N vs) H) : Cal P w K mg base (k + 1) x ps sp := by
  obtain ⟨f, fd, F, m⟩ := D
  obtain ⟨oc, od, kV, doc, pm, an, cdv, ct, osl, e, lk, hcd⟩ := F.ex
  exact ⟨f, fd, F.ok S len (hbody f), m, F.kp, F.binds hb, oc, od, osl, lk⟩
theorem def_mk {h : Heap} {x : Str} {st : Stmt} {f : Addr} {oc : Value} {od an : Option Addr} {osl : Array (Option Value)} {kV doc pm cdv ct : Value} (X : K.In h) (G : h.Ns mainGlobals mg)
    (a : PySem.W.nsIn K mainGlobals x = some (some (.ref f))) (l : K.lookup f = some ⟨oc, od, .func (PySem.W.fnOf x x (defArgs st) (defBody st) (defScope st) .none kV doc pm an cdv ct), osl⟩)
    (c : PySem.W.codeIn K cdv x = true) (k : PySem.W.keepIn K (.ref f) = true) : Def K mg x st := ⟨f, _, fun_mk l c k, PySem.W.mg_of X G a⟩
end
section
variable {X : Cx} {k : Nat} {x : Str} {ps : List Str} {sp : Sp} {p pos : Pos} {e : Expr} {es : List Expr} {t : TA}
theorem pe_callC (C : Cal X.prog X.w X.K X.mg X.base k x ps sp) (hr : Room k X.A) (ha : PA X (e :: es) t) (hg : Gl X x := by rfl) (hd : (x == ("__debug__" : Str)) = false := by decide)
    (he : starEach (e :: es) X.env = (false, eval e X.env) :: starEach es X.env := by rfl) (hpl : (backTo pos (starEach es X.env)).any (·.1) = false := by rfl) : PE X (.Call (.Name x p) (e :: es) [] pos) (tCall sp [] E0 t) := by
  obtain ⟨f, fd, F, m, kp, b, _⟩ := C
  exact pe_call F hr hg m kp b .nil pass0 ha hd he hpl
/-- isinstance(x, T), T one built-in class -/
theorem call_isT : CallR X (.builtin "isinstance") (fun xs H Q => ∃ v T t b, xs = [v, .ty T] ∧ TyOf X.K H v t ∧ PySem.W.kitOne X.K t (.type T) = some b ∧ Q (.bl b) H) := by
  intro pins s σ H xs us Q I r h
  obtain ⟨v, T, t, b, rfl, ty, e, q⟩ := h
  obtain ⟨u, w', rfl, ru, rw'⟩ := vals2 r
  obtain rfl : w' = Value.type T := rw'
  exact isinst_ok I ru ty e fun tk => ⟨.bl b, H, I.tok _, rfl, q⟩
end

/-! ### the readings, applied -/
theorem ap_tVar (i : Nat) : ∀ σ H Q, tVar i σ H Q = (∃ v, σ[i]? = some (some v) ∧ Q v H) := fun _ _ _ => rfl
theorem ap_tC (v : V) : ∀ _z0 H Q, tC v _z0 H Q = (Q v H) := fun _ _ _ => rfl
theorem ap_t2I (ta tb : TE) (k : Int → Int → Hp → Prop) : ∀ σ H, t2I ta tb k σ H = (ta σ H fun x H1 => tb σ H1 fun y H2 => ∃ i j, x = .int i ∧ y = .int j ∧ k i j H2) := fun _ _ => rfl
theorem ap_tAdd (ta tb : TE) : ∀ σ H Q, tAdd ta tb σ H Q = (t2I ta tb (fun i j H2 => Q (.int (i + j)) H2) σ H) := fun _ _ _ => rfl
theorem ap_tSub (ta tb : TE) : ∀ σ H Q, tSub ta tb σ H Q = (t2I ta tb (fun i j H2 => Q (.int (i - j)) H2) σ H) := fun _ _ _ => rfl
theorem ap_tMul (ta tb : TE) : ∀ σ H Q, tMul ta tb σ H Q = (t2I ta tb (fun i j H2 => (-(2 ^ 64) < i ∧ i < 2 ^ 64) ∧ Q (.int (i * j)) H2) σ H) := fun _ _ _ => rfl
theorem ap_tCmp (p : Int → Int → Bool) (ta tb : TE) : ∀ σ H Q, tCmp p ta tb σ H Q = (t2I ta tb (fun i j H2 => Q (.bl (p i j)) H2) σ H) := fun _ _ _ => rfl
theorem ap_tIsN (ta : TE) : ∀ σ H Q, tIsN ta σ H Q = (ta σ H fun x H1 => Q (.bl (decide (x = .non))) H1) := fun _ _ _ => rfl
theorem ap_tNotN (ta : TE) : ∀ σ H Q, tNotN ta σ H Q = (ta σ H fun x H1 => Q (.bl (!decide (x = .non))) H1) := fun _ _ _ => rfl
theorem ap_tB (t : TE) : ∀ σ H Q, tB t σ H Q = (t σ H fun x H1 => ∃ c, x = .bl c ∧ Q c H1) := fun _ _ _ => rfl
theorem ap_tAnd (t u : TT) : ∀ σ H Q, tAnd t u σ H Q = (t σ H fun c H1 => if c = true then u σ H1 Q else Q false H1) := fun _ _ _ => rfl
theorem ap_tOr (t u : TT) : ∀ σ H Q, tOr t u σ H Q = (t σ H fun c H1 => if c = true then Q true H1 else u σ H1 Q) := fun _ _ _ => rfl
theorem ap_tNot (t : TT) : ∀ σ H Q, tNot t σ H Q = (t σ H fun c H1 => Q (!c) H1) := fun _ _ _ => rfl
theorem ap_tAndV (ta tb : TE) : ∀ σ H Q, tAndV ta tb σ H Q = (ta σ H fun x H1 => ∃ c, x = .bl c ∧ if c = true then tb σ H1 Q else Q (.bl false) H1) := fun _ _ _ => rfl
theorem ap_tOrV (ta tb : TE) : ∀ σ H Q, tOrV ta tb σ H Q = (ta σ H fun x H1 => ∃ c, x = .bl c ∧ if c = true then Q (.bl true) H1 else tb σ H1 Q) := fun _ _ _ => rfl
theorem ap_tNotV (ta : TE) : ∀ σ H Q, tNotV ta σ H Q = (ta σ H fun x H1 => ∃ c, x = .bl c ∧ Q (.bl (!c)) H1) := fun _ _ _ => rfl
theorem ap_tIf (t : TT) (ta tb : TE) : ∀ σ H Q, tIf t ta tb σ H Q = (t σ H fun c H1 => if c = true then ta σ H1 Q else tb σ H1 Q) := fun _ _ _ => rfl
theorem ap_tNext : ∀ D σ H, tNext  D σ H = (D.nx σ H) := fun _ _ _ => rfl
theorem ap_tSeq (t u : TS) : ∀ D σ H, tSeq t u D σ H = (t { D with nx := u D } σ H) := fun _ _ _ => rfl
theorem ap_tBreak : ∀ D σ H, tBreak  D σ H = (D.bk σ H) := fun _ _ _ => rfl
theorem ap_tCont : ∀ D σ H, tCont  D σ H = (D.ct σ H) := fun _ _ _ => rfl
theorem ap_tDrop (te : TE) : ∀ D σ H, tDrop te D σ H = (te σ H fun _ H1 => D.nx σ H1) := fun _ _ _ => rfl
theorem ap_tRet (te : TE) : ∀ D σ H, tRet te D σ H = (te σ H D.rt) := fun _ _ _ => rfl
theorem ap_tRetN : ∀ D _z1 H, tRetN  D _z1 H = (D.rt .non H) := fun _ _ _ => rfl
theorem ap_tIfS (c : TT) (t u : TS) : ∀ D σ H, tIfS c t u D σ H = (c σ H fun b H1 => if b = true then t D σ H1 else u D σ H1) := fun _ _ _ => rfl
theorem ap_tNever : ∀ _z0 _z1 _z2, tNever  _z0 _z1 _z2 = (False) := fun _ _ _ => rfl
theorem ap_gName (i : Nat) : ∀ v σ H Q, gName i v σ H Q = (Q (σ.set i (some v)) H) := fun _ _ _ _ => rfl
theorem ap_gNil : ∀ vs σ H Q, gNil  vs σ H Q = (vs = [] ∧ Q σ H) := fun _ _ _ _ => rfl
theorem ap_gCons (t : TG) (u : TGs) : ∀ vs σ H Q, gCons t u vs σ H Q = (∃ v r, vs = v :: r ∧ t v σ H fun σ' H' => u r σ' H' Q) := fun _ _ _ _ => rfl
theorem ap_gTup (K : PySem.W.Frag) (n : Nat) (t : TGs) : ∀ v σ H Q, gTup K n t v σ H Q = (∃ a xs, v = .ref a ∧ SqT K H a xs ∧ xs.length = n ∧ t xs σ H Q) := fun _ _ _ _ => rfl
theorem ap_gSub (to ti : TE) (t : TSet) : ∀ v σ H Q, gSub to ti t v σ H Q = (to σ H fun o H1 => ti σ H1 fun i H2 => t o i v H2 fun H3 => Q σ H3) := fun _ _ _ _ => rfl
theorem ap_tAsg (te : TE) (g : TG) : ∀ D σ H, tAsg te g D σ H = (te σ H fun x H1 => g x σ H1 D.nx) := fun _ _ _ => rfl
theorem ap_tPar (i j : Nat) (ta : TA) : ∀ D σ H, tPar i j ta D σ H = (ta σ H fun vs H1 => ∃ v w, vs = [v, w] ∧ D.nx ((σ.set i (some v)).set j (some w)) H1) := fun _ _ _ => rfl
theorem ap_tAug (i : Nat) (te : TE) (ti : TIp) : ∀ D σ H, tAug i te ti D σ H = (∃ x, σ[i]? = some (some x) ∧ te σ H fun y H1 => ti x y H1 fun z H2 => D.nx (σ.set i (some z)) H2) := fun _ _ _ => rfl
theorem ap_tAugS (to ti te : TE) (tget : V → V → Hp → VK → Prop) (tip : TIp) (tset : TSet) : ∀ D σ H, tAugS to ti te tget tip tset D σ H = (to σ H fun o H1 => ti σ H1 fun i H2 => tget o i H2 fun x H3 => te σ H3 fun y H4 => tip x y H4 fun z H5 => tset o i z H5 fun H6 => D.nx σ H6) := fun _ _ _ => rfl
theorem ap_ipI (f : Int → Int → Int) : ∀ x y H Q, ipI f x y H Q = (∃ i j, x = .int i ∧ y = .int j ∧ Q (.int (f i j)) H) := fun _ _ _ _ => rfl
theorem ap_iList (K : PySem.W.Frag) (tl : TE) : ∀ σ H R, iList K tl σ H R = (tl σ H fun x H1 => ∃ a, x = .ref a ∧ (∃ xs, SqL K H1 a xs) ∧ R (Itl K a) H1) := fun _ _ _ => rfl
theorem ap_iTup (K : PySem.W.Frag) (tl : TE) : ∀ σ H R, iTup K tl σ H R = (tl σ H fun x H1 => ∃ a, x = .ref a ∧ (∃ xs, SqT K H1 a xs) ∧ R (Itt K a) H1) := fun _ _ _ => rfl
theorem ap_iRng1 (ta : TA) : ∀ σ H R, iRng1 ta σ H R = (ta σ H fun vs H1 => ∃ j : Int, vs = [.int j] ∧ -(2 ^ 62) ≤ j ∧ j < 2 ^ 62 ∧ R (Itr 0 j.toNat) H1) := fun _ _ _ => rfl
theorem ap_iRng2 (ta : TA) : ∀ σ H R, iRng2 ta σ H R = (ta σ H fun vs H1 => ∃ i j : Int, vs = [.int i, .int j] ∧ (-(2 ^ 62) ≤ i ∧ i < 2 ^ 62 ∧ -(2 ^ 62) ≤ j ∧ j < 2 ^ 62) ∧ R (Itr i (j - i).toNat) H1) := fun _ _ _ => rfl
theorem ap_tOp (r : R2) (ta tb : TE) : ∀ σ H Q, tOp r ta tb σ H Q = (ta σ H fun x H1 => tb σ H1 fun y H2 => r x y H2 Q) := fun _ _ _ => rfl
theorem ap_tUn (r : V → Hp → VK → Prop) (ta : TE) : ∀ σ H Q, tUn r ta σ H Q = (ta σ H fun x H1 => r x H1 Q) := fun _ _ _ => rfl
theorem ap_rI (C : Int → Int → Prop) (g : Int → Int → V) : ∀ x y H Q, rI C g x y H Q = (∃ i j, x = .int i ∧ y = .int j ∧ C i j ∧ Q (g i j) H) := fun _ _ _ _ => rfl
theorem ap_rI0 (g : Int → Int → V) : ∀ x y H Q, rI0 g x y H Q = (∃ i j, x = .int i ∧ y = .int j ∧ Q (g i j) H) := fun _ _ _ _ => rfl
theorem ap_rU (g : Int → V) : ∀ x H Q, rU g x H Q = (∃ i, x = .int i ∧ Q (g i) H) := fun _ _ _ => rfl
theorem ap_rEq : ∀ x y H Q, rEq  x y H Q = (scal x y = true ∧ Q (.bl (decide (x = y))) H) := fun _ _ _ _ => rfl
theorem ap_rNe : ∀ x y H Q, rNe  x y H Q = (scal x y = true ∧ Q (.bl (!decide (x = y))) H) := fun _ _ _ _ => rfl
theorem ap_tTest (t : TE) : ∀ σ H Q, tTest t σ H Q = (t σ H fun x H' => ∃ k, x = .bl k ∧ Q k H') := fun _ _ _ => rfl
theorem ap_tChain (r r' : R2) (ta tb tc : TE) : ∀ σ H Q, tChain r r' ta tb tc σ H Q = (ta σ H fun x H1 => tb σ H1 fun y H2 => r x y H2 fun z H3 => ∃ k, z = .bl k ∧ (if k = true then tc σ H3 fun w' H4 => r' y w' H4 Q else Q (.bl false) H3)) := fun _ _ _ => rfl
theorem ap_tFld (K : PySem.W.Frag) (ta : TE) (f : Str) : ∀ σ H Q, tFld K ta f σ H Q = (ta σ H fun x H1 => ∃ a C dx fs v, x = .ref a ∧ H1 a = some (.ins C dx fs) ∧ Cls K C ∧ NoAttr K C f ∧ fs.lookup f = some v ∧ Q v H1) := fun _ _ _ => rfl
theorem ap_tCon (K : PySem.W.Frag) (ta : TE) (f : Str) : ∀ σ H Q, tCon K ta f σ H Q = (ta σ H fun x H1 => ∃ a C dx fs v u, x = .ref a ∧ H1 a = some (.ins C dx fs) ∧ Cls K C ∧ Con K C f v u ∧ fs.lookup f = none ∧ Q v H1) := fun _ _ _ => rfl
theorem ap_sFld (K : PySem.W.Frag) (ta tv : TE) (f : Str) : ∀ D σ H, sFld K ta tv f D σ H = (tv σ H fun y H1 => ta σ H1 fun x H2 => ∃ a C dx fs, x = .ref a ∧ H2 a = some (.ins C dx fs) ∧ Cls K C ∧ NoAttr K C f ∧ fs.length < 1000 ∧ D.nx σ (upd H2 a (.ins C dx (putF f y fs)))) := fun _ _ _ => rfl
theorem ap_sFldAug (K : PySem.W.Frag) (ta tv : TE) (rd : V → V → Hp → VK → Prop) (f : Str) : ∀ D σ H, sFldAug K ta tv rd f D σ H = (ta σ H fun x H1 => ∃ a C dx fs v, x = .ref a ∧ H1 a = some (.ins C dx fs) ∧ Cls K C ∧ NoAttr K C f ∧ fs.lookup f = some v ∧ tv σ H1 fun y H2 => rd v y H2 fun z H3 => ∃ dx' fs', H3 a = some (.ins C dx' fs') ∧ fs'.length < 1000 ∧ D.nx σ (upd H3 a (.ins C dx' (putF f z fs')))) := fun _ _ _ => rfl
theorem ap_rAdd : ∀ x y H Q, rAdd  x y H Q = (∃ i j, x = .int i ∧ y = .int j ∧ Q (.int (i + j)) H) := fun _ _ _ _ => rfl
theorem ap_rSub : ∀ x y H Q, rSub  x y H Q = (∃ i j, x = .int i ∧ y = .int j ∧ Q (.int (i - j)) H) := fun _ _ _ _ => rfl
theorem ap_tNil : ∀ _z0 H Q, tNil  _z0 H Q = (Q [] H) := fun _ _ _ => rfl
theorem ap_tCons (ta : TE) (tr : TA) : ∀ σ H Q, tCons ta tr σ H Q = (ta σ H fun x H1 => tr σ H1 fun xs H2 => Q (x :: xs) H2) := fun _ _ _ => rfl
theorem ap_tTup (t : TA) : ∀ σ H Q, tTup t σ H Q = (t σ H fun xs H1 => xs.length ≤ sizeLine ∧ ∀ p, H1 p = none → Q (.ref p) (upd H1 p (.tup xs))) := fun _ _ _ => rfl
theorem ap_tLst (t : TA) : ∀ σ H Q, tLst t σ H Q = (t σ H fun xs H1 => xs.length ≤ sizeLine ∧ ∀ p, H1 p = none → Q (.ref p) (upd H1 p (.lst xs))) := fun _ _ _ => rfl
theorem ap_tCall (sp : Sp) (dvs : List V) (E : XK) (t : TA) : ∀ σ H Q, tCall sp dvs E t σ H Q = (t σ H fun vs H1 => sp (vs ++ dvs) H1 Q E) := fun _ _ _ => rfl
theorem ap_tMeth (C : Addr) (m : Str) (sp : Sp) (dvs : List V) (E : XK) (ta : TE) (t : TA) : ∀ σ H Q, tMeth C m sp dvs E ta t σ H Q = (ta σ H fun x H1 => ∃ a dx fs, x = .ref a ∧ H1 a = some (.ins C dx fs) ∧ fs.lookup m = none ∧ t σ H1 fun vs H2 => sp (x :: (vs ++ dvs)) H2 Q E) := fun _ _ _ => rfl
theorem ap_tMake (C : Addr) (sp : Sp) (dvs : List V) (E : XK) (t : TA) : ∀ σ H Q, tMake C sp dvs E t σ H Q = (t σ H fun vs H1 => ∀ x dx, H1 x = none → H1 dx = none → dx ≠ x → sp (.ref x :: (vs ++ dvs)) (upd (upd H1 dx (.own x)) x (.ins C dx [])) (fun v H2 => v = .non ∧ Q (.ref x) H2) E) := fun _ _ _ => rfl
theorem ap_tCallK (sp : Sp) (gV : List V → List V → List V) (E : XK) (t tk : TA) : ∀ σ H Q, tCallK sp gV E t tk σ H Q = (t σ H fun vs H1 => tk σ H1 fun zs H2 => sp (gV vs zs) H2 Q E) := fun _ _ _ => rfl
theorem ap_tCB (r : List V → Hp → VK → Prop) (t : TA) : ∀ σ H Q, tCB r t σ H Q = (t σ H fun vs H1 => r vs H1 Q) := fun _ _ _ => rfl
theorem ap_tNoPart : ∀ _z0 H Q, tNoPart  _z0 H Q = (Q none H) := fun _ _ _ => rfl
theorem ap_tPart (t : TE) : ∀ σ H Q, tPart t σ H Q = (t σ H fun x H1 => ∃ i, x = .int i ∧ Q (some i) H1) := fun _ _ _ => rfl
theorem ap_tSl (r : V → Option Int → Option Int → Hp → VK → Prop) (te : TE) (tl th : TO) : ∀ σ H Q, tSl r te tl th σ H Q = (te σ H fun x H1 => tl σ H1 fun l H2 => th σ H2 fun u H3 => r x l u H3 Q) := fun _ _ _ => rfl
theorem ap_rSlT (K : PySem.W.Frag) : ∀ x lo hi H Q, rSlT K x lo hi H Q = (∃ a xs, x = .ref a ∧ SqT K H a xs ∧ ¬ (HT.sIx xs.length 0 lo = 0 ∧ HT.sIx xs.length xs.length hi = xs.length) ∧ ∀ p, H p = none → Q (.ref p) (upd H p (.tup (cutV xs lo hi)))) := fun _ _ _ _ _ => rfl
theorem ap_rLtT (K : PySem.W.Frag) : ∀ x y H Q, rLtT K x y H Q = (∃ a b ns ms, x = .ref a ∧ y = .ref b ∧ SqT K H a (ns.map V.int) ∧ SqT K H b (ms.map V.int) ∧ Q (.bl (HT.lexLt ns ms)) H) := fun _ _ _ _ => rfl
theorem ap_rCatT (K : PySem.W.Frag) : ∀ x y H Q, rCatT K x y H Q = (∃ a b xs ys, x = .ref a ∧ y = .ref b ∧ SqT K H a xs ∧ SqT K H b ys ∧ xs ≠ [] ∧ xs.length + ys.length ≤ sizeLine ∧ (ys = [] → Q (.ref a) H) ∧ (ys ≠ [] → ∀ p, H p = none → Q (.ref p) (upd H p (.tup (xs ++ ys))))) := fun _ _ _ _ => rfl
theorem ap_rIxL (K : PySem.W.Frag) : ∀ x y H Q, rIxL K x y H Q = (∃ p xs i v, x = .ref p ∧ y = .int i ∧ SqL K H p xs ∧ atI xs i = some v ∧ Q v H) := fun _ _ _ _ => rfl
theorem ap_rIxT (K : PySem.W.Frag) : ∀ x y H Q, rIxT K x y H Q = (∃ p xs i v, x = .ref p ∧ y = .int i ∧ SqT K H p xs ∧ atI xs i = some v ∧ Q v H) := fun _ _ _ _ => rfl
theorem ap_rIxS : ∀ x y H Q, rIxS  x y H Q = (∃ z i c, x = .str z ∧ y = .int i ∧ z.length ≤ sizeLine ∧ atI z.cps.toList i = some c ∧ Q (.str ⟨#[c]⟩) H) := fun _ _ _ _ => rfl
theorem ap_rIx (K : PySem.W.Frag) : ∀ x y H Q, rIx K x y H Q = (rIxL K x y H Q ∨ rIxT K x y H Q ∨ rIxS x y H Q) := fun _ _ _ _ => rfl
theorem ap_rSetL : ∀ o i v H Q, rSetL  o i v H Q = (∃ p xs k j, o = .ref p ∧ i = .int k ∧ H p = some (.lst xs) ∧ ixN xs.length k = some j ∧ Q (upd H p (.lst (xs.set j v)))) := fun _ _ _ _ _ => rfl
theorem ap_rSlL (K : PySem.W.Frag) : ∀ x lo hi H Q, rSlL K x lo hi H Q = (∃ a xs, x = .ref a ∧ SqL K H a xs ∧ ∀ p, H p = none → Q (.ref p) (upd H p (.lst (cutV xs lo hi)))) := fun _ _ _ _ _ => rfl
theorem ap_rIn (K : PySem.W.Frag) (neg : Bool) : ∀ x y H Q, rIn K neg x y H Q = (∃ p xs, y = .ref p ∧ (SqL K H p xs ∨ SqT K H p xs) ∧ flatV x = true ∧ xs.all flatV = true ∧ Q (.bl (if neg then !inV x xs else inV x xs)) H) := fun _ _ _ _ => rfl
theorem ap_tBM0 (K : PySem.W.Frag) (T : String) (r : V → List V → Hp → VK → Prop) (to : TE) : ∀ σ H Q, tBM0 K T r to σ H Q = (to σ H fun x H1 => tyV K T x H1 ∧ r x [] H1 Q) := fun _ _ _ => rfl
theorem ap_tBM (K : PySem.W.Frag) (T : String) (r : V → List V → Hp → VK → Prop) (to : TE) (t : TA) : ∀ σ H Q, tBM K T r to t σ H Q = (to σ H fun x H1 => tyV K T x H1 ∧ t σ H1 fun xs H2 => r x xs H2 Q) := fun _ _ _ => rfl
theorem ap_rAppend : ∀ x vs H Q, rAppend  x vs H Q = (∃ l xs y, x = .ref l ∧ vs = [y] ∧ H l = some (.lst xs) ∧ xs.length < sizeLine ∧ Q .non (upd H l (.lst (xs ++ [y])))) := fun _ _ _ _ => rfl
theorem ap_rExtend : ∀ x vs H Q, rExtend  x vs H Q = (∃ l b xs zs, x = .ref l ∧ vs = [.ref b] ∧ H l = some (.lst xs) ∧ H b = some (.lst zs) ∧ xs.length + zs.length ≤ sizeLine ∧ Q .non (upd H l (.lst (xs ++ zs)))) := fun _ _ _ _ => rfl
theorem ap_rPop : ∀ x vs H Q, rPop  x vs H Q = (∃ l xs y, x = .ref l ∧ vs = [] ∧ H l = some (.lst xs) ∧ xs[xs.length - 1]? = some y ∧ Q y (upd H l (.lst xs.dropLast))) := fun _ _ _ _ => rfl
theorem ap_rPopAt : ∀ x vs H Q, rPopAt  x vs H Q = (∃ l xs i k y, x = .ref l ∧ vs = [.int i] ∧ H l = some (.lst xs) ∧ -(2 ^ 63) ≤ i ∧ i < 2 ^ 63 ∧ seqIndex? i xs.length = some k ∧ xs[k]? = some y ∧ Q y (upd H l (.lst (xs.eraseIdx k)))) := fun _ _ _ _ => rfl
theorem ap_rReverse : ∀ x vs H Q, rReverse  x vs H Q = (∃ l xs, x = .ref l ∧ vs = [] ∧ H l = some (.lst xs) ∧ Q .non (upd H l (.lst xs.reverse))) := fun _ _ _ _ => rfl
theorem ap_rClear : ∀ x vs H Q, rClear  x vs H Q = (∃ l xs, x = .ref l ∧ vs = [] ∧ H l = some (.lst xs) ∧ Q .non (upd H l (.lst []))) := fun _ _ _ _ => rfl
theorem ap_rCat : ∀ x y H Q, rCat  x y H Q = (∃ l b xs zs, x = .ref l ∧ y = .ref b ∧ H l = some (.lst xs) ∧ H b = some (.lst zs) ∧ xs.length + zs.length ≤ sizeLine ∧ ∀ p, H p = none → Q (.ref p) (upd H p (.lst (xs ++ zs)))) := fun _ _ _ _ => rfl
theorem ap_rRep : ∀ x y H Q, rRep  x y H Q = (∃ l k xs, x = .ref l ∧ y = .int k ∧ H l = some (.lst xs) ∧ -(2 ^ 63) ≤ k ∧ k < 2 ^ 63 ∧ xs.length * k.toNat ≤ sizeLine ∧ ∀ p, H p = none → Q (.ref p) (upd H p (.lst (List.replicate k.toNat xs).flatten))) := fun _ _ _ _ => rfl
theorem ap_rSum (K : PySem.W.Frag) : ∀ vs H Q, rSum K vs H Q = (∃ (a : Addr) (ns : List Int), vs = [V.ref a] ∧ SqL K H a (ns.map V.int) ∧ Q (.int ns.sum) H) := fun _ _ _ => rfl
theorem ap_rMax (K : PySem.W.Frag) : ∀ vs H Q, rMax K vs H Q = (∃ (a : Addr) (ns : List Int), vs = [V.ref a] ∧ SqL K H a (ns.map V.int) ∧ 0 < ns.length ∧ ∀ m, m ∈ ns → (∀ y, y ∈ ns → y ≤ m) → Q (.int m) H) := fun _ _ _ => rfl
theorem ap_rMin (K : PySem.W.Frag) : ∀ vs H Q, rMin K vs H Q = (∃ (a : Addr) (ns : List Int), vs = [V.ref a] ∧ SqL K H a (ns.map V.int) ∧ 0 < ns.length ∧ ∀ m, m ∈ ns → (∀ y, y ∈ ns → m ≤ y) → Q (.int m) H) := fun _ _ _ => rfl
theorem ap_rSorted (K : PySem.W.Frag) : ∀ vs H Q, rSorted K vs H Q = (∃ (a : Addr) (ns : List Int), vs = [V.ref a] ∧ SqL K H a (ns.map V.int) ∧ ns.length < 64 ∧ ∀ (ns' : List Int) (p : Addr), ns'.Perm ns → ns'.Pairwise (· ≤ ·) → H p = none → Q (.ref p) (upd H p (.lst (ns'.map V.int)))) := fun _ _ _ => rfl
theorem ap_rSortedS (K : PySem.W.Frag) : ∀ vs H Q, rSortedS K vs H Q = (∃ (a : Addr) (xs : List Str), vs = [V.ref a] ∧ SqL K H a (xs.map V.str) ∧ xs.length < 64 ∧ ∀ (ys : List Str) (p : Addr), ys.Perm xs → sortedS ys = true → H p = none → Q (.ref p) (upd H p (.lst (ys.map V.str)))) := fun _ _ _ => rfl
theorem ap_rSort : ∀ x xs H Q, rSort  x xs H Q = (∃ (a : Addr) (ns : List Int), x = V.ref a ∧ xs = [] ∧ H a = some (.lst (ns.map V.int)) ∧ ns.length < 64 ∧ ∀ ns' : List Int, ns'.Perm ns → ns'.Pairwise (· ≤ ·) → Q .non (upd H a (.lst (ns'.map V.int)))) := fun _ _ _ _ => rfl
theorem ap_rIndex (K : PySem.W.Frag) : ∀ x xs H Q, rIndex K x xs H Q = (∃ (a : Addr) (ys : List V) (y : V) (j : Nat) (z : V), x = V.ref a ∧ xs = [y] ∧ SqL K H a ys ∧ flatV y = true ∧ ys.all flatV = true ∧ ys[j]? = some z ∧ eqV z y = true ∧ (∀ (m : Nat) (z' : V), m < j → ys[m]? = some z' → eqV z' y = false) ∧ Q (.int (j : Nat)) H) := fun _ _ _ _ => rfl
theorem ap_rAny (K : PySem.W.Frag) : ∀ vs H Q, rAny K vs H Q = (∃ (a : Addr) (bs : List Bool), vs = [V.ref a] ∧ SqL K H a (bs.map V.bl) ∧ Q (.bl (bs.any id)) H) := fun _ _ _ => rfl
theorem ap_rAll (K : PySem.W.Frag) : ∀ vs H Q, rAll K vs H Q = (∃ (a : Addr) (bs : List Bool), vs = [V.ref a] ∧ SqL K H a (bs.map V.bl) ∧ Q (.bl (bs.all id)) H) := fun _ _ _ => rfl
theorem ap_tYes : ∀ _z0 H Q, tYes  _z0 H Q = (Q true H) := fun _ _ _ => rfl
theorem ap_tDGet (td ty : TE) : ∀ σ H Q, tDGet td ty σ H Q = (td σ H fun x H1 => ty σ H1 fun y H2 => ∃ a v, x = .ref a ∧ DGet H2 a y (some v) ∧ Q v H2) := fun _ _ _ => rfl
theorem ap_tDIn (ty td : TE) : ∀ σ H Q, tDIn ty td σ H Q = (ty σ H fun y H1 => td σ H1 fun x H2 => ∃ a o, x = .ref a ∧ DGet H2 a y o ∧ Q (.bl o.isSome) H2) := fun _ _ _ => rfl
theorem ap_tDNotIn (ty td : TE) : ∀ σ H Q, tDNotIn ty td σ H Q = (ty σ H fun y H1 => td σ H1 fun x H2 => ∃ a o, x = .ref a ∧ DGet H2 a y o ∧ Q (.bl (!o.isSome)) H2) := fun _ _ _ => rfl
theorem ap_sDPut (td ty tv : TE) : ∀ D σ H, sDPut td ty tv D σ H = (tv σ H fun v H1 => td σ H1 fun x H2 => ty σ H2 fun y H3 => ∃ a H4, x = .ref a ∧ DPut H3 a y v H4 ∧ D.nx σ H4) := fun _ _ _ => rfl
theorem ap_sDAug (td ty tv : TE) (rd : V → V → Hp → VK → Prop) : ∀ D σ H, sDAug td ty tv rd D σ H = (td σ H fun x H1 => ty σ H1 fun y H2 => ∃ a v, x = .ref a ∧ DGet H2 a y (some v) ∧ tv σ H2 fun y2 H3 => rd v y2 H3 fun z H4 => ∃ H5, DPut H4 a y z H5 ∧ D.nx σ H5) := fun _ _ _ => rfl
theorem ap_sDDel (td ty : TE) : ∀ D σ H, sDDel td ty D σ H = (td σ H fun x H1 => ty σ H1 fun y H2 => ∃ a kvs k, x = .ref a ∧ H2 a = some (.dK kvs) ∧ y = kV k ∧ (valV kvs k).isSome = true ∧ D.nx σ (upd H2 a (.dK (dropK kvs k)))) := fun _ _ _ => rfl
theorem ap_tDNewK : ∀ _z0 H Q, tDNewK  _z0 H Q = (∀ p, H p = none → Q (.ref p) (upd H p (.dK []))) := fun _ _ _ => rfl
theorem ap_tDNewT : ∀ _z0 H Q, tDNewT  _z0 H Q = (∀ p, H p = none → Q (.ref p) (upd H p (.dT []))) := fun _ _ _ => rfl
theorem ap_tDisp (trs : List (TE × TE)) : ∀ σ H Q, tDisp trs σ H Q = (∀ p, H p = none → tPairs trs σ (upd H p (.dK [])) fun ps H2 => H2 p = some (.dK []) ∧ ∃ kvs : List (Key × V), ps = kvs.map (fun kv => (kV kv.1, kv.2)) ∧ kvs.length ≤ 15 ∧ Q (.ref p) (upd H2 p (.dK (mergeK [] kvs)))) := fun _ _ _ => rfl
theorem ap_tDGet1 (td ty : TE) : ∀ σ H Q, tDGet1 td ty σ H Q = (td σ H fun x H1 => ∃ a, x = .ref a ∧ IsD H1 a ∧ ty σ H1 fun y H2 => ∃ o, DGet H2 a y o ∧ Q (o.getD .non) H2) := fun _ _ _ => rfl
theorem ap_tDGet2 (td ty tx : TE) : ∀ σ H Q, tDGet2 td ty tx σ H Q = (td σ H fun x H1 => ∃ a, x = .ref a ∧ IsD H1 a ∧ ty σ H1 fun y H2 => tx σ H2 fun z H3 => ∃ o, DGet H3 a y o ∧ Q (o.getD z) H3) := fun _ _ _ => rfl
theorem ap_tDPop1 (td ty : TE) : ∀ σ H Q, tDPop1 td ty σ H Q = (td σ H fun x H1 => ∃ a, x = .ref a ∧ IsD H1 a ∧ ty σ H1 fun y H2 => ∃ kvs k v, H2 a = some (.dK kvs) ∧ y = kV k ∧ valV kvs k = some v ∧ Q v (upd H2 a (.dK (dropK kvs k)))) := fun _ _ _ => rfl
theorem ap_tDPop2 (td ty tx : TE) : ∀ σ H Q, tDPop2 td ty tx σ H Q = (td σ H fun x H1 => ∃ a, x = .ref a ∧ IsD H1 a ∧ ty σ H1 fun y H2 => tx σ H2 fun z H3 => ∃ kvs k, H3 a = some (.dK kvs) ∧ y = kV k ∧ (∀ v, valV kvs k = some v → Q v (upd H3 a (.dK (dropK kvs k)))) ∧ (valV kvs k = none → Q z H3)) := fun _ _ _ => rfl
theorem ap_tLock (t : TS) : ∀ D σ H, tLock t D σ H = (∃ d u, H d = some u ∧ Mut (some u) ∧ ∀ od, t ⟨fun σ' H' => H' d = some (.frz od u) ∧ D.nx σ' (upd H' d u), fun v H' => H' d = some (.frz od u) ∧ D.rt v (upd H' d u), fun σ' H' => H' d = some (.frz od u) ∧ D.bk σ' (upd H' d u), fun σ' H' => H' d = some (.frz od u) ∧ D.ct σ' (upd H' d u)⟩ σ (upd H d (.frz od u))) := fun _ _ _ => rfl
theorem ap_tLockE (t : TE) : ∀ σ H Q, tLockE t σ H Q = (∃ d u, H d = some u ∧ Mut (some u) ∧ ∀ od, t σ (upd H d (.frz od u)) fun v H' => H' d = some (.frz od u) ∧ Q v (upd H' d u)) := fun _ _ _ => rfl
theorem ap_iRng3 (ta : TA) : ∀ σ H R, iRng3 ta σ H R = (ta σ H fun vs H1 => ∃ (i j c : Int) (n : Nat), vs = [.int i, .int j, .int c] ∧ RgC i j c n ∧ R (Itc i c n) H1) := fun _ _ _ => rfl
theorem ap_iRev (K : PySem.W.Frag) (ta : TA) : ∀ σ H R, iRev K ta σ H R = (ta σ H fun vs H1 => ∃ (a : Addr) (xs : List V), vs = [.ref a] ∧ SqL K H1 a xs ∧ R (Itv K a xs.length) H1) := fun _ _ _ => rfl
theorem ap_iStr (te : TE) : ∀ σ H R, iStr te σ H R = (te σ H fun v H1 => ∃ x, v = .str x ∧ R (Its x) H1) := fun _ _ _ => rfl
theorem ap_iKeys (td : TE) : ∀ σ H R, iKeys td σ H R = (td σ H fun x H1 => ∃ d o, x = .ref d ∧ ((∃ kvs, H1 d = some (.frz o (.dK kvs)) ∧ R (Itk d o kvs) H1) ∨ ∃ kvs, H1 d = some (.frz o (.dT kvs)) ∧ R (Itkt d o kvs) H1)) := fun _ _ _ => rfl
theorem ap_iVals (td : TE) : ∀ σ H R, iVals td σ H R = (td σ H fun x H1 => ∃ d o kvs, x = .ref d ∧ H1 d = some (.frz o (.dK kvs)) ∧ R (Itd d o kvs) H1) := fun _ _ _ => rfl
theorem ap_iItems (td : TE) : ∀ σ H R, iItems td σ H R = (td σ H fun x H1 => ∃ d o kvs, x = .ref d ∧ H1 d = some (.frz o (.dK kvs)) ∧ R (Iti d o kvs) H1) := fun _ _ _ => rfl
theorem ap_iKeysM (td : TE) : ∀ σ H R, iKeysM td σ H R = (td σ H fun x H1 => ∃ d o kvs, x = .ref d ∧ H1 d = some (.frz o (.dK kvs)) ∧ R (Itk d o kvs) H1) := fun _ _ _ => rfl
theorem ap_iEnum (K : PySem.W.Frag) (ta : TA) : ∀ σ H R, iEnum K ta σ H R = (ta σ H fun vs H1 => ∃ a xs, vs = [.ref a] ∧ SqL K H1 a xs ∧ R (Ite K a) H1) := fun _ _ _ => rfl
theorem ap_iZip (K : PySem.W.Frag) (ta : TA) : ∀ σ H R, iZip K ta σ H R = (ta σ H fun vs H1 => ∃ a b xs ys, vs = [.ref a, .ref b] ∧ SqL K H1 a xs ∧ SqL K H1 b ys ∧ R (Itz K a b) H1) := fun _ _ _ => rfl
theorem ap_rNewStrs (ys : List Str) : ∀ H Q, rNewStrs ys H Q = (∀ p, H p = none → Q (.ref p) (upd H p (.lst (ys.map V.str)))) := fun _ _ => rfl
theorem ap_tM0 (r : V → List V → Hp → VK → Prop) (to : TE) : ∀ σ H Q, tM0 r to σ H Q = (to σ H fun x H1 => (∃ a, x = .str a) ∧ r x [] H1 Q) := fun _ _ _ => rfl
theorem ap_tM1 (r : V → List V → Hp → VK → Prop) (to te : TE) : ∀ σ H Q, tM1 r to te σ H Q = (to σ H fun x H1 => (∃ a, x = .str a) ∧ te σ H1 fun y H2 => r x [y] H2 Q) := fun _ _ _ => rfl
theorem ap_rSlS : ∀ x lo hi H Q, rSlS  x lo hi H Q = (∃ z, x = .str z ∧ z.length ≤ sizeLine ∧ Q (.str (cutS z lo hi)) H) := fun _ _ _ _ _ => rfl
section
variable {X : Cx}
theorem op_mulX : OpR X (binaryOp .Mult) (rI IntMulOk fun i j => .int (i * j)) := opI fun _ _ _ _ _ _ _ hc q => mul_int q hc
theorem op_fdivP : OpR X (binaryOp .FloorDiv) (rI (fun _ j => 0 < j ∧ j.natAbs.log2 < 9000) fun i j => .int (i / j)) := opI fun i j _ _ _ _ _ hc q => by
  have h1 : (0 : Int) < j := hc.1
  exact floordiv_int (by omega) (by rw [Int.fdiv_eq_ediv_of_nonneg i (by omega)]; exact q) (.inl (PyProof.noPylong_of_log2 hc.2))
/-- (a, b, ..) = a list of that length -/
def gUnl (K : PySem.W.Frag) (n : Nat) (t : TGs) : TG := fun v σ H Q => ∃ a xs, v = .ref a ∧ SqL K H a xs ∧ xs.length = n ∧ t xs σ H Q
theorem ap_gUnl (K : PySem.W.Frag) (n : Nat) (t : TGs) : ∀ v σ H Q, gUnl K n t v σ H Q = (∃ a xs, v = .ref a ∧ SqL K H a xs ∧ xs.length = n ∧ t xs σ H Q) := fun _ _ _ _ => rfl
end
theorem Same.new {H : Hp} {p : Addr} {o : HO} (h : H p = none) : Same H (upd H p o) := fun b u e => by rw [upd_ne (ne_of_none e h)]; exact e
theorem Same.sqL {K : PySem.W.Frag} {H H' : Hp} {a : Addr} {xs : List V} (e : Same H H') (h : SqL K H a xs) : SqL K H' a xs := e.seq h
theorem Same.sqT {K : PySem.W.Frag} {H H' : Hp} {a : Addr} {xs : List V} (e : Same H H') (h : SqT K H a xs) : SqT K H' a xs := by
  rcases h with (h | ⟨o, h⟩) | h
  · exact .inl (.inl (e _ _ h))
  · exact .inl (.inr ⟨o, e _ _ h⟩)
  · exact .inr h
theorem SqL.upd {K : PySem.W.Frag} {H : Hp} {a p : Addr} {xs : List V} {o : HO} (hp : H p = none) (h : SqL K H a xs) : SqL K (upd H p o) a xs := (Same.new hp).sqL h
theorem SqT.upd {K : PySem.W.Frag} {H : Hp} {a p : Addr} {xs : List V} {o : HO} (hp : H p = none) (h : SqT K H a xs) : SqT K (upd H p o) a xs := (Same.new hp).sqT h

section
variable {CX : CXT} {P : Program} {w : World} {K : PySem.W.Frag} {mg : Str → Option Value} {base : Heap} {N : List Str} {qual : Str} {scope : Scope} {f : Addr} {cd : Value} {A : Around} {outer : List Env} {s : Shared} {H : Hp} {E : XK}
theorem cx_K : (cxOf CX P w K mg base N qual scope f cd A outer s H E).K = K := rfl
theorem nox_K {X : Cx} : X.nox.K = X.K := rfl
theorem blk_K {X : Cx} {s : Shared} {H : Hp} {scope : Scope} {env : Env} {fp : List Addr} : (X.blk s H scope env fp).K = X.K := rfl
end

section
variable {X : Cx}
def rIsB (K : PySem.W.Frag) (b : Bool) : List V → Hp → VK → Prop := fun xs H Q => ∃ v T t, xs = [v, .ty T] ∧ TyOf K H v t ∧ PySem.W.kitOne K t (.type T) = some b ∧ Q (.bl b) H
theorem ap_rIsB (K : PySem.W.Frag) (b : Bool) : ∀ xs H Q, rIsB K b xs H Q = (∃ v T t, xs = [v, .ty T] ∧ TyOf K H v t ∧ PySem.W.kitOne K t (.type T) = some b ∧ Q (.bl b) H) := fun _ _ _ => rfl
theorem call_isB (b : Bool) : CallR X (.builtin "isinstance") (rIsB X.K b) := by
  intro pins s σ H xs us Q I r h
  obtain ⟨v, T, t, rfl, ty, e, q⟩ := h
  exact call_isT pins s σ H _ us Q I r ⟨v, T, t, b, rfl, ty, e, q⟩
end

/-! ### loops and comprehensions, folded -/
def ForB (J : It) (g : TG) (tb : TS) (D : Ends) (σ : St) (H1 : Hp) : Prop := ∃ W : Nat → Nat → St → Hp → Prop, (∃ m, W 0 m σ H1) ∧ ∀ i m σ H, W i m σ H →
  (J.stop i H ∧ D.nx σ H) ∨ (J.go i H ∧ ∃ N : St → Hp → Prop, (∀ σ' H', N σ' H' → ∃ m', m' < m ∧ W (i + 1) m' σ' H') ∧ ∀ x H', J.yld i H x H' → g x σ H' fun σ2 H2 => tb { D with nx := N, ct := N, bk := D.nx } σ2 H2)
theorem ap_tFor (wi : TI) (g : TG) (tb : TS) : ∀ D σ H, tFor wi g tb D σ H = (wi σ H fun J H1 => ForB J g tb D σ H1) := fun _ _ _ => rfl
def LcB (J : It) (g : TG) (tt : TT) (te : TE) (vs : List Nat) (σ : St) (H1 : Hp) (D : Addr) (Qd : Hp → Prop) : Prop := ∃ W : Nat → Nat → Hp → Prop, (∃ m, W 0 m (upd H1 D (.lst []))) ∧ ∀ i m H, W i m H →
  (J.stop i H ∧ Qd H) ∨ (J.go i H ∧ ∃ Nx : Hp → Prop, (∀ H', Nx H' → ∃ m', m' < m ∧ W (i + 1) m' H') ∧ ∀ x H', J.yld i H x H' → g x (wipe σ vs) H' fun σ2 H2 => wipe σ2 vs = wipe σ vs ∧ tt σ2 H2 fun b H3 =>
    if b = true then te σ2 H3 fun y H4 => ∃ acc, H4 D = some (.lst acc) ∧ acc.length < sizeLine ∧ Nx (upd H4 D (.lst (acc ++ [y]))) else Nx H3)
theorem ap_tLc (wi : TI) (g : TG) (tt : TT) (te : TE) (vs : List Nat) : ∀ σ H Q, tLc wi g tt te vs σ H Q = (wi σ H fun J H1 => ∀ D, H1 D = none → LcB J g tt te vs σ H1 D fun H => Q (.ref D) H) := fun _ _ _ => rfl
section
variable {K : PySem.W.Frag} {a b : Addr} {xs ys : List V} {g : TG} {tb : TS} {D : Ends} {σ : St} {H : Hp}
theorem forB_list (Pv : Nat → St → Hp → Prop) (h0 : Pv 0 σ H) (hl : ∀ i σ H, i ≤ xs.length → Pv i σ H → SqL K H a xs)
    (hs : ∀ i x σ H, xs[i]? = some x → Pv i σ H → g x σ H fun σ2 H2 => tb { D with nx := Pv (i + 1), ct := Pv (i + 1), bk := D.nx } σ2 H2) (hd : ∀ σ H, Pv xs.length σ H → D.nx σ H) : ForB (Itl K a) g tb D σ H := for_list Pv h0 hl hs hd
theorem forB_range {lo : Int} {n : Nat} (Pv : Nat → St → Hp → Prop) (h0 : Pv 0 σ H)
    (hs : ∀ i σ H, i < n → Pv i σ H → g (.int (lo + i)) σ H fun σ2 H2 => tb { D with nx := Pv (i + 1), ct := Pv (i + 1), bk := D.nx } σ2 H2) (hd : ∀ σ H, Pv n σ H → D.nx σ H) : ForB (Itr lo n) g tb D σ H := for_range Pv h0 hs hd
variable {tt : TT} {te : TE} {vs : List Nat} {H1 : Hp} {Dl : Addr} {Qd : Hp → Prop}
theorem lcB_list (Pv : Nat → Hp → Prop) (h0 : Pv 0 (upd H1 Dl (.lst []))) (hl : ∀ i H, i ≤ xs.length → Pv i H → SqL K H a xs)
    (hs : ∀ i x H, xs[i]? = some x → Pv i H → g x (wipe σ vs) H fun σ2 H2 => wipe σ2 vs = wipe σ vs ∧ tt σ2 H2 fun b H3 =>
      if b = true then te σ2 H3 fun y H4 => ∃ acc, H4 Dl = some (.lst acc) ∧ acc.length < sizeLine ∧ Pv (i + 1) (upd H4 Dl (.lst (acc ++ [y]))) else Pv (i + 1) H3) (hd : ∀ H, Pv xs.length H → Qd H) : LcB (Itl K a) g tt te vs σ H1 Dl Qd := lc_list Pv h0 hl hs hd
theorem lcB_range {lo : Int} {n : Nat} (Pv : Nat → Hp → Prop) (h0 : Pv 0 (upd H1 Dl (.lst [])))
    (hs : ∀ i H, i < n → Pv i H → g (.int (lo + i)) (wipe σ vs) H fun σ2 H2 => wipe σ2 vs = wipe σ vs ∧ tt σ2 H2 fun b H3 =>
      if b = true then te σ2 H3 fun y H4 => ∃ acc, H4 Dl = some (.lst acc) ∧ acc.length < sizeLine ∧ Pv (i + 1) (upd H4 Dl (.lst (acc ++ [y]))) else Pv (i + 1) H3) (hd : ∀ H, Pv n H → Qd H) : LcB (Itr lo n) g tt te vs σ H1 Dl Qd := lc_range Pv h0 hs hd
end

/-! ### comprehensions that map -/
structure LcI (H1 : Hp) (Dl : Addr) (Pv : List V → Hp → Prop) (ys : List V) (H : Hp) : Prop where
  at_ : H Dl = some (.lst ys)
  same : Same H1 H
  pv : Pv ys H
def LcNext (H1 : Hp) (Dl : Addr) (Pv : List V → Hp → Prop) (i : Nat) (y : V) (H4 : Hp) : Prop :=
  ∃ acc, H4 Dl = some (.lst acc) ∧ acc.length < sizeLine ∧ ∃ ys : List V, ys.length = i + 1 ∧ LcI H1 Dl Pv ys (upd H4 Dl (.lst (acc ++ [y])))
theorem LcNext.mk {H1 H H4 : Hp} {Dl : Addr} {Pv : List V → Hp → Prop} {i : Nat} {y : V} {ys : List V} (hD : H1 Dl = none) (I : LcI H1 Dl Pv ys H) (hi : ys.length = i) (s : Same H H4) (sm : i < sizeLine) (pv : Pv (ys ++ [y]) (upd H4 Dl (.lst (ys ++ [y])))) : LcNext H1 Dl Pv i y H4 := by
  refine ⟨ys, s _ _ I.at_, by omega, ys ++ [y], by simp [hi], upd_same, fun b o e => ?_, pv⟩
  rw [upd_ne (ne_of_none e hD)]
  exact s _ _ (I.same _ _ e)
section
variable {K : PySem.W.Frag} {a : Addr} {xs : List V} {g : TG} {σ : St} {te : TE} {vs : List Nat} {H1 : Hp} {Dl : Addr} {Qd : Hp → Prop}
theorem lcM_list (hD : H1 Dl = none) (ha : SqL K H1 a xs) (Pv : List V → Hp → Prop) (h0 : Pv [] (upd H1 Dl (.lst [])))
    (hs : ∀ i x ys H, xs[i]? = some x → ys.length = i → LcI H1 Dl Pv ys H → g x (wipe σ vs) H fun σ2 H2 => wipe σ2 vs = wipe σ vs ∧ te σ2 H2 fun y H4 => LcNext H1 Dl Pv i y H4)
    (hd : ∀ ys H, ys.length = xs.length → LcI H1 Dl Pv ys H → Qd H) : LcB (Itl K a) g tYes te vs σ H1 Dl Qd :=
  lcB_list (fun i H => ∃ ys : List V, ys.length = i ∧ LcI H1 Dl Pv ys H) ⟨[], rfl, upd_same, Same.new hD, h0⟩ (fun _ _ _ ⟨_, _, I⟩ => I.same.sqL ha) (fun i x H hx ⟨ys, hi, I⟩ => hs i x ys H hx hi I) fun H ⟨ys, hi, I⟩ => hd ys H hi I
end

/-! ### the law's head -/
end L2
namespace Att
open PySem PySem.W PySem.Calls PyProof.Rows
theorem bits_script : ∀ {ns : List Int} {m : Nat}, WData.weightAll (ns.map WData.int) ≤ m → ∀ n ∈ ns, Builtin.Int.intBits n ≤ m
  | [], _, _, _, hn => nomatch hn
  | x :: r, m, h, n, hn => by
    have h' : WData.weight (.int x) + 1 + WData.weightAll (r.map WData.int) ≤ m := h
    rcases List.mem_cons.mp hn with rfl | hn
    · have h2 : WData.weight (.int n) ≤ m := by omega
      simpa only [WData.weight, Builtin.Int.intBits] using h2
    · exact bits_script (by omega) n hn
theorem attach_callB {l : OpenLaw} {n : Nat} {q : Program} {loose : List Str} {XP : (Str → Option Value) → Heap → Prop} {YP : World → Heap → Prop} {d : DefRec}
    (hn : l.most = some n) (hdf : d.params.defaults = [])
    (call : ∀ (w : World) (s₀ s₁ : Shared) (mg mb : Str → Option Value) (fa : Addr) (o : Obj) (pm cd doc : Value) (a : Addr) (vs : List Value) (ns : List Int),
      Ground q loose [] XP w s₀ mg mb s₁.heap → YP w s₁.heap →
      s₁.heap.get? fa = some o → o.data = .func (docDef d.name d.params d.body d.scope pm cd doc) → s₁.heap.CodeRec cd d.name → mg d.name = some (.ref fa) →
      s₁.heap.get? a = some { cls := .type "list", data := .seq vs.toArray } → IntsAre vs ns → ns.length ≤ n → (∀ z ∈ ns, Builtin.Int.intBits z ≤ 1048576) → s₁.gens = #[] →
      codeAny (model l.prog w) callerA (.call (.ref fa) ⟨[.ref a], []⟩) (fun r s' => r = .ok (.ret (.bool true)) ∧ OldK s₁.heap s'.heap ∧ s'.os = s₁.os ∧ AllBare s'.gens) s₁) :
    WalkO q loose XP YP l.row.toRowW d [] (fun f vs => PySem.call f vs) := by
  intro w s₀ s₁ mg mb G Y fa o pm cd doc dV kV ho hd hcd hD hmg hg args vals as hpre hlay hrd hwl hlo
  obtain rfl : dV = .none := Dflts.none hD hdf
  obtain rfl : kV = .none := Dflts.noKw hD
  obtain ⟨a, vs, ns, rfl, rfl, hobj, hints, hlen⟩ := script_of hn hpre hwl
  have hb : ∀ z ∈ ns, Builtin.Int.intBits z ≤ 1048576 := by
    have h1 := (layW_cons hlay).1
    simp only [WData.layable, Bool.and_eq_true, decide_eq_true_eq] at h1
    have h2 : WData.weightAll (ns.map WData.int) ≤ 2 ^ 20 := by simpa only [WData.weight] using h1.2
    exact bits_script h2
  refine enter_call (codeAny_mono (call w s₀ s₁ mg mb fa o pm cd doc a vs ns G Y ho (fd_plain hd) hcd hmg hobj hints hlen hb hg) fun r s' hq => ?_)
  obtain ⟨rfl, h2, h3, h4⟩ := hq
  exact ⟨.inl ⟨.bool true, .bool true, [], rfl, fun _ => rfl, .bool true, post_true l _, fun _ => ⟨List.Pairwise.nil, fun _ hm => (nomatch hm)⟩⟩, h2, h3, h4⟩
end Att
namespace L2
open PySem PySem.Spec PyProof.Rows
end L2
namespace L2
open PySem PySem.Spec PyProof.Rows
/-! ### range(n) as a value, list(range(n)) -/
def rRange : List V → Hp → VK → Prop := fun xs H Q => ∃ j : Int, xs = [.int j] ∧ ∀ p, H p = none → Q (.ref p) (upd H p (.rng 0 j))
theorem ap_rRange : ∀ xs H Q, rRange xs H Q = (∃ j : Int, xs = [.int j] ∧ ∀ p, H p = none → Q (.ref p) (upd H p (.rng 0 j))) := fun _ _ _ => rfl
def rListR : List V → Hp → VK → Prop := fun xs H Q => ∃ (p : Addr) (j : Int), xs = [.ref p] ∧ H p = some (.rng 0 j) ∧ (0 ≤ j ∧ j ≤ 1000) ∧ ∀ l, H l = none → Q (.ref l) (upd H l (.lst ((List.range j.toNat).map fun i => V.int (i : Nat))))
theorem ap_rListR : ∀ xs H Q, rListR xs H Q = (∃ (p : Addr) (j : Int), xs = [.ref p] ∧ H p = some (.rng 0 j) ∧ (0 ≤ j ∧ j ≤ 1000) ∧ ∀ l, H l = none → Q (.ref l) (upd H l (.lst ((List.range j.toNat).map fun i => V.int (i : Nat))))) := fun _ _ _ => rfl
section
variable {X : Cx}
end

/-! ### data of ints -/
end L2
namespace L2
open PySem PySem.Spec PyProof.Rows
/-! ### texts: walked, numbered, repeated -/
section
variable {K : PySem.W.Frag} {g : TG} {tb : TS} {D : Ends} {σ : St} {H : Hp} {x : Str}
/-- the signs of a text, numbered: each in a new pair -/
def Ites (x : Str) : It :=
  ⟨fun i _ => i < x.cps.size, fun i H v H' => ∃ T c, v = .ref T ∧ H T = none ∧ H' = upd H T (.tup [.int (i : Nat), .str ⟨#[c]⟩]) ∧ x.cps[i]? = some c, fun i _ => i = x.cps.size⟩
variable {te : TE} {vs : List Nat} {H1 : Hp} {Dl : Addr} {Qd : Hp → Prop}
theorem lcM_str (hD : H1 Dl = none) (Pv : List V → Hp → Prop) (h0 : Pv [] (upd H1 Dl (.lst [])))
    (hs : ∀ i c ys H, x.cps[i]? = some c → ys.length = i → LcI H1 Dl Pv ys H → g (.str ⟨#[c]⟩) (wipe σ vs) H fun σ2 H2 => wipe σ2 vs = wipe σ vs ∧ te σ2 H2 fun y H4 => LcNext H1 Dl Pv i y H4)
    (hd : ∀ ys H, ys.length = x.cps.size → LcI H1 Dl Pv ys H → Qd H) : LcB (Its x) g tYes te vs σ H1 Dl Qd := by
  refine ⟨fun i m H => m = x.cps.size - i ∧ i ≤ x.cps.size ∧ ∃ ys : List V, ys.length = i ∧ LcI H1 Dl Pv ys H, ⟨x.cps.size, by simp, Nat.zero_le _, [], rfl, upd_same, Same.new hD, h0⟩, ?_⟩
  rintro i m H ⟨rfl, hi, ys, hl, I⟩
  by_cases hlt : i < x.cps.size
  · refine .inr ⟨hlt, fun H => ∃ ys : List V, ys.length = i + 1 ∧ LcI H1 Dl Pv ys H, fun H' p' => ⟨x.cps.size - (i + 1), by omega, rfl, hlt, p'⟩, fun v H' y => ?_⟩
    obtain ⟨e, c, hc, e2⟩ := y
    subst e e2
    exact hs i c ys _ hc hl I
  · have e : i = x.cps.size := by omega
    subst e
    exact .inl ⟨Nat.le_refl _, hd ys H hl I⟩
end
def iEnumS (ta : TA) : TI := fun σ H R => ta σ H fun vs H1 => ∃ x, vs = [.str x] ∧ R (Ites x) H1
theorem ap_iEnumS (ta : TA) : ∀ σ H R, iEnumS ta σ H R = (ta σ H fun vs H1 => ∃ x, vs = [.str x] ∧ R (Ites x) H1) := fun _ _ _ => rfl
/-- text * n -/
def rMulS : R2 := fun x y H Q => ∃ z n, x = .str z ∧ y = .int n ∧ (0 < n ∧ n ≤ 100 ∧ z.length ≤ 10000) ∧ Q (.str (Txt.mul z n)) H
theorem ap_rMulS : ∀ x y H Q, rMulS x y H Q = (∃ z n, x = .str z ∧ y = .int n ∧ (0 < n ∧ n ≤ 100 ∧ z.length ≤ 10000) ∧ Q (.str (Txt.mul z n)) H) := fun _ _ _ _ => rfl
section
variable {X : Cx}
end
/-- a list of texts, at a number within -/
theorem menu {xs : List Str} {i : Int} (h0 : 0 ≤ i) (h1 : i < xs.length) : ∃ x, x ∈ xs ∧ atI (xs.map V.str) i = some (.str x) := by
  have hk : i.toNat < xs.length := by omega
  exact ⟨xs[i.toNat], List.getElem_mem _, at_of (j := i.toNat) (by omega) (by simp [hk])⟩
end L2
namespace L2
open PySem PySem.Spec PyProof.Rows
/-! ### set(list of texts) -/
theorem rev_ind {α : Type} {P : List α → Prop} (h0 : P []) (hs : ∀ l x, P l → P (l ++ [x])) (l : List α) : P l := by
  have key : ∀ r : List α, P r.reverse := by
    intro r
    induction r with
    | nil => exact h0
    | cons a r ih => rw [List.reverse_cons]; exact hs _ _ ih
  have := key l.reverse
  rwa [List.reverse_reverse] at this
theorem isStr_self (x : Str) (t : Tok) : Value.isStrOf x (.str x t) = true := by simp [Value.isStrOf]
/-- each text once, where it first stands -/
def dedS (l : List Str) : List Str := l.foldl (fun acc x => if x ∈ acc then acc else acc ++ [x]) []
theorem dedS_snoc (l : List Str) (x : Str) : dedS (l ++ [x]) = if x ∈ dedS l then dedS l else dedS l ++ [x] := by
  unfold dedS
  rw [List.foldl_append]
  rfl
theorem mem_dedS : ∀ (l : List Str) (y : Str), y ∈ dedS l ↔ y ∈ l := by
  intro l
  induction l using rev_ind with
  | h0 => intro y; simp [dedS]
  | hs l x ih =>
    intro y
    rw [dedS_snoc]
    split
    · rename_i hx
      rw [ih, List.mem_append, List.mem_singleton]
      exact ⟨.inl, fun h => h.elim id fun e => by rw [e]; exact (ih x).mp hx⟩
    · rw [List.mem_append, ih, List.mem_append]
theorem dedS_le (l : List Str) : (dedS l).length ≤ l.length := by
  induction l using rev_ind with
  | h0 => simp [dedS]
  | hs l x ih =>
    rw [dedS_snoc]
    split <;> simp <;> omega
theorem dedS_nodup (l : List Str) : (dedS l).Nodup := by
  induction l using rev_ind with
  | h0 => simp [dedS]
  | hs l x ih =>
    rw [dedS_snoc]
    split
    · exact ih
    · rename_i hx
      exact nd_snoc ih hx
theorem dedS_id : ∀ {l : List Str}, l.Nodup → dedS l = l := by
  intro l
  induction l using rev_ind with
  | h0 => intro _; rfl
  | hs l x ih =>
    intro h
    obtain ⟨h1, h2, h3⟩ := List.nodup_append.mp h
    rw [dedS_snoc, ih h1, if_neg fun hx => h3 x hx x (by simp) rfl]

/-! a set of texts, with what its table is known to be -/
def ByT (w : World) : Bool := w.params.followText "set-order"
def SetL (prog : Program) (w : World) (h : Heap) (a : Addr) (zs : List Str) : Prop :=
  ∃ o es ep t, h.get? a = some o ∧ o.ExactSet ∧ o.data = .set es ep t ∧ ElemsOf (strKind prog w) es.toList ∧ (∀ k : Str, decide (k ∈ zs) = true ↔ ∃ e ∈ es.toList, (strKind prog w).is k e.2 = true) ∧
    es.size = zs.length ∧ es.size < scanBound ∧ t.fits es.size = true ∧ t.led = !(ByT w) ∧ (es.size = 0 ∨ t.plain = false)
section
theorem orS_led (t : SetTable) (n : Nat) : (t.orStandIn n).led = t.led ∧ (t.plain = false → (t.orStandIn n).plain = false) := by
  unfold SetTable.orStandIn
  split
  · exact ⟨rfl, id⟩
  · exact ⟨rfl, fun _ => rfl⟩
theorem lay_led (t : SetTable) (es : Array (Int × Value)) (h : Int) (x : Value) : (layNew t es h x).2.1.led = t.led ∧ (t.plain = false → (layNew t es h x).2.1.plain = false) := by
  unfold layNew
  split
  · exact orS_led (t.put _).1 _
  · exact ⟨rfl, fun _ => rfl⟩
theorem relay_led (t : SetTable) (es : Array (Int × Value)) (n : Nat) : (relayAll t es n).2.1.led = t.led ∧ (t.plain = false → (relayAll t es n).2.1.plain = false) := by
  unfold relayAll
  split
  · rename_i t' od e
    have key : t'.led = t.led ∧ t'.plain = t.plain := by
      unfold SetTable.relaid SetTable.laid at e
      cases e2 : SetTable.layClean (SetTable.sizeAbove n - 1) (es.map (·.1)) with
      | none => rw [e2] at e; cases e
      | some ow => rw [e2] at e; cases e; exact ⟨rfl, rfl⟩
    dsimp only
    split
    · exact ⟨key.1, fun z => key.2.trans z⟩
    · exact ⟨rfl, fun _ => rfl⟩
  · exact ⟨rfl, fun _ => rfl⟩
variable {prog : Program} {w : World} {A : Around} {E : Value → Shared → Prop} {s : Shared}
theorem SetL.store {h : Heap} {a : Addr} {o : Obj} {es es' : Array (Int × Value)} {ep : Nat} {t t' : SetTable} {zs : List Str} (ho : h.get? a = some o) (hex : o.ExactSet) (hd : o.data = .set es ep t) (hel : ElemsOf (strKind prog w) es'.toList)
    (hm : ∀ k : Str, decide (k ∈ zs) = true ↔ ∃ e ∈ es'.toList, (strKind prog w).is k e.2 = true) (hn : es'.size = zs.length) (hb : es'.size < scanBound) (hf : t'.fits es'.size = true) (hl : t'.led = !(ByT w)) (hp : t'.plain = false) :
    SetL prog w (h.update a (Obj.putSet es' t')) a zs ∧ (h.update a (Obj.putSet es' t')).get? a = some { o with data := .set es' (ep + 1) t' } := by
  obtain ⟨hg, _⟩ := SetOf_store (knd := strKind prog w) (S' := fun k => decide (k ∈ zs)) ho hex hd hel hm hb hf
  exact ⟨⟨_, es', ep + 1, t', hg, hex, rfl, hel, hm, hn, hb, hf, hl, .inr hp⟩, hg⟩
theorem set_add {a : Addr} {zs : List Str} {x : Str} {tk : Tok} {Q : Bool → Shared → Prop} (I : SetL prog w s.heap a zs) (hr : zs.length + 1 < scanBound)
    (h : ∀ b h', Heap.SameBut a s.heap h' → SetL prog w h' a (if x ∈ zs then zs else zs ++ [x]) → Q b { s with heap := h' }) :
    wpAny (model prog w) A (setAddHashed a (.str x tk) ((strKind prog w).hash x)) Q E s := by
  obtain ⟨o, es, ep, t, ho, hex, hd, hel, hm, hn, hb, hf, hl, hp⟩ := I
  have hx : (strKind prog w).is x (.str x tk) = true := isStr_self x tk
  unfold setAddHashed setAddHashedIn
  refine wpAny_holding (wpAny_bind (wpAny_setState_of ho hd hf ?_))
  dsimp only
  rw [byScan_of (knd := strKind prog w) (x := .str x tk) rfl hb hel, if_pos rfl]
  unfold setAddByScan
  refine wpAny_bind (wpAny_bind (wpAny_rule (wpAny_bind (wpAny_setScan_of hx ho hd hf hel ?_))))
  cases e1 : es.toList.findIdx? (fun e => (strKind prog w).is x e.2) with
  | some j =>
    obtain ⟨hj, hpj, _⟩ := List.findIdx?_eq_some_iff_getElem.mp e1
    have hin : x ∈ zs := of_decide_eq_true ((hm x).mpr ⟨_, List.getElem_mem hj, hpj⟩)
    have := h false s.heap (Heap.SameBut.refl a _) (by rw [if_pos hin]; exact ⟨o, es, ep, t, ho, hex, hd, hel, hm, hn, hb, hf, hl, hp⟩)
    exact wpAny_pure (wpAny_pure this)
  | none =>
    have hout : x ∉ zs := fun hin => by
      obtain ⟨e, he, hq⟩ := (hm x).mp (decide_eq_true hin)
      have := List.findIdx?_eq_none_iff.mp e1 e he
      rw [hq] at this; cases this
    rw [if_neg hout] at h
    dsimp only
    have hperm := layNew_perm t es ((strKind prog w).hash x) (.str x tk)
    have hfits := layNew_fits t es ((strKind prog w).hash x) (.str x tk)
    have hled := lay_led t es ((strKind prog w).hash x) (.str x tk)
    generalize layNew t es ((strKind prog w).hash x) (.str x tk) = Ln at hperm hfits hled ⊢
    obtain ⟨es1, t1, wd, gv⟩ := Ln
    dsimp only at hperm hfits hled ⊢
    rw [Array.toList_push] at hperm
    have hel1 : ElemsOf (strKind prog w) es1.toList := (hel.push hx rfl).perm hperm
    have hn1 : es1.size = (zs ++ [x]).length := by rw [← Array.length_toList, hperm.length_eq, List.length_append, Array.length_toList, hn, List.length_append]; rfl
    have hb1 : es1.size < scanBound := by rw [hn1, List.length_append, List.length_singleton]; exact hr
    have hm1 : ∀ k : Str, decide (k ∈ zs ++ [x]) = true ↔ ∃ e ∈ es1.toList, (strKind prog w).is k e.2 = true := fun k => by
      rw [← mem_push_iff hx hm hperm k, Bool.or_eq_true, decide_eq_true_eq, decide_eq_true_eq, decide_eq_true_eq, List.mem_append, List.mem_singleton]
    have fin : ∀ {t2 : SetTable}, t2.fits es1.size = true → t2.led = !(ByT w) → t2.plain = false → wpAny (model prog w) A (do
        storeSet a es1 t2
        if (!wd && t2.tooFull) = true then do
            (match (relayAll t2 es1 (SetTable.grown es1.size)).2.2 with | true => rule "set.scan.the-table-gave-way" | false => pure () : Sem Unit)
            storeSet a (relayAll t2 es1 (SetTable.grown es1.size)).1 (relayAll t2 es1 (SetTable.grown es1.size)).2.1
            pure (some true)
          else pure (some true)) (fun r s' => wpAny (model prog w) A (match r with | some b => pure b | none => setAddHashedIn a (.str x tk) ((strKind prog w).hash x) 99999) Q E s') E s := fun {t2} f2 l2 p2 => by
      refine wpAny_bind (wpAny_storeSet_of ho hd ?_ (fits_of_scanBound hb1))
      obtain ⟨S1, g1⟩ := SetL.store (zs := zs ++ [x]) ho hex hd hel1 hm1 hn1 hb1 f2 l2 p2
      have sb1 := Heap.SameBut.update s.heap a (Obj.putSet es1 t2)
      split
      · have rp := relayAll_perm t2 es1 (SetTable.grown es1.size)
        have rf := relayAll_fits t2 es1 (SetTable.grown es1.size)
        have rl := relay_led t2 es1 (SetTable.grown es1.size)
        generalize relayAll t2 es1 (SetTable.grown es1.size) = Rl at rp rf rl ⊢
        obtain ⟨es2, t3, gv2⟩ := Rl
        dsimp only at rp rf rl ⊢
        have hz : es2.size = es1.size := by rw [← Array.length_toList, rp.length_eq, Array.length_toList]
        have go : ∀ {s₁ : Shared} {Q' : Unit → Shared → Prop}, Q' () s₁ → wpAny (model prog w) A (match gv2 with | true => rule "set.scan.the-table-gave-way" | false => pure () : Sem Unit) Q' E s₁ := fun hq => by
          cases gv2
          · exact wpAny_pure hq
          · exact wpAny_rule hq
        refine wpAny_bind (go (wpAny_bind (wpAny_storeSet_of g1 rfl ?_ (fits_of_scanBound (by rw [hz]; exact hb1)))))
        obtain ⟨S2, _⟩ := SetL.store (prog := prog) (w := w) (zs := zs ++ [x]) g1 hex rfl (hel1.perm rp) (fun k => (hm1 k).trans ⟨fun ⟨e, he, q⟩ => ⟨e, rp.mem_iff.mpr he, q⟩, fun ⟨e, he, q⟩ => ⟨e, rp.mem_iff.mp he, q⟩⟩) (hz.trans hn1) (by rw [hz]; exact hb1) rf (rl.1.trans l2) (rl.2 p2)
        exact wpAny_pure (wpAny_pure (h true _ (sb1.trans (Heap.SameBut.update _ a _)) S2))
      · exact wpAny_pure (wpAny_pure (h true _ sb1 S1))
    have gw : ∀ {s₁ : Shared} {Q' : Unit → Shared → Prop}, Q' () s₁ → wpAny (model prog w) A (match gv with | true => rule "set.scan.the-table-gave-way" | false => pure () : Sem Unit) Q' E s₁ := fun hq => by
      cases gv
      · exact wpAny_pure hq
      · exact wpAny_rule hq
    refine wpAny_bind (gw ?_)
    by_cases htp : t1.plain = true
    · rw [if_pos htp]
      refine wpAny_bind ?_
      rw [hashByValue_scannable 8 (show (Value.str x tk).scannable = true from rfl)]
      refine wpAny_pure ?_
      exact fin (t2 := { t1 with plain := false }) (SetTable.fits_plain_off hfits) (hled.1.trans hl) rfl
    · rw [if_neg htp]
      refine wpAny_bind (wpAny_pure ?_)
      rw [if_pos rfl]
      exact fin hfits (hled.1.trans hl) (by simpa using htp)
end
section
variable {prog : Program} {w : World}
theorem setLoopS {A : Around} {R : Result → Shared → Prop} {it S : Addr} {fp wr : List Addr} {G : Array GenState → Array GenState → Prop} {P : Nat → Value → Prop} {St : Nat → Shared → Prop} {zs : List Str}
    (W : WalksS prog w A.in1 it fp wr G zs.length P St) (hS0 : S ∉ fp) (hv : ∀ i v, P i v → ∃ x t, zs[i]? = some x ∧ v = .str x t) (hz : zs.length + 1 < scanBound) :
    ∀ (k i : Nat) (s : Shared), zs.length - i = k → i ≤ zs.length → St i s → SetL prog w s.heap S (dedS (zs.take i)) →
      (∀ s', Moved (S :: wr) G s s' → SetL prog w s'.heap S (dedS zs) → R (.ok (.ret .none)) s') →
      codeAny (model prog w) A (.builtin "set.update.loop" ⟨[.ref S, .ref it], []⟩) R s := by
  have nw : S ∉ wr := fun h => hS0 (W.sub _ h)
  have keepS : ∀ {s s' : Shared} {T : List Str}, Moved wr G s s' → SetL prog w s.heap S T → SetL prog w s'.heap S T := fun hm ⟨o, es, ep, t, ho, more⟩ => ⟨o, es, ep, t, hm.heap S _ nw ho, more⟩
  intro k
  induction k with
  | zero =>
    intro i s hk hi st hS out
    obtain rfl : i = zs.length := by omega
    rw [List.take_of_length_le (Nat.le_refl _)] at hS
    refine codeAny_builtin F.entry_set_update_loop ?_
    rw [Around.under_plainId F.plain_set_update_loop _]
    show wpAny _ A.in1 (pyNext (.ref it) >>= _) _ _ s
    exact wpAny_bind (W.done s _ _ st fun s' hm => wpAny_pure (out s' (hm.mono fun b hb => List.mem_cons_of_mem _ hb) (keepS hm hS)))
  | succ k ih =>
    intro i s hk hi st hS out
    have hlt : i < zs.length := by omega
    refine codeAny_builtin F.entry_set_update_loop ?_
    rw [Around.under_plainId F.plain_set_update_loop _]
    show wpAny _ A.in1 (pyNext (.ref it) >>= _) _ _ s
    refine wpAny_bind (W.item i s _ _ hlt st fun v s1 hP st1 hm => ?_)
    obtain ⟨x, t, hx, rfl⟩ := hv i v hP
    have hS1 := keepS hm hS
    have hroom : (dedS (zs.take i)).length + 1 < scanBound := by
      have h1 := dedS_le (zs.take i)
      rw [List.length_take] at h1
      omega
    show wpAny _ A.in1 (holding [Value.str x t] (setAdd S (.str x t)) >>= _) _ _ s1
    refine wpAny_bind (wpAny_holding ?_)
    unfold setAdd
    refine wpAny_holding (wpAny_bind ((strKind prog w).pyHash (k := x) (isStr_self x t) ?_))
    refine set_add (s := { s1 with toks := s1.toks + 1 }) hS1 hroom fun bb h2 sb hS2 => ?_
    have e3 : zs.take (i + 1) = zs.take i ++ [x] := by rw [List.take_succ, hx]; rfl
    have hS3 : SetL prog w h2 S (dedS (zs.take (i + 1))) := by rw [e3, dedS_snoc]; exact hS2
    refine wpAny_pure ⟨plainId_quiet F.plain_set_update_loop _, ih (i + 1) _ (by omega) hlt (W.frame _ s1 _ _ st1 (Nat.le_succ _) fun b hb o e => ?_) hS3 fun s4 hm4 hS4 => ?_⟩
    · rw [sb.2 b fun z : b = S => hS0 (by rw [← z]; exact hb)]
      exact e
    · refine out s4 (Moved.trans W.gtrans ((hm.mono fun b hb => List.mem_cons_of_mem _ hb).then_heap (Nat.le_succ _) fun b o hb e => ?_) hm4) hS4
      rw [sb.2 b fun z : b = S => hb (by rw [z]; exact List.mem_cons_self)]
      exact e
end

/-- the empty set that set.__new__ lays -/
abbrev set0 (led : Bool) : Obj := { cls := .type "set", dict := none, data := .set #[] 0 (.fresh 0 0 led) }

section
variable {prog : Program} {w : World} {A : Around} {E : Value → Shared → Prop} {s : Shared}
/-- what set.__new__ lays, with the mark that the world gives it -/
theorem newset_led (a : Value) {Q₁ : Value → Shared → Prop} (h : Q₁ (.ref s.heap.objs.size) { s with heap := s.heap.push (set0 (!(ByT w))) }) :
    codeAny (model prog w) A (.call (.builtin "set.__new__") ⟨[.type "set", a], []⟩) (wants Q₁ E) s := by
  refine codeAny_of_tree (show wpAny _ A.in1 (do checkBuiltinCall "set.__new__" ⟨[.type "set", a], []⟩; again (.builtin "set.__new__" ⟨[.type "set", a], []⟩)) _ _ s from ?_)
  refine wpAny_bind (wpAny_of_eq (F.newCall_set_1 a) (wpAny_pure ⟨plainId_quiet F.plain_set_new _, codeAny_builtin F.entry_set_new ?_⟩))
  rw [Around.under_plainId F.plain_set_new _]
  unfold Builtin.«set.__new__» Builtin.Frozenset.newClass
  have hsub := sub_set_self
  cases s
  dsimp only
  wp_walk
  refine wpAny_askSetting (wpAny_pure ?_)
  dsimp only
  simp only [newObj]
  exact wpAny_bind (wpAny_alloc (wpAny_pure (wpAny_pure h)))
end
end L2
namespace PySem
open PyProof.Rows L2
section
variable {prog : Program} {w : World} {A : Around} {E : Value → Shared → Prop} {s : Shared}
set_option maxHeartbeats 3200000 in
theorem call_setS {l : Addr} {items : Array Value} {zs : List Str} {Q : Value → Shared → Prop} (hh : A.handled = none) (hl : s.heap.IsList l items) (hi : Vals (zs.map V.str) items.toList) (hz : zs.length + 1 < scanBound)
    (h : ∀ (h' : Heap) (tk : Nat), SetL prog w h' s.heap.objs.size (dedS zs) → (∀ b o, b < s.heap.objs.size → s.heap.get? b = some o → h'.get? b = some o) → Q (.ref s.heap.objs.size) { s with heap := h', toks := tk }) :
    wpAny (model prog w) A (call (.type "set") [.ref l]) Q E s := by
  obtain ⟨c1, c2, hmro⟩ := F.called_set.mro
  have hmade := F.called_set.made; have hsub := F.called_set.sub
  have h1 := F.called_set.notType; have h2 := F.called_set.canCreate; have hct := F.typeCall_set_1 (.ref l)
  have hsz : items.size = zs.length := by have := hi.length; rw [List.length_map] at this; simpa using this.symm
  refine wpAny_call (codeAny_of_tree (show wpAny _ _ (callAny (.type "set") _) _ _ _ from wpAny_pure ⟨Code.quiet_builtin _ (by decide +kernel), codeAny_builtin F.entry_type_call ?_⟩))
  rw [Around.under_plain (weight_type_call_type "set" [.ref l] []) rfl]
  repeat (any_goals (first | assumption | wp_step))
  refine codeAny_mono (newset_led (.ref l) (E := E) (Q₁ := fun ob s1 => ∃ led : Bool, led = !(ByT w) ∧ ob = .ref s.heap.objs.size ∧ s1 = { s with heap := s.heap.push (set0 led) }) ⟨_, rfl, rfl, rfl⟩) fun r s1 hr => ?_
  cases r with
  | error e => exact hr
  | ok fl =>
    cases fl with
    | next => exact hr.elim
    | brk => exact hr.elim
    | cont => exact hr.elim
    | ret ob =>
      obtain ⟨led, eled, rfl, rfl⟩ := hr
      have hS : (s.heap.push (set0 led)).get? s.heap.objs.size = some (set0 led) := Heap.get?_push_size _ rfl
      have hT : Shared.TypeIs { s with heap := s.heap.push (set0 led) } (.ref s.heap.objs.size) "set" := ⟨_, hS, rfl⟩
      have hli := F.called_set.init.lookup; have hbi := F.called_set.init.bind (.ref s.heap.objs.size)
      repeat (any_goals (first | assumption | wp_step))
      refine codeAny_mono (codeAny_call_builtin (R := wants (fun r s2 => r = .none ∧ ∃ h' tk, s2 = { s with heap := h', toks := tk } ∧ SetL prog w h' s.heap.objs.size (dedS zs) ∧ ∀ b o, b < s.heap.objs.size → s.heap.get? b = some o → h'.get? b = some o) E) F.called_set.init.plain F.entry_set_init (check_set_init_1 hT ?_)) fun r2 s2 hr2 => ?_
      · obtain ⟨⟨ocls, odict, odata, oslots⟩, hol, hcl, nl, hdl⟩ := hl
        simp only at hcl hdl
        subst hcl hdl
        have hol' : (s.heap.push (set0 led)).get? l = some { cls := .type "list", dict := odict, data := .seq items nl, slots := oslots } := Heap.get?_push_of_some _ hol
        have hsls := F.sub_list_set; have hslf := F.sub_list_frozenset
        have hne : (Value.type "list" == Value.type "dict") = false := by decide
        have hl1 : (s.heap.push (set0 led)).IsList l items := ⟨_, hol', rfl, nl, rfl⟩
        unfold Builtin.«set.__init__» noKeywords Builtin.Frozenset.updateFrom
        generalize hPI : pyIter = PI
        wp_walk
        subst hPI
        refine wpAny_pyIter_list hl1 (wpAny_bind (wpAny_runValue ?_))
        have hlS : l < s.heap.objs.size := Heap.lt_size hol
        have hh3 : A.in1.in1.in1.handled = none := by simp [hh]
        have szp : (s.heap.push (set0 led)).objs.size = s.heap.objs.size + 1 := Heap.size_push ..
        have hneI : l ≠ (s.heap.push (set0 led)).objs.size := by rw [szp]; exact Nat.ne_of_lt (Nat.lt_succ_of_lt hlS)
        have hSf : s.heap.objs.size ∉ [(s.heap.push (set0 led)).objs.size, l] := by
          rw [szp]
          simp only [List.mem_cons, List.not_mem_nil, or_false, not_or]
          exact ⟨Nat.ne_of_lt (Nat.lt_succ_self _), Nat.ne_of_gt hlS⟩
        have hv : ∀ (i : Nat) (v : Value), items[i]? = some v → ∃ x t, zs[i]? = some x ∧ v = .str x t := fun i v hiv => by
          have hlt : i < zs.length := by rw [← hsz]; exact (Array.getElem?_eq_some_iff.mp hiv).1
          obtain ⟨u, hu, t, rfl⟩ := hi.get (i := i) (x := .str zs[i]) (by simp [hlt])
          rw [Array.getElem?_toList, hiv] at hu
          exact ⟨zs[i], t, by simp [hlt], Option.some.inj hu⟩
        have W := (Walks.list hh3 (s.heap.push (set0 led)).objs.size l hneI items).toS (prog := prog) (w := w)
        rw [hsz] at W
        refine setLoopS W hSf hv hz (zs.length - 0) 0 _ (by omega) (Nat.zero_le _) ⟨⟨_, Heap.get?_push_size _ rfl, rfl, rfl⟩, hl1.push _⟩ ?hS0 ?hR
        case hS0 => exact ⟨set0 led, #[], 0, .fresh 0 0 led, Heap.get?_push_of_some _ hS, ⟨rfl, rfl, rfl⟩, rfl, (fun e he => by simp at he), (fun k => by simp [dedS]), rfl, (by unfold scanBound; decide), rfl, eled, .inl rfl⟩
        case hR =>
          rintro ⟨h', g', d', tk', os'⟩ hm hS'
          obtain rfl : g' = s.gens := hm.gens
          obtain rfl : d' = s.drawn := hm.drawn
          obtain rfl : os' = s.os := hm.os
          show wpAny _ _ _ _ _ _
          refine wpAny_pure (show wpAny _ _ (ret Value.none) _ _ _ from wpAny_pure ⟨rfl, h', tk', rfl, hS', fun b o hb e => ?_⟩)
          exact hm.heap b o (by rw [szp]; simp only [List.mem_cons, List.not_mem_nil, or_false, not_or]; exact ⟨Nat.ne_of_lt hb, Nat.ne_of_lt (Nat.lt_succ_of_lt hb)⟩) (Heap.get?_push_of_some _ (Heap.get?_push_of_some _ e))
      · cases r2 with
        | error e => exact hr2
        | ok fl2 =>
          cases fl2 with
          | next => exact hr2.elim
          | brk => exact hr2.elim
          | cont => exact hr2.elim
          | ret r =>
            obtain ⟨rfl, h', tk, rfl, hS', hk'⟩ := hr2
            repeat (any_goals (first | assumption | wp_step))
            exact h _ _ hS' hk'
end
end PySem
namespace L2
open PySem PySem.Spec PyProof.Rows
section
variable {X : Cx}
/-- a set of texts, tracked by itself -/
def setHO (P : Program) (w : World) (a : Addr) (zs : List Str) : HO := .ext fun h => SetL P w h a (dedS zs)
def rSetS (X : Cx) : List V → Hp → VK → Prop := fun vs H Q => ∃ (a : Addr) (zs : List Str), vs = [.ref a] ∧ SqL X.K H a (zs.map V.str) ∧ zs.length ≤ 1000 ∧ ∀ p, H p = none → Q (.ref p) (upd H p (setHO X.prog X.w p zs))
theorem call_setL (hc : X.calm = true) : CallR X (.type "set") (rSetS X) := by
  intro pins s σ H xs us Q I r h
  obtain ⟨a, zs, rfl, ha, hz, q⟩ := h
  obtain ⟨u, rfl, ru⟩ := vals1 r
  cases ru
  obtain ⟨its, rv, p, _⟩ := I.list ha
  refine call_setS (zs := zs) (I.ok.hd hc) p.isList (by simpa using rv) (by unfold scanBound; omega) fun h' tk hS hk => ?_
  have hk' : ∀ b o, s.heap.get? b = some o → h'.get? b = some o := fun b o e => hk b o (Heap.lt_size e) e
  refine ⟨.ref s.heap.objs.size, _, I.laid (o := setHO X.prog X.w s.heap.objs.size zs) hk' (Nat.le_refl _) ?_, rfl, q _ (I.hok.fresh (Nat.le_refl _))⟩
  obtain ⟨o, es, ep, t, ho, more⟩ := id hS
  exact ⟨hS, ⟨o, ho⟩, fun h1 h2 ⟨o, es, ep, t, ho, more⟩ k => ⟨o, es, ep, t, k o ho, more⟩⟩
def rLenSet (X : Cx) : List V → Hp → VK → Prop := fun vs H Q => ∃ (a : Addr) (zs : List Str), vs = [.ref a] ∧ H a = some (setHO X.prog X.w a zs) ∧ zs.length ≤ 1000 ∧ Q (.int (dedS zs).length) H
theorem call_lenSet : CallR X (.builtin "len") (rLenSet X) := by
  intro pins s σ H xs us Q I r h
  obtain ⟨a, zs, rfl, ha, hz, q⟩ := h
  obtain ⟨u, rfl, ru⟩ := vals1 r
  cases ru
  obtain ⟨⟨o, es, ep, t, ho, hex, hd, hel, hmem, hn, hb, hf, _, _⟩, _⟩ := (show ObjOk X.prog X.w H s.heap a (setHO X.prog X.w a zs) from I.hok a _ ha)
  have hle := dedS_le zs
  refine call_len_set ho hex hd hf (by rw [hn]; omega) ?_
  exact ⟨.int (dedS zs).length, H, I.tok _, ⟨_, by rw [hn]⟩, q⟩
end
end L2
namespace L2
open PySem PySem.Spec PyProof.Rows
/-! ### an exception's context is none, from its raise to its suite -/
def CtxN (e : Addr) (h : Heap) : Prop := ∃ o vs, h.get? e = some o ∧ o.data = .fields vs ∧ vs[2]? = some .none
section
variable {M : Model} {A : Around} {E : Value → Shared → Prop} {s : Shared} {B : Heap} {en : Env} {out l : List Env} {L e : Addr} {cl a0 : Value} {Q : Unit → Shared → Prop}
end
end L2
namespace L2
open PySem PySem.Spec PyProof.Rows
/-! ### exceptions of own classes -/
/-- how an exception lies behind a call: all that was there lies in B, which it doesn't touch -/
def CX1 (P : Program) (w : World) : CXT := fun outer H s E e s' => ∃ (a C : Addr) (H' : Hp) (B : Heap) (t : Value), e = .ref a ∧ s'.os = s.os ∧ AllBare s'.gens ∧ Un (frs outer) [] H H' s.heap s'.heap ∧
  Heap.FlyingW B outer a (.ref C) t s'.heap ∧ CtxN a s'.heap ∧ HOk P w H' B ∧ (∀ b o, s.heap.get? b = some o → H b = none → b ∉ frs outer → B.get? b = some o) ∧ (∀ b o, s.heap.get? b = some o → b ∉ frs outer → ∃ o', B.get? b = some o') ∧ E (.ref C) none H'
/-- a def that never raises -/
theorem FnOk.cx1 {P : Program} {w : World} {K : PySem.W.Frag} {mg : Str → Option Value} {base : Heap} {k : Nat} {f : Addr} {fd : FuncData} {ps : List Str} {sp : Sp} (F : FnOk P w K mg base CX0 k f fd ps sp) : FnOk P w K mg base (CX1 P w) k f fd ps sp :=
  ⟨F.len, fun A outer s H args us vs Q E hr e0 hb hv hs => codeAny_mono (F.run A outer s H args us vs Q E hr e0 hb hv hs) fun r s' h => by
    cases r with
    | error e => exact False.elim h
    | ok fl => cases fl <;> exact h⟩
section
variable {P : Program} {w : World} {K : PySem.W.Frag} {mg : Str → Option Value} {base : Heap} {N : List Str} {qual : Str} {scope : Scope} {f : Addr} {cd : Value} {A : Around} {outer : List Env} {s₀ : Shared} {H₀ : Hp} {E : XK}
/-- the body's context, where exceptions of own classes may leave it -/
abbrev cx1 (P : Program) (w : World) (K : PySem.W.Frag) (mg : Str → Option Value) (base : Heap) (N : List Str) (qual : Str) (scope : Scope) (f : Addr) (cd : Value) (A : Around) (outer : List Env) (s₀ : Shared) (H₀ : Hp) (E : XK) : Cx :=
  cxOf (CX1 P w) P w K mg base N qual scope f cd A outer s₀ H₀ E

/-- the class of an own exception, as the top wrote it -/
def OwnX (K : PySem.W.Frag) (x : Str) (C : Addr) : Prop := PySem.W.nsIn K mainGlobals x = some (some (.ref C)) ∧ PySem.W.excIn K C [.type "ValueError", .type "Exception", .type "BaseException", .type "object"] "ValueError.__new__" = true
theorem OwnX.cls {h : Heap} {x : Str} {C : Addr} (O : OwnX K x C) (X : K.In h) (G : h.Ns mainGlobals mg) : OwnCls x C [.type "ValueError", .type "Exception", .type "BaseException", .type "object"] "ValueError.__new__" mg h := by
  obtain ⟨e, q⟩ := O
  refine ⟨PySem.W.mg_of X G e, ?_⟩
  unfold PySem.W.excIn at q
  split at q
  · rename_i dd cd sl ho
    split at q
    · rename_i C' bm k0 k1 k2 k3 n k5 hm hs
      simp only [Bool.and_eq_true, beq_iff_eq, Bool.not_eq_true'] at q
      obtain ⟨⟨⟨⟨⟨rfl, rfl⟩, hdel⟩, ht⟩, hok⟩, hni⟩ := q
      obtain ⟨nm, bs, mro, ns, qn, hd, sn, sub, ab, col, del⟩ := cd
      dsimp only at hm hdel hok hni
      subst hm hdel
      obtain rfl : sl = #[k0, k1, k2, k3, some (.builtin "ValueError.__new__"), k5] := by
        obtain ⟨l⟩ := sl
        simp only at hs
        rw [hs]
      exact ⟨bm, ns, nm, qn, bs, hd, sn, sub, ab, col, dd, k0, k1, k2, k3, k5, _, X _ _ ho, .of_isNs (PySem.W.isNs_of_in X hok), PySem.W.nsMap_none_of_in X hok hni, PySem.W.tail_of_in X ht⟩
    · cases q
  · cases q
end
end L2
namespace L2
open PySem PySem.Spec PyProof.Rows
/-! ### dict comprehensions (after the layer's list comprehensions) -/
section
variable {X : Cx} {pins : List (Addr × Obj)} {σ : St} {H : Hp} {s : Shared}
/-- a pair put into a tracked dict -/
theorem dset_ok {E : Value → Shared → Prop} {D : Addr} {kvs : List (Key × V)} {k : Key} {y : V} {u v : Value} {Q : Unit → Shared → Prop} (I : Inv X pins σ H s) (hD : H D = some (.dK kvs)) (hz : kvs.length < sizeLine) (rk : RelV (kV k) u) (r : RelV y v)
    (h : ∀ s', Inv X pins σ (upd H D (.dK (putK kvs k y))) s' → Q () s') : wpAny (model X.prog X.w) X.A (dictSet D u v) Q E s := by
  obtain ⟨hz', hS, vs, rv, m⟩ := dk_of I.hok hD
  have hl := rv.length
  refine wpAny_dictSet_pairs (knd := mixKind X.prog X.w) (k := k) (kV_is rk) m (fun h' hm sb => ?_) (by omega)
  refine h { s with heap := h', toks := s.toks + 1 } (I.write (t' := s.toks + 1) (by rw [hD]; trivial) (.inl rfl) (fun b u hb q => (sb.2 b hb).trans q) ?_ (dk_new ?_ hS (rv.put k r) hm))
  · obtain ⟨o, es, ep, ho, _⟩ := hm
    exact ⟨o, ho⟩
  · have := (rv.put k r).length
    have z := stored_length_le vs k v
    omega
end
theorem compLoopD_any {prog : Program} {w : World} {A : Around} {R : Result → Shared → Prop} {s : Shared} {kx vx target iter : Expr} {ifs : List Expr} {scope : Scope} {pos : Pos} {it : Value} {Dd : Addr} {env : Env} (I : Nat → Shared → Prop)
    (turn : ∀ n s, I n s → wpAny (model prog w) A (pyNext it) (fun r s₁ => match r with
      | none => R (.ok .next) s₁
      | some v => wpAny (model prog w) A (letOwnedTupleGo target it v) (fun _ s₁' => wpAny (model prog w) A (assign target env v) (fun _ s₂ =>
          wpAny (model prog w) A (forIn ifs true fun c r => if r = true then do let ok ← isTrue c env (eval c env); pure (ForInStep.yield ok) else pure (ForInStep.yield r)) (fun ok s₃ =>
            if ok = true then wpAny (model prog w) A (eval kx env) (fun kv s₄ => wpAny (model prog w) A (eval vx env) (fun vv s₅ =>
              wpAny (model prog w) A (dictSet Dd kv vv) (fun _ s₆ => ∃ m, m < n ∧ I m s₆) (notedBy (model prog w) A env fun e s' => R (.error e) s') s₅) (notedBy (model prog w) A env fun e s' => R (.error e) s') s₄) (notedBy (model prog w) A env fun e s' => R (.error e) s') s₃
            else ∃ m, m < n ∧ I m s₃) (notedBy (model prog w) A env fun e s' => R (.error e) s') s₂) (notedBy (model prog w) A env fun e s' => R (.error e) s') s₁') (notedBy (model prog w) A env fun e s' => R (.error e) s') s₁) (notedBy (model prog w) A env fun e s' => R (.error e) s') s)
    (n : Nat) (h : I n s) :
    codeAny (model prog w) A (.compLoop (.DictComp kx vx [⟨target, iter, ifs, 0⟩] scope pos) 0 it (.ref Dd) env) R s := by
  refine codeAny_loop rfl I (fun n s hI => ?_) n h
  show wpAny _ A ((compTurn (.DictComp kx vx [⟨target, iter, ifs, 0⟩] scope pos) 0 it (.ref Dd) env).onRaise (fun x => do noteFrame x env; theTreesLotGoes x)) _ _ s
  refine wpAny_noted ?_
  rw [compTurn_dict]
  refine wpAny_bind (wpAny_standAt (wpAny_bind (wpAny_mono (turn n s hI) (fun r s₁ h₁ => ?_) fun _ _ h' => h')))
  cases r with
  | none => exact wpAny_pure h₁
  | some v =>
    refine wpAny_bind (wpAny_mono h₁ (fun _ s₁' h₁' => ?_) fun _ _ h' => h')
    refine wpAny_bind (wpAny_mono h₁' (fun _ s₂ h₂ => wpAny_bind (wpAny_mono h₂ (fun ok s₃ h₃ => ?_) fun _ _ h' => h')) fun _ _ h' => h')
    cases ok with
    | false => exact wpAny_pure ⟨rfl, h₃⟩
    | true =>
      exact wpAny_bind (wpAny_bind (wpAny_mono h₃ (fun kv s₄ h₄ => wpAny_bind (wpAny_holding (wpAny_mono h₄ (fun vv s₅ h₅ => wpAny_bind (wpAny_standAt (wpAny_holding (wpAny_mono h₅ (fun _ s₆ h₆ => wpAny_pure ⟨rfl, h₆⟩) fun _ _ h' => h')))) fun _ _ h' => h'))) fun _ _ h' => h'))


section
variable {X : Cx}
/-- {k: v for target in iter if ..} -/
def tDc (wi : TI) (g : TG) (tt : TT) (tk te : TE) (vs : List Nat) : TE := fun σ H Q => wi σ H fun J H1 => ∀ D, H1 D = none → ∃ W : Nat → Nat → Hp → Prop, (∃ m, W 0 m (upd H1 D (.dK []))) ∧ ∀ i m H, W i m H →
  (J.stop i H ∧ Q (.ref D) H) ∨ (J.go i H ∧ ∃ Nx : Hp → Prop, (∀ H', Nx H' → ∃ m', m' < m ∧ W (i + 1) m' H') ∧ ∀ x H', J.yld i H x H' → g x (wipe σ vs) H' fun σ2 H2 => wipe σ2 vs = wipe σ vs ∧ tt σ2 H2 fun b H3 =>
    if b = true then tk σ2 H3 fun kv H4 => te σ2 H4 fun y H5 => ∃ k acc, kv = kV k ∧ H5 D = some (.dK acc) ∧ acc.length < sizeLine ∧ Nx (upd H5 D (.dK (putK acc k y))) else Nx H3)
theorem dc_core {pins : List (Addr × Obj)} {s : Shared} {σ : St} {H : Hp} {Q : VK} {kx vx tg iter : Expr} {ifs : List Expr} {scope : Scope} {own : List (Str × Nat)} {pos pos' : Pos} {wi : TI} {g : TG} {tt : TT} {tk te : TE} {use : Option (Value → Sem Unit)} {Qf : Value → Shared → Prop}
    (hc : X.calm = true) (hN : X.N.Nodup) (I : Inv X pins σ H s) (hi : PI X tg iter wi) (ok : BlkOk X.N X.env.scope scope own)
    (hg : ∀ (s : Shared) (H : Hp) (C : Addr) (cl : List (Str × Addr)) (fp : List Addr), PG (X.blk s H scope (compEnvC scope cl C X.env) fp) tg g) (ht : ∀ (s : Shared) (H : Hp) (C : Addr) (cl : List (Str × Addr)) (fp : List Addr), PTs (X.blk s H scope (compEnvC scope cl C X.env) fp) ifs tt)
    (hk : ∀ (s : Shared) (H : Hp) (C : Addr) (cl : List (Str × Addr)) (fp : List Addr), PE (X.blk s H scope (compEnvC scope cl C X.env) fp) kx tk) (he : ∀ (s : Shared) (H : Hp) (C : Addr) (cl : List (Str × Addr)) (fp : List Addr), PE (X.blk s H scope (compEnvC scope cl C X.env) fp) vx te) (hs : ∀ x, foldedSetIterable iter X.env x = pure x)
    (h : tDc wi g tt tk te (own.map (·.2)) σ H Q)
    (hRR : ∀ D C s' m H', Inv X pins σ H' s' → Q (.ref D) H' → s'.heap.Ns C m → FpOk X pins H' C → compPost (model X.prog X.w) X.A X.xe use Qf (.ref D) C (.ok .next) s') :
    wpAny (model X.prog X.w) X.A (comprehension (.DictComp kx vx [⟨tg, iter, ifs, 0⟩] scope pos) scope X.env pos' newDict false (eval iter X.env) use) Qf X.xe s := by
  have hfree : ∀ y ∈ scope.names, y.2 = .free → ∃ c, X.env.cells.lookup y.1 = some c := fun y hy e => by
    rcases ok.free y hy e with k | k
    · exact I.ok.has _ (.inl k)
    · exact I.ok.has _ (.inr k)
  refine wpAny_comprehension_free (use := use) rfl hs (closure_ok hfree) ok.kind (fun y hy e => by rw [ok.uniq y hy, e])
    (thn (hi pins s σ H _ I h) fun xv s1 hx => thn hx fun itv s2 h2 => ?_)
  obtain ⟨it, fp, tn, J, H2, e, I2, T, st2, f2, q⟩ := h2
  subst e
  refine wpAny_newObj_type (newEnv_comp ?_)
  generalize hD : s2.heap.objs.size = D
  have hDn : H2 D = none := I2.hok.fresh (Nat.le_of_eq hD)
  obtain ⟨W, ⟨m0, w0⟩, turn⟩ := q D hDn
  -- the new dict
  generalize hs3 : ({ s2 with heap := s2.heap.push { cls := .type "dict", data := .dict #[] } } : Shared) = s3
  have I3 : Inv X pins σ (upd H2 D (.dK [])) s3 := by
    rw [← hs3]
    refine I2.laid (t' := s2.toks) (fun b o e => Heap.get?_push_of_some _ e) (Nat.le_of_eq hD) ?_
    rw [← hD]
    exact dk_empty _ I2.big
  have h3 : s3.heap = s2.heap.push { cls := .type "dict", data := .dict #[] } := by rw [← hs3]
  have sz : ∀ b ∈ fp, b < s2.heap.objs.size := fun b hb => by
    obtain ⟨o, e, _⟩ := T.obj _ _ st2 b hb
    exact Heap.lt_size e
  have f3 : ∀ b ∈ fp, FpOk X pins (upd H2 D (.dK [])) b ∧ b < s3.heap.objs.size := fun b hb => by
    have hlt := sz b hb
    refine ⟨⟨?_, (f2 b hb).2⟩, by rw [h3, Heap.size_push]; exact Nat.lt_succ_of_lt hlt⟩
    rw [upd_ne (by rw [← hD]; exact Nat.ne_of_lt hlt)]
    exact (f2 b hb).1
  have st3 : tn 0 s3.heap := T.keep _ _ _ st2 fun b _ o e => by rw [h3]; exact Heap.get?_push_of_some _ e
  have I4 := block_start I3 ok hN f3
  have pg := hg s3 (upd H2 D (.dK [])) s3.heap.objs.size (cellsFrom (s3.heap.objs.size + 1) scope.names (cloFrom X.env.cells scope.names [])) fp
  have pt := ht s3 (upd H2 D (.dK [])) s3.heap.objs.size (cellsFrom (s3.heap.objs.size + 1) scope.names (cloFrom X.env.cells scope.names [])) fp
  have pk := hk s3 (upd H2 D (.dK [])) s3.heap.objs.size (cellsFrom (s3.heap.objs.size + 1) scope.names (cloFrom X.env.cells scope.names [])) fp
  have pe := he s3 (upd H2 D (.dK [])) s3.heap.objs.size (cellsFrom (s3.heap.objs.size + 1) scope.names (cloFrom X.env.cells scope.names [])) fp
  show codeAny _ _ (.compStart (.DictComp kx vx [⟨tg, iter, ifs, 0⟩] scope pos) 0 (.ref it) (.ref D) (compEnvC scope (cellsFrom (s3.heap.objs.size + 1) scope.names (cloFrom X.env.cells scope.names [])) s3.heap.objs.size X.env)) (compPost (model X.prog X.w) X.A X.xe use Qf (.ref D) s3.heap.objs.size) { s3 with heap := pushCells (s3.heap.push { cls := .type "dict", data := .dict #[] }) scope.names }
  have nfp : ∀ b ∈ fp, (upd H2 D (.dK [])) b = none := fun b hb => (f3 b hb).1.1
  generalize hce : compEnvC scope (cellsFrom (s3.heap.objs.size + 1) scope.names (cloFrom X.env.cells scope.names [])) s3.heap.objs.size X.env = ce at I4 pg pt pk pe ⊢
  have cL : ce.locals = s3.heap.objs.size := by subst hce; rfl
  generalize hH3 : upd H2 D (.dK []) = H3 at I3 I4 pg pt pk pe w0 nfp f3
  generalize hs4 : ({ s3 with heap := pushCells (s3.heap.push { cls := .type "dict", data := .dict #[] }) scope.names } : Shared) = s4 at I4 ⊢
  have st4 : tn 0 s4.heap := T.keep _ _ _ st3 fun b _ o e => by rw [← hs4]; exact pushCells_keeps _ _ _ _ (Heap.get?_push_of_some _ e)
  have stat : ∀ {σ' : St} {H' : Hp} {s' : Shared}, Inv (X.blk s3 H3 scope ce fp) [] σ' H' s' → (∀ b ∈ fp, H' b = none) → ∀ b ∈ fp, FpOk (X.blk s3 H3 scope ce fp) [] H' b := fun {σ' H' s'} I' hn b hb =>
    ⟨hn b hb, (I'.ok.exf b hb).1, I'.ok.exfs b hb, .inl hb, fun x c e => (I'.ok.exf b hb).2 x c e, fun p hp => absurd (show p ∈ ([] : List (Addr × Obj)) ++ [] from hp) (by simp)⟩
  have loop : codeAny (model X.prog X.w) X.A (.compLoop (.DictComp kx vx [⟨tg, iter, ifs, 0⟩] scope pos) 0 (.ref it) (.ref D) ce) (compPost (model X.prog X.w) X.A X.xe use Qf (.ref D) s3.heap.objs.size) s4 := by
    refine compLoopD_any (fun n s' => ∃ i H', Inv (X.blk s3 H3 scope ce fp) [] (wipe σ (own.map (·.2))) H' s' ∧ tn i s'.heap ∧ (∀ b ∈ fp, H' b = none) ∧ W i n H') ?_ m0 ⟨0, H3, I4, st4, nfp, w0⟩
    rintro n s5 ⟨i, H5, I5, st5, n5, w5⟩
    rcases turn i n H5 w5 with ⟨stop, qq⟩ | ⟨go, Nx, hNx, step⟩
    · have td := T.done (X.blk s3 H3 scope ce fp) rfl rfl rfl hc i [] s5 _ H5 (fun _ _ => False) I5 (stat I5 n5) st5 stop
      refine thnF td fun r s6 ⟨hr, I6⟩ => ?_
      subst hr
      -- back in the def's context
      have I7 : Inv X pins σ H5 s6 := I3.call' (ch := fp) I6.os I6.base I6.hok I6.bare fun b hb => ⟨(f3 b hb).1.2.2.2.1, (f3 b hb).1.2.1, (f3 b hb).1.2.2.2.2.1, (f3 b hb).1.2.2.2.2.2⟩
      have nC : H5 s3.heap.objs.size = none := by
        have z : H5 ce.locals = none := I6.free
        rw [cL] at z
        exact z
      obtain ⟨m, hn, _⟩ := I6.loc
      have hn : s6.heap.Ns ce.locals m := hn
      rw [cL] at hn
      exact hRR D s3.heap.objs.size s6 m H5 I7 qq hn (I3.fpOk (Nat.le_refl _) nC)
    · have ti := T.item (X.blk s3 H3 scope ce fp) rfl rfl rfl hc i [] s5 _ H5 (fun _ _ => False) I5 (stat I5 n5) st5 go
      refine thnF ti fun r s6 ⟨u, hr, h6⟩ => ?_
      subst hr
      refine thnF h6 fun _ s7 ⟨x, H7, I7, r7, y7, st7, n7⟩ => ?_
      have I7' := I7.pinned (stat I7 n7) (T.obj _ _ st7)
      refine thnF (pg _ s7 _ H7 x u _ I7' r7 (step x H7 y7)) fun _ s8 ⟨σ8, H8, I8, hw8, q8⟩ => ?_
      refine thnF (pt _ s8 σ8 H8 _ I8 q8) fun b s9 ⟨H9, I9, q9⟩ => ?_
      -- the turn's end
      have fin : ∀ {s' : Shared} {H' : Hp}, Inv (X.blk s3 H3 scope ce fp) ([] ++ pinsAt fp s7.heap) σ8 H' s' → Nx H' → ∃ m, m < n ∧ ∃ i H', Inv (X.blk s3 H3 scope ce fp) [] (wipe σ (own.map (·.2))) H' s' ∧ tn i s'.heap ∧ (∀ b ∈ fp, H' b = none) ∧ W i m H' := fun {s' H'} I' nx => by
        obtain ⟨m', hm, w'⟩ := hNx H' nx
        have pin' : ∀ b ∈ fp, ∀ o, s7.heap.get? b = some o → s'.heap.get? b = some o ∧ H' b = none := fun b hb o e =>
          let z := I'.pin (b, o) (List.mem_append_right _ (List.mem_append_right _ (mem_pinsAt hb e)))
          ⟨z.1, z.2.1⟩
        have hl : (wipe σ (own.map (·.2))).length = σ8.length := by rw [← hw8, wipe_length]
        refine ⟨m', hm, i + 1, H', (I'.unpinned (pins := [])).weak hl (fun j v e => ?_), T.keep _ _ _ st7 fun b hb o e => (pin' b hb o e).1, fun b hb => ?_, w'⟩
        · rw [← hw8] at e
          exact (wipe_some e).1
        · obtain ⟨o, e, _⟩ := T.obj _ _ st7 b hb
          exact (pin' b hb o e).2
      cases b with
      | false =>
        simp only [Bool.false_eq_true, if_false] at q9 ⊢
        exact fin I9 q9
      | true =>
        simp only [if_true] at q9 ⊢
        refine thnF (pk _ s9 σ8 H9 _ I9 q9) fun zk s10 ⟨kv, H10, I10, rk, q10⟩ => ?_
        refine thnF (pe _ s10 σ8 H10 _ I10 q10) fun z s11 ⟨yv, H11, I11, r11, k, acc, ek, hD11, hz11, nx⟩ => ?_
        subst ek
        exact dset_ok (X := X.blk s3 H3 scope ce fp) I11 hD11 hz11 rk r11 fun s12 I12 => fin I12 nx
  exact codeAny_compStart_dict loop (T.self X.A 0 _ _ _ st4 loop)

theorem pe_dc {kx vx tg iter : Expr} {ifs : List Expr} {scope : Scope} {own : List (Str × Nat)} {pos : Pos} {wi : TI} {g : TG} {tt : TT} {tk te : TE} (hc : X.calm = true) (hN : X.N.Nodup) (hi : PI X tg iter wi) (ok : BlkOk X.N X.env.scope scope own)
    (hg : ∀ (s : Shared) (H : Hp) (C : Addr) (cl : List (Str × Addr)) (fp : List Addr), PG (X.blk s H scope (compEnvC scope cl C X.env) fp) tg g) (ht : ∀ (s : Shared) (H : Hp) (C : Addr) (cl : List (Str × Addr)) (fp : List Addr), PTs (X.blk s H scope (compEnvC scope cl C X.env) fp) ifs tt)
    (hk : ∀ (s : Shared) (H : Hp) (C : Addr) (cl : List (Str × Addr)) (fp : List Addr), PE (X.blk s H scope (compEnvC scope cl C X.env) fp) kx tk) (he : ∀ (s : Shared) (H : Hp) (C : Addr) (cl : List (Str × Addr)) (fp : List Addr), PE (X.blk s H scope (compEnvC scope cl C X.env) fp) vx te)
    (hs : ∀ x, foldedSetIterable iter X.env x = pure x := by intro _; rfl) :
    PE X (.DictComp kx vx [⟨tg, iter, ifs, 0⟩] scope pos) (tDc wi g tt tk te (own.map (·.2))) := by
  intro pins s σ H Q I h
  rw [arm_eval_DictComp]
  refine dc_core hc hN I hi ok hg ht hk he hs h fun D C s' m H' I' q hn f => ⟨m, hn, fun h'' sb => ?_⟩
  obtain ⟨f0, f1, f2, f3, f4, f5⟩ := f
  exact ⟨.ref D, H', I'.turned (t' := s'.toks) (fun b o hb e => (sb.2 b hb).trans e) f0 f1 f3 f4 f5, rfl, q⟩
end
end L2
namespace L2
open PySem PySem.Spec PyProof.Rows
/-! ### lambdas: a function object made at run time; the maker's code table grows once -/
def CodeHO (c : Addr) (qual : Str) : HO := .ext fun h => h.CodeRec (.ref c) qual
def LamHO (f : Addr) (qual : Str) (params : Arguments) (body : Expr) (scope : Scope) (pm : Value) (c : Addr) (ctv : Value) : HO :=
  .ext fun h => h.get? f = some (PySem.W.kla_obj "<lambda>" qual params body scope [] pm c ctv)
/-- the table at P, as the lambda at pos leaves it -/
def TabOk (P : Addr) (pos : Pos) (qual : Str) (H : Hp) : Prop := ∃ ps, H P = some (.tbl ps) ∧ TriplesOk ps.toList ∧
  (codeAmong pos ps.toList = none ∨ ∃ c, codeAmong pos ps.toList = some (.ref c) ∧ H c = some (CodeHO c qual))
/-- where builtins lie, as the law's head gives it -/
def Bm (mg : Str → Option Value) (h : Heap) : Prop := ∃ bm ob, mg "__builtins__" = some (.ref bm) ∧ bm ≠ builtinsNs ∧ h.get? bm = some ob ∧ ob.cls = .type "module" ∧ ob.dict = some builtinsNs ∧ ob.data = .plain
section
variable {X : Cx} {pins : List (Addr × Obj)} {σ : St} {H : Hp} {s : Shared}
theorem codeHO_ok {P : Program} {w : World} {H : Hp} {h : Heap} {c : Addr} {qual : Str} (x : h.CodeRec (.ref c) qual) : ObjOk P w H h c (CodeHO c qual) := by
  obtain ⟨c', o, vs, t, e, g, d, v⟩ := x
  cases e
  refine ⟨⟨c, o, vs, t, rfl, g, d, v⟩, ⟨o, g⟩, fun h1 h2 x k => ?_⟩
  obtain ⟨c', o, vs, t, e, g, d, v⟩ := x
  cases e
  exact ⟨c, o, vs, t, rfl, k _ g, d, v⟩
/-- the table grows, a code object is laid -/
theorem Inv.tblApp {P c : Addr} {ps more : Array Value} {qual : Str} {h' : Heap} {t' : Nat} (I : Inv X pins σ H s) (hP : H P = some (.tbl ps)) (hx : Heap.ExtBut P s.heap h') (hc : s.heap.objs.size ≤ c) (hr : h'.CodeRec (.ref c) qual)
    (ht : h'.get? P = some (PySem.W.tabObj (ps ++ more))) : Inv X pins σ (upd (upd H P (.tbl (ps ++ more))) c (CodeHO c qual)) { s with heap := h', toks := t' } := by
  have hPlt : P < s.heap.objs.size := I.hok.lt hP
  have hcn : H c = none := I.hok.fresh hc
  have ne1 : ∀ {b : Addr}, H b = none → b ≠ P := fun n q => by rw [q, hP] at n; cases n
  have ltc : ∀ {b : Addr} {o : Obj}, s.heap.get? b = some o → b ≠ c := fun e => Nat.ne_of_lt (Nat.lt_of_lt_of_le (Heap.lt_size e) hc)
  have hs : ∀ {b : Addr} {u : HO}, H b = some u → b ≠ P → (upd (upd H P (.tbl (ps ++ more))) c (CodeHO c qual)) b = some u := fun {b u} e n => by
    rw [upd_ne (fun q => by rw [q, hcn] at e; cases e), upd_ne n]; exact e
  have hPne : P ≠ c := Nat.ne_of_lt (Nat.lt_of_lt_of_le hPlt hc)
  refine I.step (g' := s.gens) (d' := s.drawn) (ch := []) (fun _ z => nomatch z) (fun b o _ _ _ e n => hx b o (ne1 n) e) (fun b o _ _ _ e n => ⟨o.slots, hx b o (ne1 n) e⟩) (fun b o _ e n => ?_) (fun b o _ e => ?_) (fun b xs e => ?_) (fun b o u e => ?_)
    (fun b qs e => ?_) (fun m ⟨o, es, ep, e, r⟩ => ⟨o, es, ep, hx _ o (ne1 I.free) e, r⟩) (fun b u e => ?_) I.bare
  · rw [upd_ne (ltc e), upd_ne (ne1 n)]; exact n
  · by_cases q : b = P
    · exact ⟨_, by rw [q]; exact ht⟩
    · exact ⟨o, hx b o q e⟩
  · exact hs e (fun q => by rw [q, hP] at e; cases e)
  · exact hs e (fun q => by rw [q, hP] at e; cases e)
  · by_cases q : b = P
    · subst q
      rw [hP] at e; cases e
      exact ⟨more, by rw [upd_ne hPne, upd_same]⟩
    · exact ⟨#[], by rw [hs e q]; simp⟩
  · by_cases q : b = c
    · subst q
      rw [upd_same] at e; cases e
      exact codeHO_ok hr
    · rw [upd_ne q] at e
      by_cases q2 : b = P
      · subst q2
        rw [upd_same] at e; cases e
        exact ht
      · rw [upd_ne q2] at e
        refine (I.hok b u e).stay (fun b' u' hb' e' => ?_) (fun b' e' => hs e' fun z => by rw [z, hP] at e'; cases e') (fun b' xs e' => hs e' fun z => by rw [z, hP] at e'; cases e')
        rcases hb' with rfl | hb'
        · exact hx _ _ q2 e'
        · exact hx _ _ (fun z => by rw [z, hP] at hb'; cases hb') e'
/-- lambda ..: .. without free names -/
def tLam (P : Addr) (pos : Pos) (qual : Str) (params : Arguments) (body : Expr) (scope : Scope) : TE := fun _ H Q => TabOk P pos qual H ∧ ∀ f c pm ctv H', H f = none → (∀ a o, H a = some o → a ≠ P → H' a = some o) → TabOk P pos qual H' →
  H' f = some (LamHO f qual params body scope pm c ctv) → H' c = some (CodeHO c qual) → Q (.ref f) H'
theorem pe_lam {P c : Addr} {params : Arguments} {body : Expr} {scope : Scope} {pos : Pos} {qual : Str} (hdef : defaultsOf params X.env = ([], [])) (hcl : closureFor scope X.env = pure []) (hcode : X.env.code = .ref c) (C : PySem.W.CodeHd X.base c P) (hb : Bm X.mg X.base) (hq : X.env.qual ++ "<lambda>" = qual) :
    PE X (.Lambda params body scope pos) (tLam P pos qual params body scope) := by
  intro pins s σ H Q I h
  obtain ⟨⟨ps, hP, ht, hor⟩, h⟩ := h
  subst hq
  refine PySem.W.kla_eval hdef ?_
  have hg := I.mod.glob.keeps I.bk
  have C' := C.keeps I.bk
  have hPo : s.heap.get? P = some (PySem.W.tabObj ps) := I.hok P _ hP
  obtain ⟨bm, ob, b1, b2, b3, b4, b5, b6⟩ := hb
  have b3' := I.bk _ _ b3
  have hgP : mainGlobals ≠ P := fun q => by
    obtain ⟨o, es, ep, e, hd, _⟩ := hg
    rw [q, hPo] at e; cases e; cases hd
  have hbP : bm ≠ P := fun q => by rw [q, hPo] at b3'; cases b3'; cases b4
  have hbG : bm ≠ mainGlobals := fun q => by
    obtain ⟨o, es, ep, e, hd, _⟩ := hg
    rw [q, e] at b3'; cases b3'; rw [hd] at b6; cases b6
  rcases hor with hnf | ⟨c', hf, hc'⟩
  · refine PySem.W.kla_makeFunction (mg := X.mg) hcl I.ok.glob hg hcode C' hPo ht hnf hgP ⟨bm, ob, b1, b2, hbG, hbP, b3', b4, b5, b6⟩ fun c' ctv h' tk hx hge hlt hrec htb => ?_
    have I2 := I.tblApp (t' := tk) hP hx hge hrec htb
    have hPne : P ≠ c' := Nat.ne_of_lt (Nat.lt_of_lt_of_le (I.hok.lt hP) hge)
    have hfn := I2.hok.fresh (a := h'.objs.size) (Nat.le_refl _)
    have I3 : Inv X pins σ (upd (upd (upd H P (.tbl (ps ++ #[rawInt pos.line, rawInt pos.col, .ref c']))) c' (CodeHO c' (X.env.qual ++ "<lambda>"))) h'.objs.size (LamHO h'.objs.size (X.env.qual ++ "<lambda>") params body scope ((X.mg "__name__").getD .none) c' ctv)) { s with heap := h'.push (PySem.W.kla_obj "<lambda>" (X.env.qual ++ "<lambda>") params body scope [] ((X.mg "__name__").getD .none) c' ctv), toks := tk } :=
      I2.laid (t' := tk) (fun b u e => Heap.get?_push_of_some _ e) (Nat.le_refl _) ⟨Heap.get?_push_size _ rfl, ⟨_, Heap.get?_push_size _ rfl⟩, fun h1 h2 x k => k _ x⟩
    have hfP : P ≠ h'.objs.size := fun q => by rw [← q, upd_ne hPne, upd_same] at hfn; cases hfn
    have hcf : c' ≠ h'.objs.size := Nat.ne_of_lt hlt
    have hcH : (upd (upd (upd H P (.tbl (ps ++ #[rawInt pos.line, rawInt pos.col, .ref c']))) c' (CodeHO c' (X.env.qual ++ "<lambda>"))) h'.objs.size (LamHO h'.objs.size (X.env.qual ++ "<lambda>") params body scope ((X.mg "__name__").getD .none) c' ctv)) c' = some (CodeHO c' (X.env.qual ++ "<lambda>")) := by
      rw [upd_ne hcf, upd_same]
    refine ⟨.ref h'.objs.size, _, I3, rfl, h h'.objs.size c' _ ctv _ ?_ (fun a o e hne => ?_) ⟨ps ++ #[rawInt pos.line, rawInt pos.col, .ref c'], ?_, ?_, .inr ⟨c', ?_, hcH⟩⟩ upd_same hcH⟩
    · have z := hfn
      rw [upd_ne (Ne.symm hcf), upd_ne (Ne.symm hfP)] at z
      exact z
    · rw [upd_ne (fun q => by
        have z := hfn
        rw [upd_ne (Ne.symm hcf), upd_ne (Ne.symm hfP), ← q, e] at z; cases z), upd_ne (fun q => by
        have z := I.hok.fresh hge
        rw [← q, e] at z; cases z), upd_ne hne]
      exact e
    · rw [upd_ne hfP, upd_ne hPne, upd_same]
    · rw [Array.toList_append]; exact TriplesOk_snoc _ _ _ _ ht
    · rw [Array.toList_append]; exact codeAmong_snoc _ ht hnf
  · refine PySem.W.kla_makeFunctionHit (mg := X.mg) hcl I.ok.glob hg hcode C' hPo ht hf ⟨bm, ob, b1, b2, hbG, hbP, b3', b4, b5, b6⟩ fun ctv h' tk hk hsz => ?_
    have I3 : Inv X pins σ (upd H h'.objs.size (LamHO h'.objs.size (X.env.qual ++ "<lambda>") params body scope ((X.mg "__name__").getD .none) c' ctv)) { s with heap := h'.push (PySem.W.kla_obj "<lambda>" (X.env.qual ++ "<lambda>") params body scope [] ((X.mg "__name__").getD .none) c' ctv), toks := tk } :=
      I.laid (t' := tk) (fun b u e => Heap.get?_push_of_some _ (hk b u e)) hsz ⟨Heap.get?_push_size _ rfl, ⟨_, Heap.get?_push_size _ rfl⟩, fun h1 h2 x k => k _ x⟩
    have hfn : H h'.objs.size = none := I.hok.fresh hsz
    have st : ∀ {a o}, H a = some o → (upd H h'.objs.size (LamHO h'.objs.size (X.env.qual ++ "<lambda>") params body scope ((X.mg "__name__").getD .none) c' ctv)) a = some o := fun {a o} e => by
      rw [upd_ne (fun q => by rw [q, hfn] at e; cases e)]; exact e
    exact ⟨.ref h'.objs.size, _, I3, rfl, h h'.objs.size c' _ ctv _ hfn (fun a o e _ => st e) ⟨ps, st hP, ht, .inr ⟨c', hf, st hc'⟩⟩ upd_same (st hc')⟩
end
end L2
namespace L2
open PySem PySem.Spec PyProof.Rows
theorem mem_all {h : Heap} {L a : Addr} {o : Obj} (e : h.get? a = some o) (n : a ≠ L) : (a, o) ∈ Att.ledger h L L := Att.mem_ledger.mpr ⟨n, n, e⟩
/-- what a lambda of one argument tells of u, over any heap that keeps h -/
def LamRun (P : Program) (w : World) (mg : Str → Option Value) (qual : Str) (scope : Scope) (body : Expr) (x : Str) (u : Value) (h : Heap) (L₀ : Addr) (k : Int) : Prop :=
  ∀ (A : Around) (f c L : Addr) (s : Shared), A.handled = none → (∀ b o, b ≠ L₀ → h.get? b = some o → s.heap.get? b = some o) → s.heap.Ns L (fun y => [(x, u)].reverse.lookup y) →
    wpAny (model P w) A (eval body (PySem.W.envX qual scope L f (.ref c) [])) (fun v s' => (∃ t, v = .int k t) ∧ ∃ tk, s' = { s with toks := tk }) (fun _ _ => False) s
theorem objThere {P : Program} {w : World} {H : Hp} {h : Heap} {a : Addr} {o : HO} (x : ObjOk P w H h a o) : ∃ u, h.get? a = some u := by
  cases o with
  | lst xs => obtain ⟨_, _, _, _, e⟩ := x; exact ⟨_, e⟩
  | tup xs => obtain ⟨_, _, _, ob, e, _⟩ := x; exact ⟨_, e⟩
  | dK kvs => obtain ⟨_, _, _, _, o, _, _, e, _⟩ := x; exact ⟨_, e⟩
  | dT kvs => obtain ⟨_, _, _, _, o, _, _, e, _⟩ := x; exact ⟨_, e⟩
  | set S n => obtain ⟨o, _, _, _, e, _⟩ := x; exact ⟨_, e⟩
  | ins C dx fs => obtain ⟨_, _, _, e, _⟩ := x; exact ⟨_, e⟩
  | own y => exact x
  | xd fs => obtain ⟨_, ⟨_, _, _, e, _⟩, _⟩ := x; exact ⟨_, e⟩
  | rng lo hi => obtain ⟨_, _, _, e⟩ := x; exact ⟨_, e⟩
  | frz ob u => exact ⟨_, x.1⟩
  | tbl ps => exact ⟨_, x⟩
  | met f y => exact ⟨_, x⟩
  | ext φ => exact x.2.1
theorem perm_paired {α β : Type} {R : α → β → Prop} {l' l'' : List β} (p : l''.Perm l') : ∀ {l : List α}, Paired R l l' → ∃ m, m.Perm l ∧ Paired R m l'' := by
  induction p with
  | nil => intro l h; cases h; exact ⟨[], .refl _, .nil⟩
  | cons x _ ih =>
    intro l h
    cases h with
    | cons r t =>
      obtain ⟨m, hm, r'⟩ := ih t
      exact ⟨_ :: m, hm.cons _, .cons r r'⟩
  | swap x y l =>
    intro l h
    cases h with
    | cons r t =>
      cases t with
      | cons r2 t2 => exact ⟨_, .swap _ _ _, .cons r2 (.cons r t2)⟩
  | trans _ _ ih1 ih2 =>
    intro l h
    obtain ⟨m, hm, r⟩ := ih2 h
    obtain ⟨m2, hm2, r2⟩ := ih1 r
    exact ⟨m2, hm2.trans hm, r2⟩
theorem zip_paired {kz : List Int} : ∀ {xs : List V} {vs : List Value}, Vals xs vs → Paired (fun (p : Int × V) (q : Int × Value) => p.1 = q.1 ∧ RelV p.2 q.2) (kz.zip xs) (kz.zip vs) := by
  induction kz with
  | nil => intro xs vs _; exact .nil
  | cons k kz ih =>
    intro xs vs h
    cases h with
    | nil => exact .nil
    | cons r t => exact .cons ⟨rfl, r⟩ (ih t)
theorem paired_fst : ∀ {l : List (Int × V)} {l' : List (Int × Value)}, Paired (fun (p : Int × V) (q : Int × Value) => p.1 = q.1 ∧ RelV p.2 q.2) l l' → l.map (·.1) = l'.map (·.1) ∧ Vals (l.map (·.2)) (l'.map (·.2))
  | _, _, .nil => ⟨rfl, .nil⟩
  | _, _, .cons r t => ⟨by simp [r.1, (paired_fst t).1], .cons r.2 (paired_fst t).2⟩
/-- xs sorted by the keys kz -/
def SortedBy (kz : List Int) (xs ys : List V) : Prop := ∃ ps : List (Int × V), ps.Perm (kz.zip xs) ∧ ys = ps.map (·.2) ∧ (ps.map (·.1)).Pairwise (· ≤ ·)
theorem sortedBy_of {kz : List Int} {xs : List V} {vs out : List Value} (r : Vals xs vs) (h : PyProof.Rows.KskOut false kz vs out) : ∃ ys, SortedBy kz xs ys ∧ Vals ys out := by
  obtain ⟨ps, hp, rfl, hs⟩ := h
  obtain ⟨qs, hq, hr⟩ := perm_paired hp (zip_paired (kz := kz) r)
  obtain ⟨e1, e2⟩ := paired_fst hr
  refine ⟨qs.map (·.2), ⟨qs, hq, rfl, ?_⟩, e2⟩
  rw [e1, List.pairwise_map]
  exact hs.imp fun h => by simpa using h
section
variable {X : Cx}
/-- the call of sorted by a lambda's keys -/
theorem sortK_call {k : Nat} {qual x : Str} {params : Arguments} {body : Expr} {scope : Scope} {pins : List (Addr × Obj)} {σ : St} {H : Hp} {s : Shared} {Q : VK} {a f c : Addr} {xs : List V} {kz : List Int} {pm ctv : Value} {KI : V → Hp → Int → Prop} (I : Inv X pins σ H s) (hr : Room k X.A) (hc : X.calm = true)
    (hKI : ∀ pins σ H s v u k, Inv X pins σ H s → RelV v u → KI v H k → LamRun X.prog X.w X.mg qual scope body x u s.heap X.env.locals k)
    (hbind : ∀ pm c ctv u, bindArgs (PySem.W.kla_fn "<lambda>" qual params body scope [] pm (.ref c) ctv) ⟨[u], []⟩ = pure [(x, u)])
    (hx : scope.names.lookup x = some .local) (hcell : ∀ y ∈ scope.names, y.2 ≠ .cell) (hco : scope.isCoroutine = false) (hgen : scope.isGenerator = false) (hk : scope.kind = .function)
    (ha : SqL X.K H a xs) (hf : H f = some (LamHO f qual params body scope pm c ctv)) (hcd : H c = some (CodeHO c qual)) (hlen : kz.length = xs.length) (h64 : xs.length < 64) (hkz : ∀ (i : Nat) (v : V) (k : Int), xs[i]? = some v → kz[i]? = some k → KI v H k)
    (h : ∀ D ys, H D = none → SortedBy kz xs ys → Q (.ref D) (upd H D (.lst ys))) :
    wpAny (model X.prog X.w) X.A (call (.builtin "sorted") [.ref a] [(Str.ofString "key", .ref f)]) (EP X pins σ Q) X.xe s := by
  obtain ⟨its, rv, pl, hz⟩ := I.list ha
  have hl2 := rv.length
  obtain ⟨m, hn, hloc⟩ := I.loc
  obtain ⟨hfo, _, _⟩ := I.hok f _ hf
  obtain ⟨hco', _, _⟩ := I.hok c _ hcd
  have nl : ∀ {b : Addr} {u : HO}, H b = some u → b ≠ X.env.locals := fun e q => by rw [q, I.free] at e; cases e
  have nw : News (Att.noObjs s.heap) X.env.locals s.heap (Att.ledger s.heap X.env.locals X.env.locals) := fun ⟨b, o⟩ hp => by
    obtain ⟨n1, _, e⟩ := Att.mem_ledger.mp hp
    exact ⟨e, n1, Att.noObjs_get _ _⟩
  refine PyProof.Rows.ksk_sorted (b := false) (f := .ref f) (vs := its) (kz := kz) (Att.fr_all hn) nw (by simpa using pl.isList) (by omega) (by omega) (PyProof.Rows.ksk_s1 _ _) (fun x => PyProof.Rows.ksk_l1 _ _) (fun x => PyProof.Rows.ksk_t1 _ _) (fun i v kk hv hk' h1 tk own F1 N1 => ?_) fun D h' tk out cc F' N' hlt ho => ?_
  · -- one key
    have kp : ∀ b o, s.heap.get? b = some o → b ≠ X.env.locals → h1.get? b = some o := fun b o e n => (N1 (b, o) (List.mem_append_left _ (mem_all e n))).1
    have hlx : i < xs.length := by
      have := (List.getElem?_eq_some_iff.mp hv).1
      omega
    obtain ⟨vv, ev, rvv⟩ : ∃ vv, xs[i]? = some vv ∧ RelV vv v := by
      obtain ⟨u, hu, r⟩ := rv.get (i := i) (x := xs[i]) (List.getElem?_eq_getElem hlx)
      rw [hv] at hu; cases hu
      exact ⟨_, List.getElem?_eq_getElem hlx, r⟩
    have run := hKI pins σ H s vv v kk I rvv (hkz i vv kk ev hk')
    refine wpAny_call (PySem.W.kla_callFunE (by have := hr.dp; show X.A.depth < _; omega) (kp f _ hfo (nl hf)) rfl hco hgen rfl ?_ ?_)
    · obtain ⟨c', o, vs, t, e, g, d, v'⟩ := hco'
      cases e
      exact ⟨c, o, vs, t, rfl, kp _ _ g (nl hcd), d, v'⟩
    rw [hbind]
    refine wpAny_pure (wpAny_newFunctionEnv hcell (fun y hy => by simp at hy; subst hy; exact hx) (fun h2 hns hsb => ⟨?_, ?_⟩) hk)
    · exact (I.ok.mod.nolimit.keeps fun b o e => kp b o (I.bk b o e) fun q => by
        have z := I.ok.bs b o e
        exact absurd (Heap.lt_size z.1) (Nat.not_lt.mpr (q ▸ I.ok.above))).fresh _ hsb
    have k2 : ∀ b o, h1.get? b = some o → h2.get? b = some o := fun b o e => hsb.extBut b o (Nat.ne_of_lt (Heap.lt_size e)) (Heap.get?_push_of_some _ e)
    refine PySem.W.kla_codeExpr (wpAny_mono (run _ f c h1.objs.size _ (show X.A.handled = none from I.ok.hd hc) (fun b o n e => k2 b o (kp b o e n)) hns) (fun vr s' ⟨⟨t, e1⟩, tk', e2⟩ => ?_) fun _ _ z => z.elim)
    subst e1 e2
    exact ⟨h2, tk', t, rfl, rfl, ⟨F1.ns.keeps k2, fun b o e => (by rw [Att.noObjs_get] at e; cases e), Nat.zero_le _⟩, fun q hq => ⟨k2 _ _ (N1 q hq).1, (N1 q hq).2⟩⟩
  · have kp : ∀ b o, s.heap.get? b = some o → b ≠ X.env.locals → h'.get? b = some o := fun b o e n => (N' (b, o) (List.mem_cons_of_mem _ (mem_all e n))).1
    have hDo := N' (D, seqObj "list" out cc) (List.mem_cons_self)
    have lt : ∀ {b o}, s.heap.get? b = some o → b ≠ X.env.locals → b < D := fun {b o} e n => hlt (b, o) (mem_all e n)
    have hDn : H D = none := by
      cases q : H D with
      | none => rfl
      | some u =>
        have hl := I.hok.lt q
        exact absurd (nl q) (fun n => by
          have hob : ∃ o, s.heap.get? D = some o := objThere (I.hok D _ q)
          obtain ⟨o, e⟩ := hob
          exact Nat.lt_irrefl _ (lt e n))
    obtain ⟨ys, hys, rys⟩ := sortedBy_of rv ho
    have hzl : ys.length ≤ sizeLine := by
      obtain ⟨ps, hp, e, _⟩ := hys
      rw [e, List.length_map, hp.length_eq, List.length_zip]
      have := line63
      have : (64 : Nat) ≤ sizeLine := by decide
      omega
    refine ⟨.ref D, upd H D (.lst ys), ?_, rfl, h D ys hDn hys⟩
    have nD : ∀ {b u}, H b = some u → b ≠ D := fun e q => by rw [q, hDn] at e; cases e
    refine I.step (g' := s.gens) (d' := s.drawn) (ch := []) (fun _ z => nomatch z) (fun b o n _ _ e _ => kp b o e n) (fun b o n _ _ e _ => ⟨o.slots, kp b o e n⟩) (fun b o _ e n => ?_) (fun b o _ e => ?_)
      (fun b xs e => by rw [upd_ne (nD e)]; exact e) (fun b o u e => by rw [upd_ne (nD e)]; exact e) (fun b ps e => ⟨#[], by rw [upd_ne (nD e), e]; simp⟩) (fun m' hm' => ?_) (fun b u e => ?_) I.bare
    · by_cases q : b = X.env.locals
      · rw [upd_ne (fun z => hDo.2.1 (z.symm.trans q))]; exact n
      · rw [upd_ne (Nat.ne_of_lt (lt e q))]; exact n
    · by_cases q : b = X.env.locals
      · obtain ⟨o', _, _, e', _⟩ := F'.ns
        exact ⟨o', by rw [q]; exact e'⟩
      · exact ⟨o, kp b o e q⟩
    · rw [hm'.eq_nsMap, ← hn.eq_nsMap]
      exact F'.ns
    · by_cases q : b = D
      · subst q
        rw [upd_same] at e; cases e
        exact ⟨hzl, out.toList, cc, rys, by rw [Array.toArray_toList]; exact hDo.1⟩
      · rw [upd_ne q] at e
        refine (I.hok b u e).stay (fun b' u' hb' e' => kp b' u' e' ?_) (fun b' e' => by rw [upd_ne (nD e')]; exact e') (fun b' xs e' => by rw [upd_ne (nD e')]; exact e')
        rcases hb' with rfl | hb'
        · exact nl e
        · exact nl hb'
def SKP (K : PySem.W.Frag) (qual : Str) (params : Arguments) (body : Expr) (scope : Scope) (KI : V → Hp → Int → Prop) (Q : VK) (x y : V) (H2 : Hp) : Prop := ∃ (a f : Addr) (xs : List V) (kz : List Int) (c : Addr) (pm ctv : Value), x = .ref a ∧ y = .ref f ∧ SqL K H2 a xs ∧
  H2 f = some (LamHO f qual params body scope pm c ctv) ∧ H2 c = some (CodeHO c qual) ∧ kz.length = xs.length ∧ xs.length < 64 ∧ (∀ (i : Nat) (v : V) (k : Int), xs[i]? = some v → kz[i]? = some k → KI v H2 k) ∧ ∀ D ys, H2 D = none → SortedBy kz xs ys → Q (.ref D) (upd H2 D (.lst ys))
/-- sorted(e, key = a lambda) -/
def tSortK (K : PySem.W.Frag) (qual : Str) (params : Arguments) (body : Expr) (scope : Scope) (KI : V → Hp → Int → Prop) (te tl : TE) : TE := fun σ H Q => te σ H fun x H1 => tl σ H1 fun y H2 => SKP K qual params body scope KI Q x y H2
theorem pe_sortK {k : Nat} {p pos kpos : Pos} {e le : Expr} {te tl : TE} {qual x : Str} {params : Arguments} {body : Expr} {scope : Scope} {KI : V → Hp → Int → Prop} (hr : Room k X.A) (hc : X.calm = true) (hg : Gl X "sorted") (hm : X.mg "sorted" = none) (he : PE X e te) (hl : PE X le tl)
    (hKI : ∀ pins σ H s v u k, Inv X pins σ H s → RelV v u → KI v H k → LamRun X.prog X.w X.mg qual scope body x u s.heap X.env.locals k)
    (hbind : ∀ pm c ctv u, bindArgs (PySem.W.kla_fn "<lambda>" qual params body scope [] pm (.ref c) ctv) ⟨[u], []⟩ = pure [(x, u)])
    (hx : scope.names.lookup x = some .local) (hcell : ∀ y ∈ scope.names, y.2 ≠ .cell) (hco : scope.isCoroutine = false) (hgen : scope.isGenerator = false) (hk : scope.kind = .function)
    (hst : starEach [e] X.env = [(false, eval e X.env)] := by rfl) :
    PE X (.Call (.Name "sorted" p) [e] [⟨some "key", le, kpos⟩] pos) (tSortK X.K qual params body scope KI te tl) := by
  intro pins s σ H Q I h
  refine wpAny_Call_Name_kw (ld_blt I hg hm (u := .builtin "sorted") rfl ?_ (by decide) (by decide))
  have pa : PA X [e] (tCons te tNil) := pa_cons he pa_nil hst
  have pk : PK X [⟨some "key", le, kpos⟩] (tCons tl tNil) := pk_cons hl pk_nil
  have h : te σ H fun x H1 => tl σ H1 fun y H2 => SKP X.K qual params body scope KI Q x y H2 := h
  refine PyProof.Rows.callWith_kw (thn (pa pos pins s σ H (fun vs H1 => match vs with | [x] => tl σ H1 (fun y H2 => SKP X.K qual params body scope KI Q x y H2) | _ => False) I h) fun us s1 ⟨vs, H1, I1, r1, q1⟩ => ?_) (by rw [hst]; rfl) (by rw [hst]; rfl)
  match vs, r1, q1 with
  | [], _, q1 => exact q1.elim
  | _ :: _ :: _, _, q1 => exact q1.elim
  | [x], r1, q1 =>
    refine thn (pk pos pins s1 σ H1 (fun ws H2 => match ws with | [y] => SKP X.K qual params body scope KI Q x y H2 | _ => False) I1 q1) fun ws s2 ⟨zs, H2, I2, r2, q2⟩ => ?_
    match zs, r2, q2 with
    | [], _, q2 => exact q2.elim
    | _ :: _ :: _, _, q2 => exact q2.elim
    | [y], r2, q2 =>
      obtain ⟨u, rfl, ru⟩ := vals1 r1
      obtain ⟨v, rfl, rw'⟩ := vals1 r2
      obtain ⟨a, f, xs, kz, c, pm, ctv, rfl, rfl, h1, h2, h3, h4, h5, h6, h7⟩ := q2
      cases ru
      cases rw'
      exact sortK_call I2 hr hc hKI hbind hx hcell hco hgen hk h1 h2 h3 h4 h5 h6 h7
end
end L2
namespace L2
open PySem PySem.Spec PyProof.Rows
/-- the key -len(row[0]) -/
def KIneg (K : PySem.W.Frag) (v : V) (H : Hp) (k : Int) : Prop := ∃ a z rest, v = .ref a ∧ SqT K H a (.str z :: rest) ∧ z.length ≤ sizeLine ∧ k = -(z.length : Int)
theorem lam_neglen {X : Cx} {qual : Str} {scope : Scope} {p1 p2 p3 p4 p5 p6 : Pos} {j : Nat} (hm : X.mg "len" = none) (hk : scope.kind = .function) (hrow : scope.names.lookup ("row" : Str) = some .local) (hlen : scope.names.lookup ("len" : Str) = some .globalImplicit) :
    ∀ pins σ H s v u k, Inv X pins σ H s → RelV v u → KIneg X.K v H k →
      LamRun X.prog X.w X.mg qual scope (.UnaryOp .USub (.Call (.Name "len" p1) [.Subscript (.Name "row" p2) (.Constant (.int 0) j p3) p4] [] p5) p6) "row" u s.heap X.env.locals k := by
  intro pins σ H s v u k I rv ⟨a, z, rest, ev, hq, hz, ek⟩ A f c L s1 hh kp hns
  subst ev ek
  cases rv
  obtain ⟨its, r, pl, hzz⟩ := I.tuple hq
  have bk : ∀ b o, X.base.get? b = some o → s1.heap.get? b = some o := fun b o e => kp b o (fun q => by
    have zz := I.ok.bs b o e
    exact absurd (Heap.lt_size zz.1) (Nat.not_lt.mpr (q ▸ I.ok.above))) (I.bk b o e)
  obtain ⟨mb, hb1, hb2⟩ := I.mod.blt
  obtain ⟨w0, e0, t0, rfl⟩ : ∃ w0, its[0]? = some w0 ∧ ∃ t, w0 = .str z t := by
    obtain ⟨w0, e0, r0⟩ := r.get (i := 0) (x := .str z) rfl
    exact ⟨w0, e0, r0⟩
  refine UnaryOp_ ?_
  refine wpAny_Call_Name_kw (Calls.Name_function_global hk hlen (Calls.loadGlobal_builtin (I.mod.glob.keeps bk) hm (hb1.keeps bk) ((hb2 "len" (by decide)).trans (show bootBuiltins "len" = some (.builtin "len") from rfl)) ?_) (by decide))
  refine PyProof.Rows.callWith_builtin1 (Calls.spliced_cons (Subscript_ (wpAny_Name (wpAny_loadName_local hk hrow hns (v := .ref a) rfl (wpAny_Constant_int ?_)) (by decide)))) rfl rfl
  have pl' : IsTup s1.heap a its.toArray := by
    obtain ⟨o, e, rr⟩ := pl
    refine ⟨o, kp a o (fun q => ?_) e, rr⟩
    obtain ⟨m, ⟨o', es, ep, e', d', _⟩, _⟩ := I.loc
    rw [q, e'] at e
    cases e
    obtain ⟨_, n, d⟩ := rr
    rw [d'] at d
    cases d
  refine subscriptTail_builtinR (x := .str z t0) pl'.typeIs slot_tuple_getitem.lookup (getItem_tuple (j := 0) (Q := fun r s' => r = .str z t0 ∧ _) pl' (by decide) (by decide) (seqIndex_of (by decide) (by have := (List.getElem?_eq_some_iff.mp e0).1; rw [List.size_toArray]; omega)) (by simpa using e0) ⟨rfl, ?_⟩) rfl
  refine Calls.spliced_nil ?_
  have hn := line63
  refine PyProof.Rows.len_str (by omega) (neg_int ⟨⟨_, rfl⟩, _, rfl⟩)
end L2
namespace L2
open PySem PySem.Spec PyProof.Rows
/-- the head of a law whose program makes functions at run time: the makers' tables are tracked -/
theorem law_callT {P : Program} {w : World} {K : PySem.W.Frag} {mg mb : Str → Option Value} {k : Nat} {fa a : Addr} {fd : FuncData} {x : Str} {sp : Sp} {s₁ : Shared} {vs : List Value} {ns : List Int} {tabs : List (Addr × Addr)}
    (hT : PySem.W.TabsAt tabs s₁.heap) (hTK : ∀ q ∈ tabs, K.lookup q.2 = none) (hBm : Bm mg s₁.heap)
    (KX : K.In s₁.heap) (hns : s₁.heap.Ns mainGlobals mg) (hb : s₁.heap.Ns builtinsNs mb) (hbb : ∀ x : Str, x ≠ "__name__" → mb x = bootBuiltins x) (hlim : s₁.heap.NoLimit) (hg : s₁.gens = #[])
    (ha : s₁.heap.get? a = some { cls := .type "list", data := .seq vs.toArray }) (hi : IntsAre vs ns) (hl : ns.length ≤ sizeLine) (hr : Room k callerA)
    (F : ∀ base : Heap, K.In base → base.Ns mainGlobals mg → Bm mg base → FnOk P w K mg base CX0 k fa fd [x] sp) (hbind : ∀ (s : Shared) (u : Value), BindsTo s fd ⟨[u], []⟩ [(x, u)])
    (hsp : ∀ H : Hp, (∀ q ∈ tabs, H q.2 = some (.tbl #[])) → SqL K H a (ns.map V.int) → sp [.ref a] H (fun v _ => v = .bl true) E0) :
    codeAny (model P w) callerA (.call (.ref fa) ⟨[.ref a], []⟩) (fun r s' => r = .ok (.ret (.bool true)) ∧ OldK s₁.heap s'.heap ∧ s'.os = s₁.os ∧ AllBare s'.gens) s₁ := by
  have rv := vals_ints hi
  have lenV := hi.length
  have tabAt : ∀ b, b ∈ tabs.map (·.2) → s₁.heap.get? b = some (PySem.W.tabObj #[]) ∧ isCodeTable s₁.heap b ∧ K.lookup b = none := fun b hb => by
    obtain ⟨q, hq, rfl⟩ := List.mem_map.mp hb
    exact ⟨(hT q hq).2, ((hT q hq).1.tab (hT q hq).2).isCodeTable, hTK q hq⟩
  have core : ∀ H : Hp, (∀ b, H b = none ∨ (b = a ∧ b ∉ tabs.map (·.2) ∧ K.lookup a = none ∧ H b = some (.frz { cls := .type "list", data := .seq vs.toArray } (.lst (ns.map V.int)))) ∨ (b ∈ tabs.map (·.2) ∧ H b = some (.tbl #[]))) →
      SqL K H a (ns.map V.int) → HOk P w H s₁.heap → (∀ q ∈ tabs, H q.2 = some (.tbl #[])) →
      codeAny (model P w) callerA (.call (.ref fa) ⟨[.ref a], []⟩) (fun r s' => r = .ok (.ret (.bool true)) ∧ OldK s₁.heap s'.heap ∧ s'.os = s₁.os ∧ AllBare s'.gens) s₁ := by
    intro H hO hS hok hTb
    have base_of : ∀ {b : Addr} {o : Obj}, s₁.heap.get? b = some o → H b = none → (hidT s₁.heap H).get? b = some o := fun e n => hidT_get e n
    have noA : ∀ {b : Addr} {o : Obj}, s₁.heap.get? b = some o → (∀ es n, o.data ≠ .seq es n) → (∀ es, o.data ≠ .fields es) → H b = none := fun {b o} e d1 d2 => by
      rcases hO b with z | ⟨rfl, _, _⟩ | ⟨z, _⟩
      · exact z
      · rw [ha] at e; cases e
        exact absurd rfl (d1 _ _)
      · rw [(tabAt b z).1] at e; cases e
        exact absurd rfl (d2 _)
    have nsK : ∀ {b : Addr} {m : Str → Option Value}, s₁.heap.Ns b m → (hidT s₁.heap H).Ns b m := fun {b m} ⟨o, es, ep, e, d, r⟩ => ⟨o, es, ep, base_of e (noA e (fun _ _ q => by rw [d] at q; cases q) (fun _ q => by rw [d] at q; cases q)), d, r⟩
    have hKb : K.In (hidT s₁.heap H) := fun b o e => base_of (KX b o e) (by
      rcases hO b with z | ⟨rfl, _, z, _⟩ | ⟨z, _⟩
      · exact z
      · rw [z] at e; cases e
      · rw [(tabAt b z).2.2] at e; cases e)
    have hM : Mod K mg (hidT s₁.heap H) := ⟨hKb, nsK hns, ⟨mb, nsK hb, hbb⟩, let ⟨mc, h1, h2⟩ := hlim; ⟨mc, nsK h1, h2⟩⟩
    have hBb : Bm mg (hidT s₁.heap H) := by
      obtain ⟨bm, ob, b1, b2, b3, b4, b5, b6⟩ := hBm
      exact ⟨bm, ob, b1, b2, base_of b3 (noA b3 (fun _ _ q => by rw [b6] at q; cases q) (fun _ q => by rw [b6] at q; cases q)), b4, b5, b6⟩
    have e0 : Env0 P w K mg (hidT s₁.heap H) callerA [] s₁ H := ⟨rfl, hM, fun b o e => of_hidT e, Nat.le_of_eq (hidT_size _ _), trivial, fun b hb => absurd (show b ∈ ([] : List Addr) from hb) (by simp), hok, .of_eq hg⟩
    refine codeAny_mono ((F _ hKb (nsK hns) hBb).run callerA [] s₁ H ⟨[.ref a], []⟩ [.ref a] [.ref a] _ _ hr e0 (hbind s₁ (.ref a)) (.cons rfl .nil) (hsp H hTb hS)) fun r s' h => ?_
    cases r with
    | error e => exact False.elim h
    | ok fl =>
      cases fl with
      | next => exact False.elim h
      | brk => exact False.elim h
      | cont => exact False.elim h
      | ret u =>
        obtain ⟨v, H', os, bare, un, hok', r', q⟩ := h
        have q' : v = .bl true := q
        subst q'
        obtain rfl : u = Value.bool true := r'
        have all : ∀ b o, s₁.heap.get? b = some o → asItWas s₁.heap s'.heap b o ∧ ∃ o', s'.heap.get? b = some o' := fun b o e => by
          rcases hO b with z | ⟨rfl, _, _, z⟩ | ⟨hm, z⟩
          · have e2 := un.keep b o e z (by intro z; exact absurd (show b ∈ ([] : List Addr) from z) (by simp)) (by simp)
            exact ⟨.inl e2, _, e2⟩
          · have z2 := un.frzs b _ _ z
            obtain ⟨e1, _⟩ := hok b _ z
            obtain ⟨e2, _⟩ := hok' b _ z2
            rw [e] at e1; cases e1
            exact ⟨.inl e2, _, e2⟩
          · obtain ⟨more, z2⟩ := un.tbls b _ z
            have e2 : s'.heap.get? b = some (PySem.W.tabObj (#[] ++ more)) := hok' b _ z2
            obtain ⟨t1, t2, _⟩ := tabAt b hm
            rw [e] at t1; cases t1
            exact ⟨.inr (.inl ⟨t2, rfl, #[], more, rfl, e2⟩), _, e2⟩
        exact ⟨rfl, ⟨fun b o e => (all b o e).1, fun b o e => (all b o e).2⟩, os, bare⟩
  have hat : a ∉ tabs.map (·.2) := fun z => by
    have e := (tabAt a z).1
    rw [ha] at e; cases e
  cases hk : K.lookup a with
  | some o =>
    have e := KX a o hk
    rw [ha] at e
    cases e
    refine core (fun b => if b ∈ tabs.map (·.2) then some (.tbl #[]) else none) (fun b => ?_) (.inr ⟨_, vs.toArray, _, hk, rfl, rfl, rfl, by rw [List.size_toArray, lenV]; exact hl, by simpa using rv⟩) (fun b u z => ?_) fun q hq => if_pos (List.mem_map_of_mem hq)
    · by_cases hb : b ∈ tabs.map (·.2)
      · exact .inr (.inr ⟨hb, if_pos hb⟩)
      · exact .inl (if_neg hb)
    · by_cases hb : b ∈ tabs.map (·.2)
      · have z' := (if_pos hb).symm.trans z
        cases z'
        exact (tabAt b hb).1
      · have z' := (if_neg hb).symm.trans z
        cases z'
  | none =>
    have hne : ∀ q ∈ tabs, q.2 ≠ a := fun q hq z => hat (List.mem_map.mpr ⟨q, hq, z⟩)
    refine core (fun b => if b = a then some (.frz { cls := .type "list", data := .seq vs.toArray } (.lst (ns.map V.int))) else if b ∈ tabs.map (·.2) then some (.tbl #[]) else none) (fun b => ?_) (.inl (.inr ⟨{ cls := .type "list", data := .seq vs.toArray }, if_pos rfl⟩)) (fun b u z => ?_) fun q hq => ?_
    · by_cases hb : b = a
      · exact .inr (.inl ⟨hb, by rw [hb]; exact hat, hk, if_pos hb⟩)
      · by_cases hb2 : b ∈ tabs.map (·.2)
        · exact .inr (.inr ⟨hb2, by rw [if_neg hb, if_pos hb2]⟩)
        · exact .inl (by rw [if_neg hb, if_neg hb2])
    · by_cases hb : b = a
      · have z' := (if_pos hb).symm.trans z
        cases z'
        subst hb
        exact ⟨ha, by rw [List.length_map]; exact hl, vs, _, rv, ha⟩
      · have z' := (if_neg hb).symm.trans z
        by_cases hb2 : b ∈ tabs.map (·.2)
        · have z'' := (if_pos hb2).symm.trans z'
          cases z''
          exact (tabAt b hb2).1
        · have z'' := (if_neg hb2).symm.trans z'
          cases z''
    · show (if q.2 = a then _ else _) = _
      rw [if_neg (hne q hq), if_pos (List.mem_map_of_mem hq)]
/-- the law's head, with tables; the sizes of the script's numbers too -/
theorem walkT {l : PySem.W.OpenLaw} {q : Program} {loose : List Str} {XP : (Str → Option Value) → Heap → Prop} {YP : World → Heap → Prop} {d : DefRec} {K : Params → PySem.W.Frag} {p : Str} {k : Nat} (sp : PySem.W.Frag → Sp) (tabs : List (Addr × Addr)) (hn : l.most = some 63) (hdf : d.params.defaults = []) (hr : Room k callerA)
    (hY : ∀ (w : World) (h : Heap), YP w h → (K w.params).In h ∧ ∀ q ∈ tabs, h.get? q.2 = some (PySem.W.tabObj #[]))
    (hC : ∀ (w : World) (h : Heap), (K w.params).In h → (∀ q ∈ tabs, PySem.W.CodeHd h q.1 q.2)) (hTK : ∀ (w : World), ∀ q ∈ tabs, (K w.params).lookup q.2 = none)
    (hsp : ∀ (K : PySem.W.Frag) (H : Hp) (a : Addr) (ns : List Int), ns.length ≤ 63 → (∀ z ∈ ns, Builtin.Int.intBits z ≤ 1048576) → (∀ q ∈ tabs, H q.2 = some (.tbl #[])) → SqL K H a (ns.map V.int) → sp K [.ref a] H (fun v _ => v = .bl true) E0)
    (F : ∀ (w : World) (mg : Str → Option Value) (fa : Addr) (h : Heap), (K w.params).In h → h.Ns mainGlobals mg → mg d.name = some (.ref fa) →
      ∃ fd : FuncData, (∀ (s : Shared) (u : Value), BindsTo s fd ⟨[u], []⟩ [(p, u)]) ∧ ∀ base : Heap, (K w.params).In base → base.Ns mainGlobals mg → Bm mg base → FnOk l.prog w (K w.params) mg base CX0 k fa fd [p] (sp (K w.params))) :
    PySem.W.WalkO q loose XP YP l.row.toRowW d [] (fun f vs => PySem.call f vs) := by
  refine Att.attach_callB hn hdf fun w s₀ s₁ mg mb fa o pm cd doc a vs ns G Y ho hd hcd hmg hobj hints hlen hbits hg => ?_
  obtain ⟨KX, hTb⟩ := hY w _ Y
  obtain ⟨fd, hb, hF⟩ := F w mg fa _ KX G.T.g hmg
  exact law_callT (tabs := tabs) (fun q hq => ⟨hC w _ KX q hq, hTb q hq⟩) (hTK w) G.T.bmain KX G.T.g G.T.b G.T.builtins G.T.nolimit hg hobj hints (Nat.le_trans hlen (by decide)) hr hF hb (fun H hO hS => hsp _ H a ns hlen hbits hO hS)
end L2
namespace L2
open PySem PySem.Spec PyProof.Rows
/-- a method of the text: its object, its code -/
structure FunV (K : PySem.W.Frag) (x qual : Str) (st : Stmt) (f : Addr) (cdv : Value) : Prop where
  ex : ∃ (oc : Value) (od : Option Addr) (kV doc pm : Value) (an : Option Addr) (ct : Value) (osl : Array (Option Value)),
    K.lookup f = some ⟨oc, od, .func (PySem.W.fnOf x qual (defArgs st) (defBody st) (defScope st) .none kV doc pm an cdv ct), osl⟩
  cd : PySem.W.codeIn K cdv qual = true
  kp : PySem.W.keepIn K (.ref f) = true
/-- C(..) keeps a promise -/
def MCal (P : Program) (w : World) (K : PySem.W.Frag) (mg : Str → Option Value) (base : Heap) (k : Nat) (x : Str) (C : Addr) (ps : List Str) (sp : Sp) : Prop :=
  ∃ f fd, Mk K C f ∧ FnOk P w K mg base CX0 k f fd ps sp ∧ mg x = some (.ref C) ∧ Binds K fd ps []
/-- o.m(..) keeps a promise -/
def Mth (P : Program) (w : World) (K : PySem.W.Frag) (mg : Str → Option Value) (base : Heap) (k : Nat) (C : Addr) (m : Str) (ps : List Str) (sp : Sp) : Prop :=
  ∃ f fd, Cls K C ∧ Meth K C m f ∧ FnOk P w K mg base CX0 k f fd ps sp ∧ Binds K fd ps []
section
variable {P : Program} {w : World} {K : PySem.W.Frag} {mg : Str → Option Value} {base : Heap}
theorem FunV.mk' {x qual : Str} {st : Stmt} {f : Addr} {oc : Value} {od an : Option Addr} {osl : Array (Option Value)} {kV doc pm cdv ct : Value} (l : K.lookup f = some ⟨oc, od, .func (PySem.W.fnOf x qual (defArgs st) (defBody st) (defScope st) .none kV doc pm an cdv ct), osl⟩)
    (c : PySem.W.codeIn K cdv qual = true) (k : PySem.W.keepIn K (.ref f) = true) : FunV K x qual st f cdv := ⟨⟨oc, od, kV, doc, pm, an, ct, osl, l⟩, c, k⟩
theorem FunV.fn {x qual : Str} {st : Stmt} {f : Addr} {cdv : Value} {N ps : List Str} {k : Nat} {sp : Sp} (F : FunV K x qual st f cdv) (S : FnScope N ps (defScope st)) (len : ∀ vs H Q E, sp vs H Q E → vs.length = ps.length)
    (hb : ∀ (kV doc pm : Value) (an : Option Addr) (cdv ct : Value) (us : List Value), us.length = ps.length → bindArgs (PySem.W.fnOf x qual (defArgs st) (defBody st) (defScope st) .none kV doc pm an cdv ct) ⟨us, []⟩ = pure (ps.zip us))
    (hbody : ∀ (A : Around) (outer : List Env) (s : Shared) (H : Hp) (vs : List V) (Q : VK) (E : XK), Room k (A.deeper (envOfC qual (defScope st) s.heap.objs.size f cdv)) → sp vs H Q E →
      ∃ t, PSs (cxOf CX0 P w K mg base N qual (defScope st) f cdv A outer s H E).nox (defBody st) t ∧ t { nx := fun _ H' => Q .non H', rt := Q } (start N vs) H) : ∃ fd, FnOk P w K mg base CX0 (k + 1) f fd ps sp ∧ Binds K fd ps [] := by
  obtain ⟨oc, od, kV, doc, pm, an, ct, osl, lk⟩ := F.ex
  refine ⟨_, fn_of lk F.cd S len fun A outer s H vs Q E hr hsp => ?_, .all (hb kV doc pm an cdv ct)⟩
  obtain ⟨t, h, q⟩ := hbody A outer s H vs Q E hr hsp
  exact ⟨t, h.nox, q⟩
theorem FunV.mth {x qual : Str} {st : Stmt} {f C : Addr} {cdv : Value} {N ps : List Str} {k : Nat} {sp : Sp} (F : FunV K x qual st f cdv) (c : Cls K C) (m : Meth K C x f) (S : FnScope N ps (defScope st)) (len : ∀ vs H Q E, sp vs H Q E → vs.length = ps.length)
    (hb : ∀ (kV doc pm : Value) (an : Option Addr) (cdv ct : Value) (us : List Value), us.length = ps.length → bindArgs (PySem.W.fnOf x qual (defArgs st) (defBody st) (defScope st) .none kV doc pm an cdv ct) ⟨us, []⟩ = pure (ps.zip us))
    (hbody : ∀ (A : Around) (outer : List Env) (s : Shared) (H : Hp) (vs : List V) (Q : VK) (E : XK), Room k (A.deeper (envOfC qual (defScope st) s.heap.objs.size f cdv)) → sp vs H Q E →
      ∃ t, PSs (cxOf CX0 P w K mg base N qual (defScope st) f cdv A outer s H E).nox (defBody st) t ∧ t { nx := fun _ H' => Q .non H', rt := Q } (start N vs) H) : Mth P w K mg base (k + 1) C x ps sp := by
  obtain ⟨fd, h1, h2⟩ := F.fn S len hb hbody
  exact ⟨f, fd, c, m, h1, h2⟩
theorem FunV.init {y qual : Str} {st : Stmt} {f C : Addr} {cdv : Value} {N ps : List Str} {k : Nat} {sp : Sp} (F : FunV K "__init__" qual st f cdv) (M : Mk K C f) (hm : mg y = some (.ref C)) (S : FnScope N ps (defScope st)) (len : ∀ vs H Q E, sp vs H Q E → vs.length = ps.length)
    (hb : ∀ (kV doc pm : Value) (an : Option Addr) (cdv ct : Value) (us : List Value), us.length = ps.length → bindArgs (PySem.W.fnOf "__init__" qual (defArgs st) (defBody st) (defScope st) .none kV doc pm an cdv ct) ⟨us, []⟩ = pure (ps.zip us))
    (hbody : ∀ (A : Around) (outer : List Env) (s : Shared) (H : Hp) (vs : List V) (Q : VK) (E : XK), Room k (A.deeper (envOfC qual (defScope st) s.heap.objs.size f cdv)) → sp vs H Q E →
      ∃ t, PSs (cxOf CX0 P w K mg base N qual (defScope st) f cdv A outer s H E).nox (defBody st) t ∧ t { nx := fun _ H' => Q .non H', rt := Q } (start N vs) H) : MCal P w K mg base (k + 1) y C ps sp := by
  obtain ⟨fd, h1, h2⟩ := F.fn S len hb hbody
  exact ⟨f, fd, M, h1, hm, h2⟩
end
section
variable {X : Cx} {k : Nat} {C : Addr} {x m : Str} {ps : List Str} {sp : Sp} {p pos apos : Pos} {o e : Expr} {es : List Expr} {ta : TE} {t : TA}
theorem pe_mk (M : MCal X.prog X.w X.K X.mg X.base k x C ps sp) (hr : Room (k + 1) X.A) (ha : PA X (e :: es) t) (hg : Gl X x := by rfl) (hd : (x == ("__debug__" : Str)) = false := by decide)
    (he : starEach (e :: es) X.env = (false, eval e X.env) :: starEach es X.env := by rfl) (hpl : (backTo pos (starEach es X.env)).any (·.1) = false := by rfl) : PE X (.Call (.Name x p) (e :: es) [] pos) (tMake C sp [] E0 t) := by
  obtain ⟨f, fd, M, F, m, b⟩ := M
  exact pe_make M F hr hg m b .nil pass0 ha hd he hpl
theorem pe_mth0 {pl : Sem Bool} (M : Mth X.prog X.w X.K X.mg X.base k C m ps sp) (hr : Room k X.A) (he : PE X o ta)
    (ht : eval (.Call (.Attribute o m apos) [] [] pos) X.env = (do
      let ov ← eval o X.env
      standAt apos.atName
      let (f, first) ← holding [ov] (getMethod ov m pl)
      callWith pos f first (backTo pos (starEach [] X.env)) (backToKw pos (keywordEach [] X.env))) := by rfl) :
    PE X (.Call (.Attribute o m apos) [] [] pos) (tMeth C m sp [] E0 ta tNil) := by
  obtain ⟨f, fd, c, mm, F, b⟩ := M
  exact pe_meth0 he c mm F hr b .nil pass0 ht
end
/-! applied readings of the new rules -/
theorem ap_tLam (P : Addr) (pos : Pos) (qual : Str) (params : Arguments) (body : Expr) (scope : Scope) : ∀ σ H Q, tLam P pos qual params body scope σ H Q = (TabOk P pos qual H ∧ ∀ f c pm ctv H', H f = none → (∀ a o, H a = some o → a ≠ P → H' a = some o) → TabOk P pos qual H' →
  H' f = some (LamHO f qual params body scope pm c ctv) → H' c = some (CodeHO c qual) → Q (.ref f) H') := fun _ _ _ => rfl
theorem ap_tSortK (K : PySem.W.Frag) (qual : Str) (params : Arguments) (body : Expr) (scope : Scope) (KI : V → Hp → Int → Prop) (te tl : TE) : ∀ σ H Q, tSortK K qual params body scope KI te tl σ H Q = (te σ H fun x H1 => tl σ H1 fun y H2 => SKP K qual params body scope KI Q x y H2) := fun _ _ _ => rfl
end L2
namespace L2
open PySem PySem.Spec PyProof.Rows
/-! a display of constants -/
def constV : Expr → Option V
  | .Constant (.str x) _ _ => some (.str x)
  | .Constant (.int i) _ _ => some (.int i)
  | _ => none
def tCs (xs : List V) : TA := fun _ H Q => Q xs H
theorem ap_tCs (xs : List V) : ∀ σ H Q, tCs xs σ H Q = Q xs H := fun _ _ _ => rfl
theorem pa_cs {X : Cx} : ∀ {es : List Expr} {xs : List V}, es.map constV = xs.map some → PA X es (tCs xs)
  | [], [], _ => fun _ _ _ _ H Q I h => Calls.spliced_nil ⟨[], H, I, .nil, h⟩
  | [], _ :: _, h => nomatch h
  | _ :: _, [], h => nomatch h
  | e :: es, x :: xs, h => by
    simp only [List.map_cons, List.cons.injEq] at h
    have ih := pa_cs (X := X) h.2
    have one : PE X e (tC x) ∧ starEach (e :: es) X.env = (false, eval e X.env) :: starEach es X.env := by
      have h1 := h.1
      unfold constV at h1
      split at h1
      · cases h1; exact ⟨pe_str, rfl⟩
      · cases h1; exact ⟨pe_int, rfl⟩
      · cases h1
    intro pos pins s σ H Q I hq
    exact pa_cons one.1 ih one.2 pos pins s σ H Q I hq
end L2
namespace L2
open PySem PySem.Spec PyProof.Rows
/-- a comprehension over a text, a truth of each sign -/
theorem lc_signs {x : Str} {k : Nat} {σ : St} {te : TE} {f : Nat → Bool} {H1 : Hp} {D : Addr} {Qd : Hp → Prop} (hte : ∀ c H Q, Q (.bl (f c)) H → te ((wipe σ [k]).set k (some (.str ⟨#[c]⟩))) H Q) (hD : H1 D = none) (hx : x.length ≤ 1000)
    (hd : ∀ H, H D = some (.lst ((x.cps.toList.map f).map V.bl)) → Same H1 H → Qd H) : LcB (Its x) (gName k) tYes te [k] σ H1 D Qd := by
  refine lcM_str hD (fun ys H => ys = ((x.cps.toList.take ys.length).map f).map V.bl) rfl ?_ ?_
  · intro i c ys H hc hys I
    have hi : i < x.cps.size := (Array.getElem?_eq_some_iff.mp hc).1
    have hx2 : x.cps.size ≤ 1000 := hx
    refine ⟨by simp only [wipe, List.set_set], hte c H _ (LcNext.mk hD I hys (Same.refl _) (small1000 (by omega)) ?_)⟩
    have e := I.pv
    have hl : i < x.cps.toList.length := by simpa using hi
    have hc' : x.cps.toList[i]'hl = c := by
      have := Array.getElem?_eq_some_iff.mp hc
      obtain ⟨_, e⟩ := this
      simpa using e
    rw [hys] at e
    rw [List.length_append, List.length_singleton, hys, ← List.take_append_getElem hl, hc', List.map_append, List.map_append, ← e]
    rfl
  · intro ys H hys I
    refine hd H ?_ I.same
    have e := I.pv
    rw [hys, show x.cps.size = x.cps.toList.length by simp, List.take_length] at e
    rw [← e]
    exact I.at_
def DcB (J : It) (g : TG) (tt : TT) (tk te : TE) (vs : List Nat) (σ : St) (H1 : Hp) (D : Addr) (Qd : Hp → Prop) : Prop := ∃ W : Nat → Nat → Hp → Prop, (∃ m, W 0 m (upd H1 D (.dK []))) ∧ ∀ i m H, W i m H →
  (J.stop i H ∧ Qd H) ∨ (J.go i H ∧ ∃ Nx : Hp → Prop, (∀ H', Nx H' → ∃ m', m' < m ∧ W (i + 1) m' H') ∧ ∀ x H', J.yld i H x H' → g x (wipe σ vs) H' fun σ2 H2 => wipe σ2 vs = wipe σ vs ∧ tt σ2 H2 fun b H3 =>
    if b = true then tk σ2 H3 fun kv H4 => te σ2 H4 fun y H5 => ∃ k acc, kv = kV k ∧ H5 D = some (.dK acc) ∧ acc.length < sizeLine ∧ Nx (upd H5 D (.dK (putK acc k y))) else Nx H3)
theorem ap_tDcB (wi : TI) (g : TG) (tt : TT) (tk te : TE) (vs : List Nat) : ∀ σ H Q, tDc wi g tt tk te vs σ H Q = (wi σ H fun J H1 => ∀ D, H1 D = none → DcB J g tt tk te vs σ H1 D fun H => Q (.ref D) H) := fun _ _ _ => rfl
structure DcI (H1 : Hp) (D : Addr) (Pv : List (Key × V) → Hp → Prop) (kvs : List (Key × V)) (H : Hp) : Prop where
  at_ : H D = some (.dK kvs)
  same : Same H1 H
  pv : Pv kvs H
/-- what a turn is to reach: k: y put -/
def DcNext (H1 : Hp) (D : Addr) (Pv : Nat → List (Key × V) → Hp → Prop) (i : Nat) (kv y : V) (H5 : Hp) : Prop :=
  ∃ k acc, kv = kV k ∧ H5 D = some (.dK acc) ∧ acc.length < sizeLine ∧ ∃ kvs, DcI H1 D (Pv (i + 1)) kvs (upd H5 D (.dK (putK acc k y)))
theorem DcNext.mk {H1 H H5 : Hp} {D : Addr} {Pv : Nat → List (Key × V) → Hp → Prop} {i : Nat} {k : Key} {y : V} {kvs : List (Key × V)} (hD : H1 D = none) (I : DcI H1 D (Pv i) kvs H) (s : Same H H5) (sm : kvs.length < sizeLine) (pv : Pv (i + 1) (putK kvs k y) (upd H5 D (.dK (putK kvs k y)))) : DcNext H1 D Pv i (kV k) y H5 := by
  refine ⟨k, kvs, rfl, s _ _ I.at_, sm, _, upd_same, fun b o e => ?_, pv⟩
  rw [upd_ne (ne_of_none e hD)]
  exact s _ _ (I.same _ _ e)
theorem dcM_list {K : PySem.W.Frag} {a : Addr} {xs : List V} {g : TG} {σ : St} {tk te : TE} {vs : List Nat} {H1 : Hp} {D : Addr} {Qd : Hp → Prop} (hD : H1 D = none) (ha : SqL K H1 a xs) (Pv : Nat → List (Key × V) → Hp → Prop) (h0 : Pv 0 [] (upd H1 D (.dK [])))
    (hs : ∀ i x kvs H, xs[i]? = some x → DcI H1 D (Pv i) kvs H → g x (wipe σ vs) H fun σ2 H2 => wipe σ2 vs = wipe σ vs ∧ tk σ2 H2 fun kv H4 => te σ2 H4 fun y H5 => DcNext H1 D Pv i kv y H5)
    (hd : ∀ kvs H, DcI H1 D (Pv xs.length) kvs H → Qd H) : DcB (Itl K a) g tYes tk te vs σ H1 D Qd := by
  refine ⟨fun i m H => m = xs.length - i ∧ i ≤ xs.length ∧ ∃ kvs, DcI H1 D (Pv i) kvs H, ⟨xs.length, by simp, Nat.zero_le _, [], upd_same, Same.new hD, h0⟩, ?_⟩
  rintro i m H ⟨rfl, hi, kvs, I⟩
  have q := I.same.sqL ha
  by_cases hlt : i < xs.length
  · refine .inr ⟨⟨xs, xs[i], q, by simp [hlt]⟩, fun H => ∃ kvs, DcI H1 D (Pv (i + 1)) kvs H, fun H' p' => ⟨xs.length - (i + 1), by omega, rfl, hlt, p'⟩, fun x H' y => ?_⟩
    obtain ⟨e2, y1⟩ := y
    subst e2
    exact hs i x kvs _ (y1 xs q) I
  · have e : i = xs.length := by omega
    subst e
    exact .inl ⟨⟨xs, q, Nat.le_refl _⟩, hd kvs H I⟩
end L2
namespace L2
open PySem PySem.Spec PyProof.Rows
/-- sorted(e, key = lambda row: -len(row[0])) -/
theorem pe_sortNeg {X : Cx} {k : Nat} {c P : Addr} {p pos kpos lpos p1 p2 p3 p4 p5 p6 : Pos} {j : Nat} {e : Expr} {te : TE} {qual : Str} {params : Arguments} {scope : Scope} (hr : Room k X.A) (hc : X.calm = true) (hg : Gl X "sorted") (hm : X.mg "sorted" = none) (hml : X.mg "len" = none) (he : PE X e te)
    (hcode : X.env.code = .ref c) (C : PySem.W.CodeHd X.base c P) (hb : Bm X.mg X.base) (hq : X.env.qual ++ "<lambda>" = qual) (hdef : defaultsOf params X.env = ([], [])) (hcl : closureFor scope X.env = pure [])
    (hbind : ∀ pm c ctv u, bindArgs (PySem.W.kla_fn "<lambda>" qual params (.UnaryOp .USub (.Call (.Name "len" p1) [.Subscript (.Name "row" p2) (.Constant (.int 0) j p3) p4] [] p5) p6) scope [] pm (.ref c) ctv) ⟨[u], []⟩ = pure [(("row" : Str), u)])
    (hrow : scope.names.lookup ("row" : Str) = some .local) (hlen : scope.names.lookup ("len" : Str) = some .globalImplicit) (hcell : ∀ y ∈ scope.names, y.2 ≠ .cell) (hco : scope.isCoroutine = false) (hgen : scope.isGenerator = false) (hk : scope.kind = .function)
    (hst : starEach [e] X.env = [(false, eval e X.env)] := by rfl) :
    PE X (.Call (.Name "sorted" p) [e] [⟨some "key", .Lambda params (.UnaryOp .USub (.Call (.Name "len" p1) [.Subscript (.Name "row" p2) (.Constant (.int 0) j p3) p4] [] p5) p6) scope lpos, kpos⟩] pos)
      (tSortK X.K qual params (.UnaryOp .USub (.Call (.Name "len" p1) [.Subscript (.Name "row" p2) (.Constant (.int 0) j p3) p4] [] p5) p6) scope (KIneg X.K) te (tLam P lpos qual params (.UnaryOp .USub (.Call (.Name "len" p1) [.Subscript (.Name "row" p2) (.Constant (.int 0) j p3) p4] [] p5) p6) scope)) :=
  pe_sortK hr hc hg hm he (pe_lam hdef hcl hcode C hb hq) (lam_neglen hml hk hrow hlen) hbind hrow hcell hco hgen hk hst
end L2
namespace L2
open PySem PySem.Spec PyProof.Rows
theorem law_ofT {P : Program} {w : World} {K : PySem.W.Frag} {mg : Str → Option Value} {x p : Str} {st : Stmt} {k : Nat} {sp : Sp} {fa : Addr} (hfa : mg x = some (.ref fa)) (D : Def K mg x st)
    (hb : ∀ (kV doc pm : Value) (an : Option Addr) (cdv ct : Value) (us : List Value), us.length = [p].length → bindArgs (PySem.W.fnOf x x (defArgs st) (defBody st) (defScope st) .none kV doc pm an cdv ct) ⟨us, []⟩ = pure ([p].zip us))
    (C : ∀ base : Heap, K.In base → base.Ns mainGlobals mg → Bm mg base → Cal P w K mg base k x [p] sp) :
    ∃ fd : FuncData, (∀ (s : Shared) (v : Value), BindsTo s fd ⟨[v], []⟩ [(p, v)]) ∧ ∀ base : Heap, K.In base → base.Ns mainGlobals mg → Bm mg base → FnOk P w K mg base CX0 k fa fd [p] sp := by
  obtain ⟨f, fd, F, m⟩ := D
  have e := hfa.symm.trans m
  cases e
  obtain ⟨oc, od, kV, doc, pm, an, cdv, ct, osl, e, lk, hcd⟩ := F.ex
  refine ⟨fd, fun s v => ?_, fun base kb nb bb => ?_⟩
  · rw [e]
    exact .of_eq (hb kV doc pm an cdv ct [v] rfl)
  · obtain ⟨f', fd', Fo, m', _, _, oc', od', osl', lk'⟩ := C base kb nb bb
    have e := m'.symm.trans m
    cases e
    have e2 := lk'.symm.trans lk
    cases e2
    exact Fo
section
variable {K : PySem.W.Frag} {mg : Str → Option Value} {h : Heap} {goal : Prop}
/-- a class of the text that is made by its own __init__ -/
theorem with_class {x qual : Str} {st : Stmt} {C f : Addr} {oc : Value} {od an : Option Addr} {osl : Array (Option Value)} {kV doc pm cdv ct : Value} (X : K.In h) (G : h.Ns mainGlobals mg)
    (a : PySem.W.nsIn K mainGlobals x = some (some (.ref C))) (i : PySem.W.findIn K (.ref C) "__init__" = some (some (.ref f))) (ifn : PySem.W.isFn K (.ref f) = true)
    (l : K.lookup f = some ⟨oc, od, .func (PySem.W.fnOf "__init__" qual (defArgs st) (defBody st) (defScope st) .none kV doc pm an cdv ct), osl⟩) (c : PySem.W.codeIn K cdv qual = true) (k : PySem.W.keepIn K (.ref f) = true)
    (pg : PySem.W.plainGet K C Str.empty = true) (hd : PySem.W.hasDictIn K C = true) (po : PySem.W.plainOver K C = true) (sa : PySem.W.findIn K (.ref C) "__setattr__" = some (some (.builtin "object.__setattr__")))
    (mk : PySem.W.makesIn K C = true) (kc : PySem.W.keepIn K (.ref C) = true)
    (g : mg x = some (.ref C) → Cls K C → Mk K C f → FunV K "__init__" qual st f cdv → goal) : goal :=
  g (PySem.W.mg_of X G a) ⟨pg, hd, po, sa⟩ ⟨mk, i, ifn, kc⟩ (.mk' l c k)
/-- a method of it -/
theorem with_meth {m qual : Str} {st : Stmt} {C f : Addr} {oc : Value} {od an : Option Addr} {osl : Array (Option Value)} {kV doc pm cdv ct : Value} (cls : Cls K C)
    (i : PySem.W.findIn K (.ref C) m = some (some (.ref f))) (ifn : PySem.W.isFn K (.ref f) = true)
    (l : K.lookup f = some ⟨oc, od, .func (PySem.W.fnOf m qual (defArgs st) (defBody st) (defScope st) .none kV doc pm an cdv ct), osl⟩) (c : PySem.W.codeIn K cdv qual = true) (k : PySem.W.keepIn K (.ref f) = true)
    (g : Meth K C m f → FunV K m qual st f cdv → goal) : goal :=
  g ⟨i, ifn, k⟩ (.mk' l c k)
theorem noattr_mk {C : Addr} (cls : Cls K C) (x : Str) (a : PySem.W.findIn K (.ref C) x = some none) : NoAttr K C x := a
end
theorem tabs_all {tabs : List (Addr × Addr)} {ts : List Addr} {h : Heap} (x : ∀ P ∈ ts, h.get? P = some (PySem.W.tabObj #[])) (e : ts = tabs.map (·.2) := by rfl) : ∀ q ∈ tabs, h.get? q.2 = some (PySem.W.tabObj #[]) := fun q hq => x _ (e ▸ List.mem_map_of_mem hq)
theorem tabs_code {tabs : List (Addr × Addr)} {K : PySem.W.Frag} {h : Heap} (X : K.In h) (e : (tabs.all fun q => PySem.W.codeHdIn K q.1 q.2) = true) : ∀ q ∈ tabs, PySem.W.CodeHd h q.1 q.2 := fun q hq => PySem.W.codeHd_of_K X (List.all_eq_true.mp e q hq)
theorem tabs_out {tabs : List (Addr × Addr)} {K : PySem.W.Frag} (e : (tabs.all fun q => (K.lookup q.2).isNone) = true) : ∀ q ∈ tabs, K.lookup q.2 = none := fun q hq => Option.isNone_iff_eq_none.mp (List.all_eq_true.mp e q hq)
end L2
namespace L2
open PySem PySem.Spec PyProof.Rows
section
variable {X : Cx}
end
/-- all but one object as it was -/
def But1 (p : Addr) (H H' : Hp) : Prop := ∀ q o, H q = some o → q ≠ p → H' q = some o
theorem But1.refl {p : Addr} {H : Hp} : But1 p H H := fun _ _ e _ => e
theorem But1.trans {p : Addr} {H H1 H2 : Hp} (a : But1 p H H1) (b : But1 p H1 H2) : But1 p H H2 := fun q o e n => b q o (a q o e n) n
theorem But1.of {p : Addr} {H H1 : Hp} (s : Same H H1) : But1 p H H1 := fun q o e _ => s q o e
theorem But1.put {p : Addr} {H : Hp} {o : HO} : But1 p H (upd H p o) := fun q u e n => by rw [upd_ne n]; exact e
theorem But1.same {p : Addr} {H0 H H1 : Hp} (s0 : Same H0 H) (hp : H0 p = none) (b : But1 p H H1) : Same H0 H1 := fun q o e => b q o (s0 q o e) (ne_of_none e hp)
theorem But1.new {p : Addr} {H H1 : Hp} (hp : H p = none) (b : But1 p H H1) : Same H H1 := fun q o e => b q o e (ne_of_none e hp)
end L2
namespace L2
open PySem PySem.Spec PyProof.Rows
/-! tuples that lie at places -/
def TupsAt (H : Hp) (ps : List Addr) (vss : List (List V)) : Prop := ps.length = vss.length ∧ ∀ (i : Nat) p vs, ps[i]? = some p → vss[i]? = some vs → H p = some (.tup vs)
theorem TupsAt.nil {H : Hp} : TupsAt H [] [] := ⟨rfl, fun i p vs h => by simp at h⟩
theorem TupsAt.same {H H' : Hp} {ps : List Addr} {vss : List (List V)} (h : TupsAt H ps vss) (s : Same H H') : TupsAt H' ps vss := ⟨h.1, fun i p e h1 h2 => s _ _ (h.2 i p e h1 h2)⟩
theorem TupsAt.off {H : Hp} {ps : List Addr} {vss : List (List V)} {a : Addr} {o u : HO} (h : TupsAt H ps vss) (ha : H a = some u) (hu : ∀ xs, u ≠ .tup xs) : TupsAt (upd H a o) ps vss := ⟨h.1, fun i p e h1 h2 => by
  have h3 := h.2 i p e h1 h2
  rw [upd_ne (ne_of h3 ha fun z => hu _ z.symm)]
  exact h3⟩
theorem TupsAt.snoc {H : Hp} {ps : List Addr} {vss : List (List V)} {p : Addr} {vs : List V} (h : TupsAt H ps vss) (hp : H p = some (.tup vs)) : TupsAt H (ps ++ [p]) (vss ++ [vs]) := by
  refine ⟨by simp [h.1], fun i q f h1 h2 => ?_⟩
  by_cases hi : i < ps.length
  · rw [List.getElem?_append_left hi] at h1
    rw [List.getElem?_append_left (by rw [← h.1]; exact hi)] at h2
    exact h.2 i q f h1 h2
  · rw [List.getElem?_append_right (by omega)] at h1
    rw [List.getElem?_append_right (by rw [← h.1]; omega)] at h2
    rw [h.1] at h1
    cases hz : i - vss.length with
    | zero =>
      rw [hz] at h1 h2
      simp at h1 h2
      subst h1 h2
      exact hp
    | succ n =>
      rw [hz] at h1
      simp at h1
theorem TupsAt.nth {H : Hp} {ps : List Addr} {vss : List (List V)} {i : Nat} {v : V} (h : TupsAt H ps vss) (hv : (ps.map V.ref)[i]? = some v) : ∃ p vs, ps[i]? = some p ∧ vss[i]? = some vs ∧ v = .ref p ∧ H p = some (.tup vs) := by
  rw [List.getElem?_map] at hv
  cases e : ps[i]? with
  | none => rw [e] at hv; cases hv
  | some p =>
    rw [e] at hv
    have hi : i < vss.length := by rw [← h.1]; exact (List.getElem?_eq_some_iff.mp e).1
    exact ⟨p, vss[i], rfl, List.getElem?_eq_getElem hi, (Option.some.inj hv).symm, h.2 i p _ e (List.getElem?_eq_getElem hi)⟩
/-- as data: each item of each tuple flat -/
def flatD : V → PyData
  | .bl b => .bool b
  | .int i => .int i
  | .str x => .str x
  | _ => .none
def flatU : V → Bool
  | .non => true
  | .bl _ => true
  | .int _ => true
  | .str _ => true
  | _ => false
theorem dp_flat {K : PySem.W.Frag} {H : Hp} : ∀ {v : V}, flatU v = true → Dp K H v (flatD v)
  | .non, _ => .non
  | .bl b, _ => .bl b
  | .int i, _ => .int i
  | .str x, _ => .str x
theorem dp_flats {K : PySem.W.Frag} {H : Hp} : ∀ {vs : List V}, vs.all flatU = true → DpAll K H vs (vs.map flatD)
  | [], _ => .nil
  | v :: vs, h => by
    rw [List.all_cons, Bool.and_eq_true] at h
    exact .cons (dp_flat h.1) (dp_flats h.2)
def tupD (vs : List V) : PyData := .tuple (vs.map flatD)
theorem TupsAt.dp {K : PySem.W.Frag} {H : Hp} : ∀ {ps : List Addr} {vss : List (List V)}, TupsAt H ps vss → (∀ vs ∈ vss, vs.all flatU = true) → DpAll K H (ps.map V.ref) (vss.map tupD)
  | [], [], _, _ => .nil
  | [], _ :: _, h, _ => by have := h.1; simp at this
  | _ :: _, [], h, _ => by have := h.1; simp at this
  | p :: ps, r :: rs, h, hf => .cons (.tup (.of (h.2 0 p r rfl rfl)) (dp_flats (hf r List.mem_cons_self))) (TupsAt.dp ⟨by have := h.1; simpa using this, fun i p' r' h1 h2 => h.2 (i + 1) p' r' (by simpa using h1) (by simpa using h2)⟩ fun vs hv => hf vs (List.mem_cons_of_mem _ hv))
theorem in_strs (zs : List Str) (x : Str) : inV (.str x) (zs.map V.str) = zs.contains x := by
  induction zs with
  | nil => rfl
  | cons z zs ih =>
    have e : inV (.str x) ((z :: zs).map V.str) = ((z == x) || inV (.str x) (zs.map V.str)) := rfl
    rw [e, ih, List.contains_cons]
    congr 1
    rw [Bool.eq_iff_iff]
    simp only [beq_iff_eq]
    exact ⟨Eq.symm, Eq.symm⟩
theorem flat_strs (zs : List Str) : (zs.map V.str).all flatV = true := by
  rw [List.all_eq_true]
  intro v hv
  obtain ⟨z, _, rfl⟩ := List.mem_map.mp hv
  rfl
end L2
namespace L2
open PySem PySem.Spec PyProof.Rows
/-- the continuation by a name -/
theorem nx_gen {t : TS} {D : Ends} {σ : St} {H : Hp} (h : ∀ nx : St → Hp → Prop, nx = D.nx → t { D with nx := nx } σ H) : t D σ H := h D.nx rfl
end L2
namespace L2
open PySem PySem.Spec PyProof.Rows
theorem strs_dp {K : PySem.W.Frag} {H : Hp} : ∀ ys : List Str, DpAll K H (ys.map V.str) (ys.map PyData.str)
  | [] => .nil
  | y :: ys => .cons (.str y) (strs_dp ys)
theorem strs_lay : ∀ {ys : List Str}, (∀ y ∈ ys, PyData.strOk y = true) → PyData.canLayAll0 (ys.map PyData.str) = true ∧ PyData.depthAll (ys.map PyData.str) = 0
  | [], _ => ⟨by simp [PyData.canLayAll0], by simp [PyData.depthAll]⟩
  | y :: ys, h => by
    obtain ⟨h1, h2⟩ := strs_lay fun z hz => h z (List.mem_cons_of_mem _ hz)
    simp [PyData.canLayAll0, PyData.canLay0, PyData.depthAll, PyData.depth, h1, h2, h y List.mem_cons_self]
theorem strs_shaped {ys : List Str} (h : ∀ y ∈ ys, PyData.strOk y = true) : SeqAt.shaped (.list (ys.map PyData.str)) = true := by
  obtain ⟨h1, h2⟩ := strs_lay h
  simp [SeqAt.shaped, PyData.canLay0, PyData.depth, h1, h2]
end L2
namespace L2
open PySem PySem.Spec PyProof.Rows PySem.W PySem.Calls PySem.Builtin PySem.Builtin.ObjectAttr PySem.Builtin.Getset_descriptor
/-! ### an exception that is looked at -/
section
variable {prog : Program} {w : World} {A : Around} {E : Value → Shared → Prop} {h : Heap} {g : Array GenState} {d : Drawn} {t : Nat} {os : OsState} {a C : Addr} {K : PySem.W.Frag}
/-- the object of an exception of the class at C -/
def ExcAt (a C : Addr) (h : Heap) : Prop := ∃ o, h.get? a = some o ∧ o.cls = .ref C ∧ notCls o = true ∧ ∃ vs, o.data = .fields vs ∧ vs[2]? = some .none
theorem ExcAt.type {M : Model} (I : ExcAt a C h) : Looks M h (typeOf (.ref a)) (.ref C) := by
  obtain ⟨o, e, c, _⟩ := I
  exact c ▸ (Looks.ld e).andThen .now
/-- what the text says of an exception's class for its __class__ -/
structure XCl (K : PySem.W.Frag) (C : Addr) : Prop where
  at_ : findIn K (.ref C) "__class__" = some (some (.builtin "object.__class__"))
  gs : specialIn K (.builtin "object.__class__") "__get__" = some (some (.builtin "getset_descriptor.__get__"))
  tk : takesIn K (.builtin "object.__class__") = some true
  ob : mroIn K C (.type "object") = some true
  sb : subIn K (.ref C) (.type "BaseException") = some true
  ga : findIn K (.ref C) "__getattribute__" = some (some (.builtin "BaseException.__getattribute__"))
  gt : findIn K (.ref C) "__getattr__" = some none
  cl : (clsIn K C).isSome = true
end
section
variable {X : Cx}
end
end L2
namespace L2
open PySem PySem.Spec PyProof.Rows
/-! ### try: .. except C as e: .. -/
theorem ObjOk.ex {P : Program} {w : World} {H : Hp} {h : Heap} {a : Addr} {o : HO} (x : ObjOk P w H h a o) : ∃ ob, h.get? a = some ob := by
  cases o with
  | lst xs => obtain ⟨_, _, _, _, e⟩ := x; exact ⟨_, e⟩
  | tup xs => obtain ⟨_, _, _, _, e, _⟩ := x; exact ⟨_, e⟩
  | dK kvs => obtain ⟨_, _, _, _, o, _, _, e, _⟩ := x; exact ⟨_, e⟩
  | dT kvs => obtain ⟨_, _, _, _, o, _, _, e, _⟩ := x; exact ⟨_, e⟩
  | set S n => obtain ⟨o, _, _, _, e, _⟩ := x; exact ⟨_, e⟩
  | ins C dx fs => obtain ⟨_, _, _, e, _⟩ := x; exact ⟨_, e⟩
  | own y => exact x
  | xd fs => obtain ⟨_, ⟨_, _, _, e, _⟩, _⟩ := x; exact ⟨_, e⟩
  | rng lo hi => obtain ⟨_, _, _, e⟩ := x; exact ⟨_, e⟩
  | frz ob u => exact ⟨_, x.1⟩
  | tbl ps => exact ⟨_, (show h.get? a = some _ from x)⟩
  | met f y => exact ⟨_, (show h.get? a = some _ from x)⟩
  | ext φ => exact x.2.1
section
variable {X : Cx} {pins : List (Addr × Obj)} {σ : St} {H H' : Hp} {s s' : Shared} {a C : Addr} {B h2 : Heap} {t : Value}
end
abbrev Cx.more (X : Cx) (pins : List (Addr × Obj)) : Cx := { X with pn := X.pn ++ pins }
abbrev suiteCx (X : Cx) (a : Addr) : Cx := { X with A := X.A.mark (some (.ref a)), calm := false, xe := fun _ _ => False }
section
variable {X : Cx} {pins ps : List (Addr × Obj)} {σ : St} {H : Hp} {s : Shared} {E : St → XK}
theorem Inv.more (I : Inv X pins σ H s) : Inv (X.more pins) [] σ H s :=
  ⟨⟨I.ok.mod, I.ok.kind, I.ok.glob, I.ok.blt, I.ok.above, I.ok.inj, I.ok.has, I.ok.cab, I.ok.hd, I.ok.frames, I.ok.stk, I.ok.exf, I.ok.bs, I.ok.bsz, I.ok.noex, I.ok.exfs, I.ok.funs, I.ok.frf⟩, I.os, I.bare, I.base, I.loc, I.cell, I.free, I.freeC, fun p hp => I.pin p (by simpa using hp), I.hok, I.len⟩
theorem Inv.suite (I : Inv X pins σ H s) (a : Addr) : Inv (suiteCx X a) pins σ H s :=
  ⟨⟨I.ok.mod, I.ok.kind, I.ok.glob, I.ok.blt, I.ok.above, I.ok.inj, I.ok.has, I.ok.cab, fun z => (nomatch z), I.ok.frames, I.ok.stk, I.ok.exf, I.ok.bs, I.ok.bsz, I.ok.noex, I.ok.exfs, I.ok.funs, I.ok.frf⟩, I.os, I.bare, I.base, I.loc, I.cell, I.free, I.freeC, I.pin, I.hok, I.len⟩
end
end L2
namespace L2
open PySem PySem.Spec PyProof.Rows
/-! ### defs that may raise, and their callers -/
def CalE (P : Program) (w : World) (K : PySem.W.Frag) (mg : Str → Option Value) (base : Heap) (k : Nat) (x : Str) (ps : List Str) (sp : Sp) : Prop :=
  ∃ f fd, FnOk P w K mg base (CX1 P w) k f fd ps sp ∧ mg x = some (.ref f) ∧ PySem.W.keepIn K (.ref f) = true ∧ Binds K fd ps []
section
variable {P : Program} {w : World} {K : PySem.W.Frag} {mg : Str → Option Value} {base : Heap}
theorem Cal.e {k : Nat} {x : Str} {ps : List Str} {sp : Sp} (C : Cal P w K mg base k x ps sp) : CalE P w K mg base k x ps sp := by
  obtain ⟨f, fd, F, m, kp, b, _⟩ := C
  exact ⟨f, fd, F.cx1, m, kp, b⟩
theorem CalE.mono {j k : Nat} {x : Str} {ps : List Str} {sp : Sp} (C : CalE P w K mg base j x ps sp) (h : j ≤ k) : CalE P w K mg base k x ps sp := by
  obtain ⟨f, fd, F, r⟩ := C
  exact ⟨f, fd, F.mono h, r⟩
theorem CalE.imp {k : Nat} {x : Str} {ps : List Str} {sp sp' : Sp} (C : CalE P w K mg base k x ps sp) (h : ∀ vs H Q E, sp' vs H Q E → sp vs H Q E) : CalE P w K mg base k x ps sp' := by
  obtain ⟨f, fd, F, r⟩ := C
  exact ⟨f, fd, F.imp h, r⟩
end
section
variable {P : Program} {w : World} {K : PySem.W.Frag} {mg : Str → Option Value} {base : Heap} {N : List Str} {qual : Str} {scope : Scope} {f : Addr} {cd : Value} {A : Around} {outer : List Env} {s₀ : Shared} {H₀ : Hp} {E : XK}
variable {k : Nat} {C : Addr} {x m : Str} {ps : List Str} {sp : Sp} {p pos apos : Pos} {o e : Expr} {es : List Expr} {ta : TE} {t : TA}
end
/-! ### calls in a try's body -/
section
variable {X : Cx} {pins : List (Addr × Obj)} {E : St → XK} {k : Nat} {C : Addr} {x m : Str} {ps : List Str} {sp : Sp} {p pos apos : Pos} {o e : Expr} {es : List Expr} {ta : TE} {t : TA}
end
/-! ### an exception made, not raised -/
end L2
namespace L2
open PySem PySem.Spec PyProof.Rows
/-! ### list(d), sorted(d) of a dict -/
theorem keyIs_rel {k : Key} {u : Value} (h : keyIs k u = true) : RelV (kV k) u := by
  rcases keyIs_shape h with ⟨i, t, rfl, rfl⟩ | ⟨x, t, rfl, rfl⟩
  · exact ⟨t, rfl⟩
  · exact ⟨t, rfl⟩
theorem vals_of_get : ∀ {vs : List V} {us : List Value}, us.length = vs.length → (∀ (j : Nat) (u : Value), us[j]? = some u → ∃ v, vs[j]? = some v ∧ RelV v u) → Vals vs us
  | [], [], _, _ => .nil
  | v :: r, u :: us, hl, h => by
    refine .cons ?_ (vals_of_get (by simpa using hl) fun j w e => ?_)
    · obtain ⟨v', e, r'⟩ := h 0 u rfl
      cases e; exact r'
    · obtain ⟨v', e', r'⟩ := h (j + 1) w (by simpa using e)
      exact ⟨v', by simpa using e', r'⟩
  | [], _ :: _, hl, _ => by simp at hl
  | _ :: _, [], hl, _ => by simp at hl
theorem kv_at : ∀ {kvs : List (Key × V)} {vs : List (Key × Value)}, KV kvs vs → ∀ (j : Nat) (k : Key) (x : Value), vs[j]? = some (k, x) → ∃ y, kvs[j]? = some (k, y) ∧ RelV y x
  | _, _, .nil, j, k, x, e => by simp at e
  | (k0, y0) :: _, (k1, x1) :: _, .cons h r, 0, k, x, e => by
    simp at e; obtain ⟨rfl, rfl⟩ := e
    obtain ⟨h1, h2⟩ := h
    cases (show k0 = k1 from h1)
    exact ⟨y0, rfl, h2⟩
  | _ :: _, _ :: _, .cons _ r, j + 1, k, x, e => by
    obtain ⟨y, e', r'⟩ := kv_at r j k x (by simpa using e)
    exact ⟨y, by simpa using e', r'⟩
theorem keys_vals {P : Program} {w : World} {kvs : List (Key × V)} {vs : List (Key × Value)} {acc : Array Value} (kv : KV kvs vs) (ha : ItemsOf (fun i v => ∃ k x, vs[i]? = some (k, x) ∧ (mixKind P w).is k v = true) acc vs.length) : Vals (kvs.map fun q => kV q.1) acc.toList := by
  have hl : kvs.length = vs.length := Paired.length kv
  refine vals_of_get (by rw [Array.length_toList, List.length_map, hl]; exact ha.1) fun j u e => ?_
  obtain ⟨k, x, e1, e2⟩ := ha.2 j u (by rw [← Array.getElem?_toList]; exact e)
  obtain ⟨y, e3, _⟩ := kv_at kv j k x e1
  exact ⟨kV k, by rw [List.getElem?_map, e3]; rfl, keyIs_rel e2⟩
section
variable {X : Cx}
def rListD : List V → Hp → VK → Prop := fun xs H Q => ∃ d kvs, xs = [.ref d] ∧ Rd H d (.dK kvs) ∧ ∀ l, H l = none → Q (.ref l) (upd H l (.lst (kvs.map fun q => kV q.1)))
/-- list(d): the keys, in their order -/
theorem call_listD (hc : X.calm = true) : CallR X (.type "list") rListD := by
  intro pins s σ H xs us Q I r h
  obtain ⟨d, kvs, rfl, hd, q⟩ := h
  rw [Vals.ref1 r]
  obtain ⟨hz, lo, vs, kv, hD⟩ := dk_rd I.hok hd
  obtain ⟨ep, hat⟩ := hD.dictAt
  have hl : kvs.length = vs.length := Paired.length kv
  refine PySem.W.kdl_call (PySem.W.kdl_dict (ep := ep) lo) (I.ok.hd hc) hat (by rw [← hl]; exact hz) fun h' tk acc c kp e ha => ?_
  exact ⟨.ref s.heap.objs.size, _, I.laid (t' := tk) kp (Nat.le_refl _) (show ObjOk X.prog X.w _ h' _ (.lst (kvs.map fun q => kV q.1)) from ⟨by rw [List.length_map]; exact hz, acc.toList, c, keys_vals kv ha, by rw [Array.toArray_toList]; exact e⟩), rfl, q _ (I.hok.fresh (Nat.le_refl _))⟩
/-- sorted(d): its keys, texts, in their order -/
def rSortedD : List V → Hp → VK → Prop := fun vs H Q => ∃ (a : Addr) (kvs : List (Key × V)) (xs : List Str), vs = [V.ref a] ∧ Rd H a (.dK kvs) ∧ (kvs.map fun q => kV q.1) = xs.map V.str ∧
  ∀ (ys : List Str) (p : Addr), ys.Perm xs → sortedS ys = true → H p = none → Q (.ref p) (upd H p (.lst (ys.map V.str)))
theorem cr_sortedD (hc : X.calm = true) : CallR X (.builtin "sorted") rSortedD := by
  intro pins s σ H vs us Q I r h
  obtain ⟨d, kvs, xs, rfl, hd, hk, q⟩ := h
  rw [Vals.ref1 r]
  obtain ⟨hz, lo, vs, kv, hD⟩ := dk_rd I.hok hd
  obtain ⟨ep, hat⟩ := hD.dictAt
  have hl : kvs.length = vs.length := Paired.length kv
  refine Calls.call_function_entry kind_sorted plain_sorted entry_sorted (args_sorted1 _) ?_
  unfold Builtin.«sorted»
  refine wpAny_bind (m := checkCount "sorted" 1 1 _) (wpAny_pure ?_)
  refine wpAny_bind (PySem.W.kdu_collect (A := X.A.in1) (PySem.W.kdl_dict (ep := ep) lo) (I.ok.hd hc) hat (by rw [← hl]; exact hz) fun h' tk acc kp ha => ?_)
  have rv := keys_vals kv ha
  rw [hk] at rv
  have hlen : acc.toList.length = kvs.length := by rw [Array.length_toList, hl]; exact ha.1
  refine wpAny_bind (wpAny_newList ?_ (by rw [hlen]; exact hz))
  have hoL : (h'.push (seqObj "list" acc.toList.toArray 0)).get? h'.objs.size = some (seqObj "list" acc.toList.toArray 0) := Heap.get?_push_size _ rfl
  show wpAny _ _ _ _ _ { s with heap := h'.push (seqObj "list" acc.toList.toArray 0), toks := tk }
  have hS := rv.strs
  refine wpAny_bind (wpAny_holding (wpAny_call_entry slot_list_sort ⟨_, hoL, rfl⟩ entry_list_sort (list_sort_treeKAny strKind_oneLt hoL hS.keysOf (fun v₁ v₂ rest e => keyKind_strs (by rw [← e]; exact hS)) (by rw [hlen]; exact hz) fun st' a1 a2 => ⟨_, rfl, ?_⟩) (args_list_sort _)))
  obtain ⟨ys, h1, h2, h3⟩ := sorted_out_str hS a1 a2
  have I' : Inv X pins σ H { s with heap := h', toks := tk } := I.kept kp
  obtain ⟨ep2, he'⟩ := PyProof.Rows.sortedHeap_at (vs := acc.toList) (out := (arrOf st').map (·.2)) hoL
  have hlen2 : (ys.map V.str).length ≤ sizeLine := by
    rw [List.length_map, h2.length_eq]
    have := rv.length
    rw [List.length_map, hlen] at this
    omega
  exact wpAny_pure ⟨_, rfl, .ref h'.objs.size, upd H h'.objs.size (.lst (ys.map V.str)),
    I'.laid (t' := tk) (fun b o e => by
      have hlt : b < h'.objs.size := Heap.lt_size e
      show (sortedHeap (h'.push (seqObj "list" acc.toList.toArray 0)) h'.objs.size acc.toList _).get? b = some o
      rw [sortedHeap_old (Nat.ne_of_lt hlt) (by rw [size_push']; exact Nat.lt_succ_of_lt hlt)]
      exact Heap.get?_push_of_some _ e) (Nat.le_refl _) ⟨hlen2, _, ep2, vals_of_strs h1, he'⟩, rfl, q ys _ h2 h3 (I'.hok.fresh (Nat.le_refl _))⟩
end
end L2
namespace L2
open PySem PySem.Spec PyProof.Rows
section
variable {prog : Program} {w : World} {A : Around} {E : Value → Shared → Prop} {s : Shared}
end
end L2
namespace L2
open PySem PySem.Spec PyProof.Rows
/-! ### defs that run while an exception is handled -/
structure TurnH (hx : Addr) (P : Program) (w : World) (K : PySem.W.Frag) (tg : Expr) (J : It) (fp : List Addr) (it : Addr) (tn : Nat → Heap → Prop) : Prop where
  mem : it ∈ fp
  obj : ∀ i h, tn i h → ∀ b ∈ fp, ∃ o, h.get? b = some o ∧ ∀ v, o.data ≠ .cell v
  keep : ∀ i h h', tn i h → (∀ b ∈ fp, ∀ o, h.get? b = some o → h'.get? b = some o) → tn i h'
  item : ∀ (X : Cx), X.prog = P → X.w = w → X.K = K → X.A.handled = some (.ref hx) → ∀ (i : Nat) (pins : List (Addr × Obj)) (s : Shared) (σ : St) (H : Hp) (E : Value → Shared → Prop), Inv X pins σ H s → (∀ b ∈ fp, FpOk X pins H b) → tn i s.heap → J.go i H →
    wpAny (model P w) X.A (pyNext (.ref it)) (fun r s1 => ∃ u, r = some u ∧
      wpAny (model P w) X.A (letOwnedTupleGo tg (.ref it) u) (fun _ s2 => ∃ x H', Inv X pins σ H' s2 ∧ RelV x u ∧ J.yld i H x H' ∧ tn (i + 1) s2.heap ∧ ∀ b ∈ fp, H' b = none) E s1) E s
  done : ∀ (X : Cx), X.prog = P → X.w = w → X.K = K → X.A.handled = some (.ref hx) → ∀ (i : Nat) (pins : List (Addr × Obj)) (s : Shared) (σ : St) (H : Hp) (E : Value → Shared → Prop), Inv X pins σ H s → (∀ b ∈ fp, FpOk X pins H b) → tn i s.heap → J.stop i H →
    wpAny (model P w) X.A (pyNext (.ref it)) (fun r s1 => r = none ∧ Inv X pins σ H s1) E s
  self : ∀ (A : Around) (i : Nat) (s : Shared) (Q : Value → Shared → Prop) (E : Value → Shared → Prop), tn i s.heap → Q (.ref it) s → wpAny (model P w) A (pyIter (.ref it)) Q E s
section
variable {X : Cx} {tg : Expr} {hx : Addr}
end
section
variable {X : Cx} {hx : Addr}
end
structure RoomH (hx : Addr) (k : Nat) (A : Around) : Prop where
  hd : A.handled = some (.ref hx)
  dp : A.depth + 3 * k + 5 < recursionLimit
  un : A.units + 16 * k + 200 < cLine
theorem RoomH.mono {hx : Addr} {j k : Nat} {A : Around} (r : RoomH hx k A) (h : j ≤ k) : RoomH hx j A := ⟨r.hd, by have := r.dp; omega, by have := r.un; omega⟩
theorem RoomH.deeper {hx : Addr} {k : Nat} {A : Around} (r : RoomH hx (k + 1) A) (env : Env) : RoomH hx k (A.deeper env) :=
  ⟨r.hd, by have := r.dp; show A.depth + 1 + 3 * k + 5 < _; omega, by have := r.un; show A.units + 3 + 16 * k + 200 < _; omega⟩
theorem RoomH.depth {hx : Addr} {k : Nat} {A : Around} (r : RoomH hx k A) : A.depth < recursionLimit := by have := r.dp; omega
theorem Room.suite {k : Nat} {X : Cx} (r : Room k X.A) (a : Addr) : RoomH a k (suiteCx X a).A := ⟨rfl, r.dp, r.un⟩
structure FnOkH (hx : Addr) (P : Program) (w : World) (K : PySem.W.Frag) (mg : Str → Option Value) (base : Heap) (CX : CXT) (k : Nat) (f : Addr) (fd : FuncData) (ps : List Str) (sp : Sp) : Prop where
  len : ∀ vs H Q E, sp vs H Q E → vs.length = ps.length
  run : ∀ (A : Around) (outer : List Env) (s : Shared) (H : Hp) (args : Args) (us : List Value) (vs : List V) (Q : VK) (E : XK), RoomH hx k A → Env0 P w K mg base A outer s H → BindsTo s fd args (ps.zip us) → Vals vs us → sp vs H Q E →
    codeAny (model P w) A (.call (.ref f) args) (CR CX outer P w H s Q E) s
section
variable {P : Program} {w : World} {K : PySem.W.Frag} {mg : Str → Option Value} {base : Heap} {hx : Addr}
end
section
variable {X : Cx} {CX : CXT} {k : Nat} {f C hx : Addr} {fd : FuncData} {ps : List Str} {sp : Sp} {dvs : List V} {ds : List Value} {E : XK} {x m : Str} {p pos apos : Pos} {e o : Expr} {es : List Expr} {ta : TE} {t : TA}
end
end L2
namespace L2
open PySem PySem.Spec PyProof.Rows
/-! ### i in range(lo, hi) -/
section
variable {X : Cx}
/-! ### max and min of a tuple of ints -/
end
section
variable {prog : Program} {w : World} {A : Around} {E : Value → Shared → Prop} {s : Shared} {l : Addr} {its : List Value} {ns : List Int} {Q : Value → Shared → Prop}
end
section
variable {X : Cx}
/-! ### t + u of any two tuples -/
/-! ### t[::-1] of three -/
end
end L2
namespace L2
open PySem PySem.Spec PyProof.Rows
/-! ### d.setdefault(y, z) -/
def tSetDef (td ty tx : TE) : TE := fun σ H Q => td σ H fun x H1 => ∃ a, x = .ref a ∧ IsD H1 a ∧ ty σ H1 fun y H2 => tx σ H2 fun z H3 => ∃ kvs k, H3 a = some (.dK kvs) ∧ y = kV k ∧ kvs.length < sizeLine ∧
  (∀ v, valV kvs k = some v → Q v H3) ∧ (valV kvs k = none → Q z (upd H3 a (.dK (putK kvs k z))))
/-- the same, folded -/
def SDef (H3 : Hp) (a : Addr) (y z : V) (Q : VK) : Prop := ∃ kvs k, H3 a = some (.dK kvs) ∧ y = kV k ∧ kvs.length < sizeLine ∧ (∀ v, valV kvs k = some v → Q v H3) ∧ (valV kvs k = none → Q z (upd H3 a (.dK (putK kvs k z))))
theorem ap_tSetDefF (td ty tx : TE) : ∀ σ H Q, tSetDef td ty tx σ H Q = (td σ H fun x H1 => ∃ a, x = .ref a ∧ IsD H1 a ∧ ty σ H1 fun y H2 => tx σ H2 fun z H3 => SDef H3 a y z Q) := fun _ _ _ => rfl
section
variable {X : Cx} {o e f : Expr} {apos cpos : Pos} {td ty tx : TE}
end
/-! ### tuple(e) in a block -/
section
variable {X : Cx}
def rTupOf (K : PySem.W.Frag) : List V → Hp → VK → Prop := fun xs H Q => ∃ p ys, xs = [.ref p] ∧ ((SqL K H p ys ∧ ∀ l, H l = none → Q (.ref l) (upd H l (.tup ys))) ∨ (SqT K H p ys ∧ Q (.ref p) H))
theorem ap_rTupOf (K : PySem.W.Frag) : ∀ xs H Q, rTupOf K xs H Q = (∃ p ys, xs = [.ref p] ∧ ((SqL K H p ys ∧ ∀ l, H l = none → Q (.ref l) (upd H l (.tup ys))) ∨ (SqT K H p ys ∧ Q (.ref p) H))) := fun _ _ _ => rfl
theorem call_tupleK : CallR X (.type "tuple") (rTupOf X.K) := call_tuple_of
def rLenOf (K : PySem.W.Frag) : List V → Hp → VK → Prop := fun xs H Q => ∃ p ys, xs = [.ref p] ∧ (SqL K H p ys ∨ SqT K H p ys) ∧ Q (.int ys.length) H
theorem ap_rLenOf (K : PySem.W.Frag) : ∀ xs H Q, rLenOf K xs H Q = (∃ p ys, xs = [.ref p] ∧ (SqL K H p ys ∨ SqT K H p ys) ∧ Q (.int ys.length) H) := fun _ _ _ => rfl
theorem pe_fldK {K : PySem.W.Frag} {o : Expr} {f : Str} {pos : Pos} {ta : TE} (hK : X.K = K) (ho : PE X o ta) (hb : attributeBase o f X.env (eval o X.env) = eval o X.env) : PE X (.Attribute o f pos) (tFld K ta f) := by subst hK; exact pe_fld ho hb
end
/-! ### d != {} -/
section
variable {X : Cx}
def rNeE : R2 := fun x y H Q => ∃ a b ka, x = .ref a ∧ y = .ref b ∧ Rd H a (.dK ka) ∧ Rd H b (.dK []) ∧ Q (.bl (!ka.isEmpty)) H
theorem ap_rNeE : ∀ x y H Q, rNeE x y H Q = (∃ a b ka, x = .ref a ∧ y = .ref b ∧ Rd H a (.dK ka) ∧ Rd H b (.dK []) ∧ Q (.bl (!ka.isEmpty)) H) := fun _ _ _ _ => rfl
/-! ### max(d): one of its keys (texts) -/
def rMaxD : List V → Hp → VK → Prop := fun xs H Q => ∃ (d : Addr) (kvs : List (Key × V)) (ks : List Str), xs = [.ref d] ∧ Rd H d (.dK kvs) ∧ kvs.map (fun q => q.1) = ks.map Sum.inr ∧ 0 < kvs.length ∧ ∀ k ∈ ks, Q (.str k) H
theorem ap_rMaxD : ∀ xs H Q, rMaxD xs H Q = (∃ (d : Addr) (kvs : List (Key × V)) (ks : List Str), xs = [.ref d] ∧ Rd H d (.dK kvs) ∧ kvs.map (fun q => q.1) = ks.map Sum.inr ∧ 0 < kvs.length ∧ ∀ k ∈ ks, Q (.str k) H) := fun _ _ _ => rfl
/-! ### sorted(d.keys()) -/
def tSortedK (td : TE) : TE := fun σ H Q => td σ H fun x H1 => ∃ (d : Addr) (kvs : List (Key × V)) (xs : List Str), x = .ref d ∧ Rd H1 d (.dK kvs) ∧ (kvs.map fun q => kV q.1) = xs.map V.str ∧
  ∀ (ys : List Str) (p : Addr), ys.Perm xs → sortedS ys = true → H1 p = none → Q (.ref p) (upd H1 p (.lst (ys.map V.str)))
theorem ap_tSortedK (td : TE) : ∀ σ H Q, tSortedK td σ H Q = (td σ H fun x H1 => ∃ (d : Addr) (kvs : List (Key × V)) (xs : List Str), x = .ref d ∧ Rd H1 d (.dK kvs) ∧ (kvs.map fun q => kV q.1) = xs.map V.str ∧
  ∀ (ys : List Str) (p : Addr), ys.Perm xs → sortedS ys = true → H1 p = none → Q (.ref p) (upd H1 p (.lst (ys.map V.str)))) := fun _ _ _ => rfl
theorem ap_rSortedD : ∀ vs H Q, rSortedD vs H Q = (∃ (a : Addr) (kvs : List (Key × V)) (xs : List Str), vs = [V.ref a] ∧ Rd H a (.dK kvs) ∧ (kvs.map fun q => kV q.1) = xs.map V.str ∧
  ∀ (ys : List Str) (p : Addr), ys.Perm xs → sortedS ys = true → H p = none → Q (.ref p) (upd H p (.lst (ys.map V.str)))) := fun _ _ _ => rfl
/-! ### a dict that a call made, walked: locked from here on -/
def iItemsL (td : TE) : TI := fun σ H R => td σ H fun x H1 => ∃ d kvs, x = .ref d ∧ H1 d = some (.dK kvs) ∧ ∀ o, R (Iti d o kvs) (upd H1 d (.frz o (.dK kvs)))
theorem ap_iItemsL (td : TE) : ∀ σ H R, iItemsL td σ H R = (td σ H fun x H1 => ∃ d kvs, x = .ref d ∧ H1 d = some (.dK kvs) ∧ ∀ o, R (Iti d o kvs) (upd H1 d (.frz o (.dK kvs)))) := fun _ _ _ => rfl
def tLockV (t : TE) : TE := fun σ H Q => t σ H fun x H1 => ∃ d kvs, x = .ref d ∧ H1 d = some (.dK kvs) ∧ ∀ o, Q (.ref d) (upd H1 d (.frz o (.dK kvs)))
theorem ap_tLockV (t : TE) : ∀ σ H Q, tLockV t σ H Q = (t σ H fun x H1 => ∃ d kvs, x = .ref d ∧ H1 d = some (.dK kvs) ∧ ∀ o, Q (.ref d) (upd H1 d (.frz o (.dK kvs)))) := fun _ _ _ => rfl
/-- the dict that the expression gives is locked for good -/
theorem pe_lockV {e : Expr} {t : TE} (h : PE X e t) : PE X e (tLockV t) := by
  intro pins s σ H Q I hw
  refine thn (h pins s σ H _ I hw) fun v s1 ⟨x, H1, I1, r, d, kvs, ex, hd, q⟩ => ?_
  subst ex
  obtain ⟨od, I2⟩ := I1.lock hd trivial
  exact ⟨.ref d, _, I2, r, q od⟩
/-! ### loops over a locked dict -/
end
section
variable {d : Addr} {o : Obj} {kvs : List (Key × V)} {g : TG} {tb : TS} {D : Ends} {σ : St} {H : Hp}
theorem forB_keys (Pv : Nat → St → Hp → Prop) (h0 : Pv 0 σ H) (hl : ∀ i σ H, i ≤ kvs.length → Pv i σ H → H d = some (.frz o (.dK kvs)))
    (hs : ∀ i k v σ H, kvs[i]? = some (k, v) → Pv i σ H → g (kV k) σ H fun σ2 H2 => tb { D with nx := Pv (i + 1), ct := Pv (i + 1), bk := D.nx } σ2 H2) (hd : ∀ σ H, Pv kvs.length σ H → D.nx σ H) : ForB (Itk d o kvs) g tb D σ H := by
  refine ⟨fun i m σ H => m = kvs.length - i ∧ i ≤ kvs.length ∧ Pv i σ H, ⟨kvs.length, by simp, Nat.zero_le _, h0⟩, ?_⟩
  rintro i m σ H ⟨rfl, hi, p⟩
  have q := hl i σ H hi p
  by_cases hlt : i < kvs.length
  · refine .inr ⟨⟨q, hlt⟩, Pv (i + 1), fun σ' H' p' => ⟨kvs.length - (i + 1), by omega, rfl, hlt, p'⟩, fun x H' y => ?_⟩
    obtain ⟨rfl, k, v, e, rfl⟩ := y
    exact hs i k v σ _ e p
  · have e : i = kvs.length := by omega
    subst e
    exact .inl ⟨⟨q, Nat.le_refl _⟩, hd σ H p⟩
theorem forB_items (Pv : Nat → St → Hp → Prop) (h0 : Pv 0 σ H) (hl : ∀ i σ H, i ≤ kvs.length → Pv i σ H → H d = some (.frz o (.dK kvs)))
    (hs : ∀ i k v σ H T, kvs[i]? = some (k, v) → Pv i σ H → H T = none → g (.ref T) σ (upd H T (.tup [kV k, v])) fun σ2 H2 => tb { D with nx := Pv (i + 1), ct := Pv (i + 1), bk := D.nx } σ2 H2) (hd : ∀ σ H, Pv kvs.length σ H → D.nx σ H) : ForB (Iti d o kvs) g tb D σ H := by
  refine ⟨fun i m σ H => m = kvs.length - i ∧ i ≤ kvs.length ∧ Pv i σ H, ⟨kvs.length, by simp, Nat.zero_le _, h0⟩, ?_⟩
  rintro i m σ H ⟨rfl, hi, p⟩
  have q := hl i σ H hi p
  by_cases hlt : i < kvs.length
  · refine .inr ⟨⟨q, hlt⟩, Pv (i + 1), fun σ' H' p' => ⟨kvs.length - (i + 1), by omega, rfl, hlt, p'⟩, fun x H' y => ?_⟩
    obtain ⟨T, k, v, e, rfl, hT, rfl⟩ := y
    exact hs i k v σ _ T e p hT
  · have e : i = kvs.length := by omega
    subst e
    exact .inl ⟨⟨q, Nat.le_refl _⟩, hd σ H p⟩
theorem dcM_keys {tk te : TE} {vs : List Nat} {H1 : Hp} {Dd : Addr} {Qd : Hp → Prop} (hD : H1 Dd = none) (ha : H1 d = some (.frz o (.dK kvs))) (Pv : Nat → List (Key × V) → Hp → Prop) (h0 : Pv 0 [] (upd H1 Dd (.dK [])))
    (hs : ∀ i k v acc H, kvs[i]? = some (k, v) → DcI H1 Dd (Pv i) acc H → g (kV k) (wipe σ vs) H fun σ2 H2 => wipe σ2 vs = wipe σ vs ∧ tk σ2 H2 fun kv H4 => te σ2 H4 fun y H5 => DcNext H1 Dd Pv i kv y H5)
    (hd : ∀ acc H, DcI H1 Dd (Pv kvs.length) acc H → Qd H) : DcB (Itk d o kvs) g tYes tk te vs σ H1 Dd Qd := by
  refine ⟨fun i m H => m = kvs.length - i ∧ i ≤ kvs.length ∧ ∃ acc, DcI H1 Dd (Pv i) acc H, ⟨kvs.length, by simp, Nat.zero_le _, [], upd_same, Same.new hD, h0⟩, ?_⟩
  rintro i m H ⟨rfl, hi, acc, I⟩
  have q := I.same _ _ ha
  by_cases hlt : i < kvs.length
  · refine .inr ⟨⟨q, hlt⟩, fun H => ∃ acc, DcI H1 Dd (Pv (i + 1)) acc H, fun H' p' => ⟨kvs.length - (i + 1), by omega, rfl, hlt, p'⟩, fun x H' y => ?_⟩
    obtain ⟨rfl, k, v, e, rfl⟩ := y
    exact hs i k v acc _ e I
  · have e : i = kvs.length := by omega
    subst e
    exact .inl ⟨⟨q, Nat.le_refl _⟩, hd acc H I⟩
end
end L2
namespace L2
open PySem PySem.Spec PyProof.Rows
section
variable {X : Cx}
/-! ### list(e) in a block -/
def rListOf (K : PySem.W.Frag) : List V → Hp → VK → Prop := fun xs H Q => ∃ p ys, xs = [.ref p] ∧ (SqL K H p ys ∨ SqT K H p ys) ∧ ∀ l, H l = none → Q (.ref l) (upd H l (.lst ys))
theorem ap_rListOf (K : PySem.W.Frag) : ∀ xs H Q, rListOf K xs H Q = (∃ p ys, xs = [.ref p] ∧ (SqL K H p ys ∨ SqT K H p ys) ∧ ∀ l, H l = none → Q (.ref l) (upd H l (.lst ys))) := fun _ _ _ => rfl
end
section
variable {d : Addr} {o : Obj} {kvs : List (Key × V)} {g : TG} {σ : St} {te : TE} {vs : List Nat} {H1 : Hp} {Dl : Addr} {Qd : Hp → Prop}
end
end L2
namespace L2
open PySem PySem.Spec PyProof.Rows
section
variable {X : Cx}
/-! ### sum(d.values()) -/
end
end L2
namespace L2
open PySem PySem.Spec PyProof.Rows
section
variable {X : Cx}
/-! ### dict(d) -/
def rDictOf : List V → Hp → VK → Prop := fun xs H Q => ∃ d kvs, xs = [.ref d] ∧ Rd H d (.dK kvs) ∧ ∀ p, H p = none → Q (.ref p) (upd H p (.dK kvs))
theorem ap_rDictOf : ∀ xs H Q, rDictOf xs H Q = (∃ d kvs, xs = [.ref d] ∧ Rd H d (.dK kvs) ∧ ∀ p, H p = none → Q (.ref p) (upd H p (.dK kvs))) := fun _ _ _ => rfl
theorem call_dictD : CallR X (.type "dict") rDictOf := by
  intro pins s σ H xs us Q I r h
  obtain ⟨d, kvs, rfl, hd, q⟩ := h
  rw [Vals.ref1 r]
  obtain ⟨hz, lo, vs, kv, hD⟩ := dk_rd I.hok hd
  have hl : kvs.length = vs.length := Paired.length kv
  refine kt_call_dict lo hD (by rw [← hl]; exact hz) fun h' hm hs => ?_
  have hk : ∀ b o, s.heap.get? b = some o → h'.get? b = some o := fun b o e => (hs.2 b (Nat.ne_of_lt (Heap.lt_size e))).trans (Heap.get?_push_of_some _ e)
  refine ⟨.ref s.heap.objs.size, _, I.laid (t' := s.toks) hk (Nat.le_refl _) (dk_new hz ?_ kv hm), rfl, q _ (I.hok.fresh (Nat.le_refl _))⟩
  have hb := I.big
  exact beq_eq_false_iff_ne.mpr fun z => absurd (z ▸ hb) (Nat.lt_irrefl _)
/-! ### d == e, d != e: dicts that hold the same -/
def SameDs (K : PySem.W.Frag) (H : Hp) (ka kb : List (Key × V)) : Prop := ∃ dt : Key → PyData, ka.length = kb.length ∧ (∀ q ∈ ka, Dp K H q.2 (dt q.1) ∧ SeqAt.shaped (dt q.1) = true ∧ ∃ y, valV kb q.1 = some y ∧ Dp K H y (dt q.1))
theorem hits_all {A : Around} {s : Shared} {kb : List (Key × Value)} : ∀ {ka : List (Key × Value)}, (∀ q ∈ ka, ∃ y, valueAt kb q.1 = some y ∧ SeqAt.EqAt A s q.2 y true) → PySem.W.KeqHits A s kb ka true
  | [], _ => .nil
  | (k, v) :: r, h => by
    obtain ⟨y, h1, h2⟩ := h (k, v) (.head _)
    exact .hit (e := true) (b := true) h1 h2 (hits_all fun q hq => h q (List.mem_cons_of_mem _ hq))
theorem Room.u80 {k : Nat} {A : Around} (r : Room k A) : A.units + 80 < cLine := by have := r.un; omega
theorem sameDs_hits {pins : List (Addr × Obj)} {σ : St} {H : Hp} {s : Shared} {ka kb : List (Key × V)} {va vb : List (Key × Value)} (hu : X.A.units + 80 < cLine) (I : Inv X pins σ H s) (ra : KV ka va) (rb : KV kb vb) (h : SameDs X.K H ka kb) : PySem.W.KeqHits X.A.in1 s vb va true := by
  obtain ⟨dt, hl, hq⟩ := h
  refine hits_all fun q hqm => ?_
  obtain ⟨j, hj⟩ := List.mem_iff_getElem?.mp hqm
  obtain ⟨k, v⟩ := q
  obtain ⟨y, e1, r1⟩ := kv_at ra j k v hj
  obtain ⟨d1, sh, z, hz, d2⟩ := hq _ (List.mem_of_getElem? e1)
  have r2 := rb.val k
  rw [hz] at r2
  cases e : valueAt vb k with
  | none => rw [e] at r2; exact r2.elim
  | some u =>
    rw [e] at r2
    obtain ⟨as, q1⟩ := Dp.reads I _ _ _ d1 r1
    obtain ⟨bs, q2⟩ := Dp.reads I _ _ _ d2 r2
    refine ⟨u, rfl, ?_⟩
    have := PySem.W.keq_at (A := X.A) q1 q2 sh sh (by show X.A.units + 1 + 64 < cLine; omega)
    rw [SeqAt.eqv_refl _ (SeqAt.canLay_of_shaped sh)] at this
    exact this
def rNeDs (K : PySem.W.Frag) : R2 := fun x y H Q => ∃ a b ka kb, x = .ref a ∧ y = .ref b ∧ Rd H a (.dK ka) ∧ Rd H b (.dK kb) ∧ SameDs K H ka kb ∧ Q (.bl false) H
theorem ap_rNeDs (K : PySem.W.Frag) : ∀ x y H Q, rNeDs K x y H Q = (∃ a b ka kb, x = .ref a ∧ y = .ref b ∧ Rd H a (.dK ka) ∧ Rd H b (.dK kb) ∧ SameDs K H ka kb ∧ Q (.bl false) H) := fun _ _ _ _ => rfl
theorem op_neDs (hu : X.A.units + 80 < cLine) : OpR X (compareOp .NotEq) (rNeDs X.K) := by
  intro pins s σ H x y v u Q I rx ry h
  obtain ⟨a, b, ka, kb, rfl, rfl, ha, hb, hs, q⟩ := h
  cases rx
  cases ry
  obtain ⟨z, hd, vs, rel, dd⟩ := dk_rd I.hok ha
  obtain ⟨z2, hd2, vs2, rel2, dd2⟩ := dk_rd I.hok hb
  have l1 := rel.length
  have l2 := rel2.length
  have hl := hs.choose_spec.1
  refine PySem.W.keq_ne (r := true) hd hd2 dd dd2 (by omega) (fun _ => sameDs_hits hu I rel rel2 hs) ?_
  refine ⟨.bl _, H, I, rfl, ?_⟩
  have : (!(vs.length == vs2.length && true)) = false := by rw [← l1, ← l2, hl]; simp
  rw [this]
  exact q
def rEqDs (K : PySem.W.Frag) : R2 := fun x y H Q => ∃ a b ka kb, x = .ref a ∧ y = .ref b ∧ Rd H a (.dK ka) ∧ Rd H b (.dK kb) ∧ SameDs K H ka kb ∧ Q (.bl true) H
theorem ap_rEqDs (K : PySem.W.Frag) : ∀ x y H Q, rEqDs K x y H Q = (∃ a b ka kb, x = .ref a ∧ y = .ref b ∧ Rd H a (.dK ka) ∧ Rd H b (.dK kb) ∧ SameDs K H ka kb ∧ Q (.bl true) H) := fun _ _ _ _ => rfl
theorem ap_rListD : ∀ xs H Q, rListD xs H Q = (∃ d kvs, xs = [.ref d] ∧ Rd H d (.dK kvs) ∧ ∀ l, H l = none → Q (.ref l) (upd H l (.lst (kvs.map fun q => kV q.1)))) := fun _ _ _ => rfl
end
end L2
namespace L2
open PySem PySem.Spec PyProof.Rows
section
variable {X : Cx}
/-! ### isinstance(o, C): o an object of the own class C -/
structure InsOk (K : PySem.W.Frag) (C : Addr) : Prop where
  ha : PySem.W.findIn K (.ref C) "__class__" = some (some (.builtin "object.__class__"))
  hn : PySem.W.specialIn K (.builtin "object.__class__") "__get__" = some (some (.builtin "getset_descriptor.__get__"))
  htk : PySem.W.takesIn K (.builtin "object.__class__") = some true
  hm : PySem.W.mroIn K C (.type "object") = some true
def rIsO (K : PySem.W.Frag) : List V → Hp → VK → Prop := fun xs H Q => ∃ a C dx fs, xs = [.ref a, .ref C] ∧ H a = some (.ins C dx fs) ∧ Cls K C ∧ InsOk K C ∧ Q (.bl true) H
theorem ap_rIsO (K : PySem.W.Frag) : ∀ xs H Q, rIsO K xs H Q = (∃ a C dx fs, xs = [.ref a, .ref C] ∧ H a = some (.ins C dx fs) ∧ Cls K C ∧ InsOk K C ∧ Q (.bl true) H) := fun _ _ _ => rfl
theorem call_isO : CallR X (.builtin "isinstance") (rIsO X.K) := by
  intro pins s σ H xs us Q I r h
  obtain ⟨a, C, dx, fs, rfl, ha, cl, ok, q⟩ := h
  obtain ⟨u, w', rfl, ru, rw'⟩ := vals2 r
  obtain rfl : w' = Value.ref C := rw'
  have e : PySem.W.kitOne X.K (.ref C) (.ref C) = some true := by unfold PySem.W.kitOne; rw [if_pos (by simp)]
  exact isinst_ok I ru (.ins ha cl ok.ha ok.hn ok.htk ok.hm) e fun tk => ⟨.bl true, H, I.tok _, rfl, q⟩
end
end L2
namespace L2
open PySem PySem.Spec PyProof.Rows PySem.SeqAt PySem.Calls
open AutoSeq1 (wpAny_loadPart')
/-! ### a text beside a dict -/
section
variable {K : Type} [DecidableEq K] {A : Around} {s : Shared}
end
section
variable {X : Cx}
end
end L2
set_option maxHeartbeats 4000000
namespace PySem
open PyProof.Rows L2
/-! ### sorted(set(..)) of texts -/
section
variable {prog : Program} {w : World} {A : Around} {E : Value → Shared → Prop} {s : Shared}
theorem any_choose {src : Source} {n : Nat} {Q : Nat → Shared → Prop} (hn : n ≠ 0) (h : ∀ i, i < n → Q i { s with drawn := s.drawn.bump src }) : wpAny (model prog w) A (choose src n) Q E s := fun Γ p _ => by
  unfold choose
  rw [Sem.wp_choose]
  exact ⟨hn, h _ (Nat.mod_lt _ (Nat.pos_of_ne_zero hn))⟩
theorem perm_erase {α : Type} : ∀ {l : List α} {i : Nat} {x : α}, l[i]? = some x → (x :: l.eraseIdx i).Perm l
  | [], _, _, h => by simp at h
  | y :: r, 0, x, h => by simp at h; subst h; exact List.Perm.refl _
  | y :: r, i + 1, x, h => by
    simp at h
    have := perm_erase (l := r) (i := i) (x := x) (by simpa using h)
    exact (List.Perm.swap y x _).trans (List.Perm.cons y this)
theorem draw_perm {α : Type} : ∀ {n : Nat} {xs : List α} {s : Shared} {Q : List α → Shared → Prop}, n = xs.length → (∀ ys d, ys.Perm xs → Q ys { s with drawn := d }) → wpAny (model prog w) A (drawOrder n xs) Q E s
  | 0, xs, s, Q, hn, h => by
    obtain rfl : xs = [] := List.length_eq_zero_iff.mp hn.symm
    unfold drawOrder
    exact wpAny_pure (h [] s.drawn (List.Perm.refl _))
  | n + 1, [], s, Q, hn, h => by cases hn
  | n + 1, x :: r, s, Q, hn, h => by
    unfold drawOrder
    refine wpAny_bind (any_choose (by simp) fun i hi => ?_)
    have e : (x :: r)[i]? = some ((x :: r)[i]) := List.getElem?_eq_getElem hi
    rw [e]
    refine wpAny_bind (draw_perm (by have := perm_erase e; have := this.length_eq; simp at this hn ⊢; omega) fun ys d hp => wpAny_pure (h _ d ((List.Perm.cons _ hp).trans (perm_erase e))))
theorem pick_go {α : Type} {next : Nat → Nat} : ∀ {n k : Nat} {l : List α} {out : Array α}, n = l.length → (pickOrder.go next n k l out).toList.Perm (out.toList ++ l)
  | 0, k, l, out, hn => by
    obtain rfl : l = [] := List.length_eq_zero_iff.mp hn.symm
    unfold pickOrder.go
    simp
  | n + 1, k, l, out, hn => by
    unfold pickOrder.go
    have hi : next k % l.length < l.length := Nat.mod_lt _ (by omega)
    have e : l[next k % l.length]? = some (l[next k % l.length]) := List.getElem?_eq_getElem hi
    rw [e]
    dsimp only
    have hp := perm_erase e
    refine (pick_go (n := n) (by have := hp.length_eq; simp at this; omega)).trans ?_
    rw [Array.toList_push, List.append_assoc]
    exact List.Perm.append_left _ hp
theorem pick_perm {α : Type} (next : Nat → Nat) (xs : Array α) : (pickOrder next xs).toList.Perm xs.toList := by
  unfold pickOrder
  simpa using pick_go (next := next) (n := xs.size) (k := 0) (l := xs.toList) (out := #[]) (by simp)
theorem any_byText {Q : Bool → Shared → Prop} (h : Q (ByT w) s) : wpAny (model prog w) A setsByText Q E s := by
  unfold setsByText
  exact wpAny_bind (wpAny_askSetting (wpAny_pure h))
theorem slot_setit_next : Slot "set_iterator" "__next__" "set_iterator.__next__" :=
  .of (owner := "set_iterator") (n := "__next__") (by rw [typeLookup_type, builtinLookup_eq_fast]; kernel_rfl) (by decide +kernel) (by decide +kernel) (by decide +kernel)
    (by first | exact .inl (by decide +kernel) | exact .inr (by decide +kernel)) (by rw [isSubtype_type]; kernel_rfl)
theorem entry_setit_next : entryFor table "set_iterator.__next__" = some Builtin.«set_iterator.__next__» := entryFor_of_tree (by kernel_rfl)
theorem owner_setit : Manifest.owners.lookup (String.ofList ['r', 'o', 't', 'a', 'r', 'e', 't', 'i', '_', 't', 'e', 's'].reverse) = some Manifest.sig_set_iterator := by kernel_rfl
theorem args_setit_next (a : Value) : argsOk "set_iterator.__next__" ⟨[a], []⟩ := by
  unfold argsOk; rw [signature?_of (id := "set_iterator.__next__") (n := ['_', '_', 't', 'x', 'e', 'n', '_', '_']) (o := ['r', 'o', 't', 'a', 'r', 'e', 't', 'i', '_', 't', 'e', 's']) (by kernel_rfl) owner_setit]; kernel_rfl
theorem entry_set_iter : entryFor table "set.__iter__" = some Builtin.«frozenset.__iter__» := entryFor_alias (id' := "frozenset.__iter__") (by kernel_rfl) rfl (by decide +kernel) (by kernel_rfl)
theorem slot_setit_iter : Slot "set_iterator" "__iter__" "set_iterator.__iter__" :=
  .of (owner := "set_iterator") (n := "__iter__") (by rw [typeLookup_type, builtinLookup_eq_fast]; kernel_rfl) (by decide +kernel) (by decide +kernel) (by decide +kernel)
    (by first | exact .inl (by decide +kernel) | exact .inr (by decide +kernel)) (by rw [isSubtype_type]; kernel_rfl)
theorem entry_setit_iter : entryFor table "set_iterator.__iter__" = some Builtin.«dict_keyiterator.__iter__» := entryFor_alias (id' := "dict_keyiterator.__iter__") (by kernel_rfl) rfl (by decide +kernel) (by kernel_rfl)
theorem args_setit_iter (a : Value) : argsOk "set_iterator.__iter__" ⟨[a], []⟩ := by
  unfold argsOk; rw [signature?_of (id := "set_iterator.__iter__") (n := ['_', '_', 'r', 'e', 't', 'i', '_', '_']) (o := ['r', 'o', 't', 'a', 'r', 'e', 't', 'i', '_', 't', 'e', 's']) (by kernel_rfl) owner_setit]; kernel_rfl
/-! the iterator of a set, and its turns -/
def ItS (h : Heap) (I S : Addr) (first : Value) (i n ep : Nat) : Prop := ∃ o, h.get? I = some o ∧ o.cls = .type "set_iterator" ∧ o.data = .fields #[first, .int i 0, .ref S, .int n 0, .int ep 0]
def SAt (h : Heap) (S : Addr) (es : Array (Int × Value)) (ep : Nat) (t : SetTable) : Prop := ∃ o, h.get? S = some o ∧ o.data = .set es ep t ∧ t.fits es.size = true
theorem ItS.typeIs {I S : Addr} {first : Value} {i n ep : Nat} (x : ItS s.heap I S first i n ep) : s.TypeIs (.ref I) "set_iterator" := let ⟨o, ho, hc, _⟩ := x; ⟨o, ho, hc⟩
theorem ItS.at {h h' : Heap} {I S : Addr} {first : Value} {i n ep : Nat} (x : ItS h I S first i n ep) (k : ∀ o, h.get? I = some o → h'.get? I = some o) : ItS h' I S first i n ep := let ⟨o, ho, r⟩ := x; ⟨o, k _ ho, r⟩
theorem SAt.at {h h' : Heap} {S : Addr} {es : Array (Int × Value)} {ep : Nat} {t : SetTable} (x : SAt h S es ep t) (k : ∀ o, h.get? S = some o → h'.get? S = some o) : SAt h' S es ep t := let ⟨o, ho, r⟩ := x; ⟨o, k _ ho, r⟩
theorem any_setState {S : Addr} {es : Array (Int × Value)} {ep : Nat} {t : SetTable} {Q : (Array (Int × Value) × Nat × SetTable) → Shared → Prop} (x : SAt s.heap S es ep t) (h : Q (es, ep, t) s) : wpAny (model prog w) A (setState S) Q E s :=
  let ⟨_, ho, hd, hf⟩ := x; wpAny_setState_of ho hd hf h
theorem setit_self {I S : Addr} {first : Value} {i n ep : Nat} {Q : Value → Shared → Prop} (x : ItS s.heap I S first i n ep) (h : Q (.ref I) s) : wpAny (model prog w) A (pyIter (.ref I)) Q E s := by
  refine wpAny_pyIter_slot x.typeIs slot_setit_iter (wpAny_call_entry slot_setit_iter x.typeIs entry_setit_iter ?_ (args_setit_iter _))
  exact wpAny_pure ⟨_, rfl, "set_iterator", _, x.typeIs, slot_setit_next.lookup, h⟩
theorem ItS.upd {I S : Addr} {first : Value} {i n ep j : Nat} {h : Heap} {f : Array Value → Array Value} {g : Value} (x : ItS h I S first i n ep) (e : f #[first, .int i 0, .ref S, .int n 0, .int ep 0] = #[g, .int j 0, .ref S, .int n 0, .int ep 0]) :
    ItS (h.update I (Obj.mapFields f)) I S g j n ep := by
  obtain ⟨o, ho, hc, hd⟩ := x
  exact ⟨_, Heap.get?_update_self _ ho (Obj.isFreed_of_fields (Obj.data_mapFields hd _)), (Obj.cls_mapFields ..).trans hc, by rw [Obj.data_mapFields hd, e]⟩
/-- the end of such an iterator -/
theorem setit_end {I S : Addr} {first : Value} {n ep i : Nat} {es : Array (Int × Value)} {t : SetTable} {Q : Option Value → Shared → Prop} (hh : A.handled = none) (it : ItS s.heap I S first i n ep) (st : SAt s.heap S es ep t) (hn : es.size = n)
    (md : (∃ slot : Nat, first = .int slot 0 ∧ ∀ (Q' : Option (Value × Nat) → Shared → Prop) (E' : Value → Shared → Prop) A', Q' none s → wpAny (model prog w) A' (setNext S slot i ep) Q' E' s) ∨
      (∃ (T : Addr) (oT : Obj) (ps : Array Value) (c : Nat), first = .ref T ∧ s.heap.get? T = some oT ∧ oT.data = .seq ps c ∧ ps[i]? = none))
    (q : ∀ h', Heap.ExtBut I s.heap h' → Q none { s with heap := h' }) : wpAny (model prog w) A (pyNext (.ref I)) Q E s := by
  obtain ⟨o, ho, hc, hd⟩ := id it
  unfold pyNext
  refine wpAny_bind (wpAny_attempt (wpAny_callSpecial?_slot (name := Str.ofString "__next__") it.typeIs slot_setit_next (wpAny_call_entry slot_setit_next it.typeIs entry_setit_next ?_ (args_setit_next _))))
  have fin : ∀ (h1 : Heap), Heap.SameBut I s.heap h1 → wpAny (model prog w) A.in1 (do raiseNew (← newExc (.type "StopIteration") []) : Sem Fin) (fun fin s' => ∃ v, fin = .done (.ret v) ∧ wpAny (model prog w) A (match (Except.ok (some v) : Except Value (Option Value)) with | .ok (some v) => pure (some v) | .ok none => unsupported "iter:the-iterator's-class-has-lost-its-__next__-amid-the-walk" | .error e => do if ← isInstance e (.type "StopIteration") then pure none else throw e) Q E s')
      (fun e s' => wpAny (model prog w) A (match (Except.error e : Except Value (Option Value)) with | .ok (some v) => pure (some v) | .ok none => unsupported "iter:the-iterator's-class-has-lost-its-__next__-amid-the-walk" | .error e => do if ← isInstance e (.type "StopIteration") then pure none else throw e) Q E s') { s with heap := h1 } := fun h1 sb => by
    refine wpAny_bind ?_
    simp only [newExc, newTuple]
    refine wpAny_bind (wpAny_newObj_type ?_ (by size_fits))
    refine wpAny_bind (m := firstArgMember _ _) (wpAny_of_eq (a := Value.none) (by first | rfl | (simp only [firstArgMember]; rfl)) ?_)
    refine wpAny_newObj_type ?_ (by size_fits)
    simp only [raiseNew]
    refine wpAny_bind (wpAny_handled ?_)
    rw [show A.in1.handled = none from hh]
    refine wpAny_bind (wpAny_pure (wpAny_throw ?_))
    refine wpAny_bind (wpAny_isInstance (T := "StopIteration") (b := true) ⟨_, Heap.get?_push_size _ rfl, rfl⟩ isSubtype_stop ?_)
    exact wpAny_pure (q _ ((sb.extBut.push _).push _))
  unfold Builtin.«set_iterator.__next__»
  refine wpAny_bind (wpAny_pure ?_)
  refine wpAny_bind (wpAny_fieldsOf ho hd ?_)
  dsimp only
  refine wpAny_bind ?_
  unfold setEntries
  refine wpAny_bind (any_setState st (wpAny_pure ?_))
  dsimp only
  rw [hn, if_neg (by simp)]
  rcases md with ⟨slot, rfl, hx⟩ | ⟨T, oT, ps, c, rfl, hT, hdT, hp⟩
  · dsimp only
    refine wpAny_bind ?_
    simp only [Int.toNat_natCast]
    refine hx _ _ _ ?_
    dsimp only
    refine wpAny_bind (wpAny_setField ho hd (by simp) ?_)
    exact fin _ (Heap.SameBut.update ..)
  · dsimp only
    refine wpAny_bind ?_
    unfold seqItems?
    refine wpAny_bind (wpAny_load hT ?_)
    rw [hdT]
    refine wpAny_pure ?_
    dsimp only
    simp only [Int.toNat_natCast, hp]
    refine wpAny_bind (wpAny_setField ho hd (by simp) ?_)
    have it2 : ∃ o2, (s.heap.update I (Obj.mapFields (·.setIfInBounds 0 (rawInt 0)))).get? I = some o2 ∧ o2.data = .fields #[rawInt 0, .int i 0, .ref S, .int n 0, .int ep 0] :=
      ⟨_, Heap.get?_update_self _ ho (Obj.isFreed_of_fields (Obj.data_mapFields hd _)), by rw [Obj.data_mapFields hd]; simp⟩
    obtain ⟨o2, ho2, hd2⟩ := it2
    refine wpAny_bind (wpAny_setField ho2 hd2 (by simp) ?_)
    exact fin _ ((Heap.SameBut.update ..).trans (Heap.SameBut.update ..))
/-- a turn of such an iterator -/
theorem setit_item {I S : Addr} {first : Value} {n ep i : Nat} {es : Array (Int × Value)} {t : SetTable} {x : Value} {Q : Option Value → Shared → Prop} (it : ItS s.heap I S first i n ep) (st : SAt s.heap S es ep t) (hn : es.size = n)
    (md : (∃ slot nx : Nat, first = .int slot 0 ∧ (∀ (Q' : Option (Value × Nat) → Shared → Prop) (E' : Value → Shared → Prop) A', Q' (some (x, nx)) s → wpAny (model prog w) A' (setNext S slot i ep) Q' E' s) ∧ ∀ h', Heap.SameBut I s.heap h' → ItS h' I S (.int nx 0) (i + 1) n ep → Q (some x) { s with heap := h' }) ∨
      (∃ (T : Addr) (oT : Obj) (ps : Array Value) (c p : Nat) (z : Int), first = .ref T ∧ s.heap.get? T = some oT ∧ oT.data = .seq ps c ∧ ps[i]? = some (.int p 0) ∧ es[p]? = some (z, x) ∧ ∀ h', Heap.SameBut I s.heap h' → ItS h' I S (.ref T) (i + 1) n ep → Q (some x) { s with heap := h' })) :
    wpAny (model prog w) A (pyNext (.ref I)) Q E s := by
  obtain ⟨o, ho, hc, hd⟩ := id it
  unfold pyNext
  refine wpAny_bind (wpAny_attempt (wpAny_callSpecial?_slot (name := Str.ofString "__next__") it.typeIs slot_setit_next (wpAny_call_entry slot_setit_next it.typeIs entry_setit_next ?_ (args_setit_next _))))
  unfold Builtin.«set_iterator.__next__»
  refine wpAny_bind (wpAny_pure ?_)
  refine wpAny_bind (wpAny_fieldsOf ho hd ?_)
  dsimp only
  refine wpAny_bind ?_
  unfold setEntries
  refine wpAny_bind (any_setState st (wpAny_pure ?_))
  dsimp only
  rw [hn, if_neg (by simp)]
  rcases md with ⟨slot, nx, rfl, hx, q⟩ | ⟨T, oT, ps, c, p, z, rfl, hT, hdT, hp, hes, q⟩
  · dsimp only
    refine wpAny_bind ?_
    simp only [Int.toNat_natCast]
    refine hx _ _ _ ?_
    dsimp only
    refine wpAny_bind (wpAny_setField ho hd (by simp) ?_)
    have it1 : ItS (s.heap.update I (Obj.mapFields (·.setIfInBounds 0 (rawInt nx)))) I S (.int nx 0) i n ep := it.upd (by simp [rawInt])
    obtain ⟨o1, ho1, hc1, hd1⟩ := id it1
    refine wpAny_bind (wpAny_setField ho1 hd1 (by simp) ?_)
    have it2 : ItS ((s.heap.update I (Obj.mapFields (·.setIfInBounds 0 (rawInt nx)))).update I (Obj.mapFields (·.setIfInBounds 1 (rawInt ((i : Int) + 1))))) I S (.int nx 0) (i + 1) n ep := it1.upd (by simp [rawInt])
    exact wpAny_pure ⟨_, rfl, wpAny_pure (q _ ((Heap.SameBut.update ..).trans (Heap.SameBut.update ..)) it2)⟩
  · dsimp only
    refine wpAny_bind ?_
    unfold seqItems?
    refine wpAny_bind (wpAny_load hT ?_)
    rw [hdT]
    refine wpAny_pure ?_
    dsimp only
    simp only [Int.toNat_natCast, hp]
    refine wpAny_bind ?_
    unfold setNextDrawn
    refine wpAny_bind (any_setState st ?_)
    dsimp only
    rw [if_neg (by simp)]
    refine wpAny_bind (wpAny_pure ?_)
    rw [hes]
    dsimp only
    refine wpAny_pure ?_
    refine wpAny_bind (wpAny_setField ho hd (by simp) ?_)
    have it1 : ItS (s.heap.update I (Obj.mapFields (·.setIfInBounds 1 (rawInt ((i : Int) + 1))))) I S (.ref T) (i + 1) n ep := it.upd (by simp [rawInt])
    exact wpAny_pure ⟨_, rfl, wpAny_pure (q _ (Heap.SameBut.update ..) it1)⟩
/-! strings in a set -/
def strOf : Value → Str
  | .str x _ => x
  | _ => Str.ofString ""
theorem vals_strOf {vs : List Value} (h : ∀ v ∈ vs, ∃ x t, v = Value.str x t) : Vals ((vs.map strOf).map V.str) vs := by
  refine vals_of_get (by simp) fun j u hu => ?_
  obtain ⟨x, t, rfl⟩ := h u (List.mem_of_getElem? hu)
  exact ⟨.str x, by rw [List.map_map, List.getElem?_map, hu]; rfl, t, rfl⟩
theorem perm_of_len : ∀ {zs ys : List Str}, zs.Nodup → (∀ z ∈ zs, z ∈ ys) → ys.length = zs.length → ys.Perm zs
  | [], ys, _, _, hl => by rw [List.length_eq_zero_iff.mp hl]
  | z :: r, ys, hn, hs, hl => by
    obtain ⟨h1, h2⟩ := List.nodup_cons.mp hn
    have hz := hs z List.mem_cons_self
    have hp := List.perm_cons_erase hz
    refine hp.trans (List.Perm.cons z (perm_of_len h2 (fun y hy => ?_) ?_))
    · exact (List.mem_erase_of_ne (fun e => h1 (by rw [← e]; exact hy))).mpr (hs y (List.mem_cons_of_mem _ hy))
    · have := hp.length_eq
      simp at this hl; omega
theorem below_zero (p : Nat) : SetTable.below #[p] 0 = 0 := by
  simp [SetTable.below, SetTable.below.go]
theorem below_succ (p : Nat) : SetTable.below #[p] (p + 1) = 1 := by
  simp [SetTable.below, SetTable.below.go]
theorem places_of_perm {es : Array (Int × Value)} {ps : List Nat} (hp : ps.Perm (List.range es.size)) : ∃ ws : List Value, ws.Perm (es.toList.map (·.2)) ∧ ws.length = es.size ∧ ∀ (i p : Nat), ps[i]? = some p → ∃ z x, es[p]? = some (z, x) ∧ ws[i]? = some x := by
  have inb : ∀ p ∈ ps, p < es.size := fun p h => List.mem_range.mp (hp.mem_iff.mp h)
  refine ⟨ps.map fun p => (es.toList.map (·.2)).getD p .none, ?_, by rw [List.length_map, hp.length_eq, List.length_range], fun i p h => ?_⟩
  · refine (hp.map _).trans ?_
    have : (List.range es.size).map (fun p => (es.toList.map (·.2)).getD p Value.none) = es.toList.map (·.2) := by
      refine List.ext_getElem (by simp) fun i h1 h2 => ?_
      simp at h1 h2 ⊢
      rw [Array.getElem?_eq_getElem h2]
      rfl
    rw [this]
  · have hlt := inb p (List.mem_of_getElem? h)
    refine ⟨es[p].1, es[p].2, by rw [Array.getElem?_eq_getElem hlt], ?_⟩
    rw [List.getElem?_map, h]
    simp [hlt]
/-- what the walk of a set needs to be -/
def SetWalk (prog : Program) (w : World) (S I : Addr) (fp : List Addr) (ws : List Value) (St : Nat → Heap → Prop) : Prop := ∀ A : Around, A.handled = none → Walks prog w A I fp [I] ws.length (fun i v => ws[i]? = some v) St
theorem walk_fst {S I : Addr} {es : Array (Int × Value)} {ep : Nat} {t : SetTable} {ws : List Value} (sl : Nat → Nat) (hSI : S ≠ I) (hl : ws.length = es.size)
    (nx : ∀ (i : Nat) (s : Shared) (A' : Around) (Q' : Option (Value × Nat) → Shared → Prop) (E' : Value → Shared → Prop), i ≤ es.size → SAt s.heap S es ep t → Q' (match ws[i]? with | some x => some (x, sl (i + 1)) | none => none) s → wpAny (model prog w) A' (setNext S (sl i) i ep) Q' E' s) :
    SetWalk prog w S I [I, S] ws fun i h => ItS h I S (.int (sl i) 0) i es.size ep ∧ SAt h S es ep t := fun A hh => by
  refine ⟨fun b hb => by simp at hb; simp [hb], fun i h h' st hk => ⟨st.1.at fun o e => hk I (by simp) o e, st.2.at fun o e => hk S (by simp) o e⟩, fun i s Q E hi st hQ => ?_, fun s Q E st hQ => ?_, fun i s Q E st hQ => setit_self st.1 hQ⟩
  · have e : ws[i]? = some ws[i] := List.getElem?_eq_getElem hi
    refine setit_item st.1 st.2 rfl (.inl ⟨sl i, sl (i + 1), rfl, fun Q' E' A' q => nx i s A' Q' E' (by omega) st.2 (by rw [e]; exact q), fun h' sb it' => ?_⟩)
    have kS := st.2.at (h' := h') fun o x => by rw [sb.2 S hSI]; exact x
    exact hQ _ h' s.toks e ⟨it', kS⟩ fun b o hb x => by rw [sb.2 b (fun z => hb (by simp [z]))]; exact x
  · refine setit_end hh st.1 st.2 rfl (.inl ⟨sl ws.length, rfl, fun Q' E' A' q => nx _ s A' Q' E' (by omega) st.2 (by rw [List.getElem?_eq_none (Nat.le_refl _)]; exact q)⟩) fun h' he => ?_
    exact hQ h' s.toks fun b o hb x => he b o (fun z => hb (by simp [z])) x
theorem walk_drawn {S I T : Addr} {es : Array (Int × Value)} {ep : Nat} {t : SetTable} {ws : List Value} {ps : List Nat} (hSI : S ≠ I) (hTI : T ≠ I) (hl : ws.length = es.size) (hlp : ps.length = es.size)
    (hw : ∀ (i p : Nat), ps[i]? = some p → ∃ z x, es[p]? = some (z, x) ∧ ws[i]? = some x) :
    SetWalk prog w S I [I, S, T] ws fun i h => ItS h I S (.ref T) i es.size ep ∧ SAt h S es ep t ∧ ∃ oT c, h.get? T = some oT ∧ oT.data = .seq (ps.map fun (j : Nat) => rawInt j).toArray c := fun A hh => by
  refine ⟨fun b hb => by simp at hb; simp [hb], fun i h h' st hk => ⟨st.1.at fun o e => hk I (by simp) o e, st.2.1.at fun o e => hk S (by simp) o e, let ⟨oT, c, e, f⟩ := st.2.2; ⟨oT, c, hk T (by simp) _ e, f⟩⟩, fun i s Q E hi st hQ => ?_, fun s Q E st hQ => ?_, fun i s Q E st hQ => setit_self st.1 hQ⟩
  · obtain ⟨it, sa, oT, c, hT, hd⟩ := st
    have hip : i < ps.length := by omega
    obtain ⟨z, x, h1, h2⟩ := hw i _ (List.getElem?_eq_getElem hip)
    refine setit_item it sa rfl (.inr ⟨T, oT, _, c, ps[i], z, rfl, hT, hd, by simp [rawInt, hip], h1, fun h' sb it' => ?_⟩)
    have kS := sa.at (h' := h') fun o x => by rw [sb.2 S hSI]; exact x
    exact hQ _ h' s.toks h2 ⟨it', kS, oT, c, by rw [sb.2 T hTI]; exact hT, hd⟩ fun b o hb x => by rw [sb.2 b (fun z => hb (by simp [z]))]; exact x
  · obtain ⟨it, sa, oT, c, hT, hd⟩ := st
    refine setit_end hh it sa rfl (.inr ⟨T, oT, _, c, rfl, hT, hd, by simp [hl, hlp]⟩) fun h' he => ?_
    exact hQ h' s.toks fun b o hb x => he b o (fun z => hb (by simp [z])) x
theorem set_pyIter {S : Addr} {zs : List Str} {Q : Value → Shared → Prop} (x : SetL prog w s.heap S zs) (hz : zs.Nodup)
    (h : ∀ (I : Addr) (h1 : Heap) d1 (fp : List Addr) (ws : List Value) (St : Nat → Heap → Prop) (xs : List Str), (∀ b o, s.heap.get? b = some o → h1.get? b = some o) → s.heap.objs.size ≤ I → (∀ b ∈ fp, b = S ∨ s.heap.objs.size ≤ b) → I < h1.objs.size → (∀ b ∈ fp, b < h1.objs.size) →
      xs.Perm zs → Vals (xs.map V.str) ws → SetWalk prog w S I fp ws St → St 0 h1 → Q (.ref I) { s with heap := h1, drawn := d1 }) : wpAny (model prog w) A (pyIter (.ref S)) Q E s := by
  obtain ⟨o, es, ep, t, ho, hex, hd, hel, hm, hn, hb, hf, hl, hp⟩ := x
  have sa : SAt s.heap S es ep t := ⟨o, ho, hd, hf⟩
  have hT : s.TypeIs (.ref S) "set" := ⟨o, ho, hex.1⟩
  have hSl : S < s.heap.objs.size := Heap.lt_size ho
  have str : ∀ v ∈ es.toList.map (·.2), ∃ x t, v = Value.str x t := fun v hv => by
    obtain ⟨e, he, rfl⟩ := List.mem_map.mp hv
    obtain ⟨⟨k, hk, _⟩, _⟩ := hel e he
    cases e2 : e.2 <;> rw [e2] at hk <;> first | exact ⟨_, _, rfl⟩ | (exfalso; cases hk)
  have perm : ∀ ws : List Value, ws.Perm (es.toList.map (·.2)) → (ws.map strOf).Perm zs ∧ Vals ((ws.map strOf).map V.str) ws := fun ws hw => by
    refine ⟨(hw.map strOf).trans (perm_of_len hz (fun z hz' => ?_) (by simp [hn])), vals_strOf fun v hv => str v (hw.mem_iff.mp hv)⟩
    obtain ⟨e, he, hk⟩ := (hm z).mp (decide_eq_true hz')
    refine List.mem_map.mpr ⟨e.2, List.mem_map.mpr ⟨e, he, rfl⟩, ?_⟩
    cases e2 : e.2 <;> rw [e2] at hk <;> first | exact of_decide_eq_true hk | exact (of_decide_eq_true hk).symm | (exfalso; cases hk)
  refine wpAny_pyIter_slot hT F.slot_set_iter (wpAny_call_entry F.slot_set_iter hT entry_set_iter ?_ (F.args_set_iter_1 _))
  unfold Builtin.«frozenset.__iter__» Builtin.Frozenset.slot0
  refine wpAny_bind (wpAny_bind (wpAny_pure (wpAny_pure ?_)))
  unfold Builtin.Frozenset.sizeOf setEntries
  refine wpAny_bind (wpAny_bind (wpAny_bind (any_setState sa (wpAny_pure (wpAny_pure ?_)))))
  dsimp only
  have fin : ∀ (h0 : Heap) d0 (first : Value) (fp : List Addr) (ws : List Value) (St : Nat → Heap → Prop), (∀ b u, s.heap.get? b = some u → h0.get? b = some u) → s.heap.objs.size ≤ h0.objs.size → (∀ b ∈ fp, b = h0.objs.size ∨ b = S ∨ (s.heap.objs.size ≤ b ∧ b < h0.objs.size)) → SAt h0 S es ep t →
      ws.Perm (es.toList.map (·.2)) → SetWalk prog w S h0.objs.size fp ws St → (∀ h1 : Heap, ItS h1 h0.objs.size S first 0 es.size ep → (∀ b u, h0.get? b = some u → h1.get? b = some u) → SAt h1 S es ep t → St 0 h1) →
      wpAny (model prog w) A.in1 (do ret (← newFields "set_iterator" [first, rawInt 0, .ref S, rawInt es.size, rawInt (← setEpoch S)]) : Sem Fin) (fun fin s' => ∃ v, fin = .done (.ret v) ∧ ∃ T' r, s'.TypeIs v T' ∧ typeLookup (.type T') "__next__" = pure (some r) ∧ Q v s') E { s with heap := h0, drawn := d0 } := fun h0 d0 first fp ws St k0 hs0 hfp sa0 hw W st0 => by
    refine wpAny_bind ?_
    unfold setEpoch
    refine wpAny_bind (any_setState sa0 (wpAny_pure ?_))
    dsimp only
    unfold newFields
    have it0 : ItS (h0.push { cls := .type "set_iterator", data := .fields #[first, rawInt 0, .ref S, rawInt es.size, rawInt ep] }) h0.objs.size S first 0 es.size ep := ⟨_, Heap.get?_push_size _ rfl, rfl, rfl⟩
    refine wpAny_bind (wpAny_newObj_type (wpAny_pure ⟨_, rfl, "set_iterator", _, ⟨_, Heap.get?_push_size _ rfl, rfl⟩, slot_setit_next.lookup, ?_⟩) (by size_fits))
    obtain ⟨p1, p2⟩ := perm ws hw
    refine h _ _ d0 fp ws St _ (fun b u e => Heap.get?_push_of_some _ (k0 b u e)) hs0 (fun b hb => ?_) ?_ (fun b hb => ?_) p1 p2 W (st0 _ it0 (fun b u e => Heap.get?_push_of_some _ e) (sa0.at fun u e => Heap.get?_push_of_some _ e))
    · rcases hfp b hb with e | e | e
      · exact .inr (by rw [e]; exact hs0)
      · exact .inl e
      · exact .inr e.1
    · rw [size_push']; exact Nat.lt_succ_self _
    · rw [size_push']
      rcases hfp b hb with e | e | e
      · rw [e]; exact Nat.lt_succ_self _
      · rw [e]; exact Nat.lt_succ_of_lt (Nat.lt_of_lt_of_le hSl hs0)
      · exact Nat.lt_succ_of_lt e.2
  refine wpAny_bind ?_
  unfold setDrawn
  refine wpAny_bind (any_setState sa (wpAny_bind (any_byText (wpAny_pure ?_))))
  refine wpAny_ite_split (fun hdr => ?_) (fun hdr => ?_)
  · -- in an order that is drawn
    refine wpAny_bind (draw_perm (by simp) fun ps d hps => ?_)
    obtain ⟨ws, hw1, hw2, hw3⟩ := places_of_perm (es := es) hps
    have hpl : ps.length = es.size := by rw [hps.length_eq, List.length_range]
    have hz2 : (ps.map fun (j : Nat) => rawInt j).length ≤ sizeLine := by rw [List.length_map, hpl]; exact fits_of_scanBound hb
    refine wpAny_bind (wpAny_newTuple ?_ hz2)
    have szp := size_push' (h := s.heap) (o := { cls := .type "tuple", data := .seq (ps.map fun (j : Nat) => rawInt j).toArray })
    refine fin _ d _ [_, S, s.heap.objs.size] ws _ (fun b u e => Heap.get?_push_of_some _ e) (by rw [szp]; exact Nat.le_succ _) (fun b hb => ?_) (sa.at fun u e => Heap.get?_push_of_some _ e) hw1
      (walk_drawn (T := s.heap.objs.size) (t := t) (ep := ep) (ps := ps) (by rw [szp]; exact Nat.ne_of_lt (Nat.lt_succ_of_lt hSl)) (by rw [szp]; exact Nat.ne_of_lt (Nat.lt_succ_self _)) hw2 hpl hw3) (fun h1 it k sa1 => ⟨it, sa1, _, 0, k _ _ (Heap.get?_push_size _ rfl), rfl⟩)
    simp only [List.mem_cons, List.not_mem_nil, or_false] at hb
    rcases hb with e | e | e
    · exact .inl e
    · exact .inr (.inl e)
    · refine .inr (.inr ⟨by rw [e]; exact Nat.le_refl _, ?_⟩)
      rw [szp, e]; exact Nat.lt_succ_self _
  · refine wpAny_bind (wpAny_pure ?_)
    have hfp : ∀ b ∈ [s.heap.objs.size, S], b = s.heap.objs.size ∨ b = S ∨ (s.heap.objs.size ≤ b ∧ b < s.heap.objs.size) := fun b hb => by
      simp only [List.mem_cons, List.not_mem_nil, or_false] at hb
      exact hb.elim .inl fun e => .inr (.inl e)
    by_cases hby : ByT w = true
    · have hpp := pick_perm (w.params.setOrder S ep) es
      refine fin s.heap s.drawn (rawInt 0) [_, S] ((pickOrder (w.params.setOrder S ep) es).toList.map (·.2)) _ (fun _ _ e => e) (Nat.le_refl _) hfp sa (hpp.map _)
        (walk_fst (fun _ => 0) (Nat.ne_of_lt hSl) (by rw [List.length_map, hpp.length_eq, Array.length_toList]) fun i s' A' Q' E' hi sa' q => ?_) (fun h1 it _ sa1 => ⟨it, sa1⟩)
      unfold setNext
      refine wpAny_bind (any_setState sa' (wpAny_bind (any_byText ?_)))
      rw [if_pos hby, if_neg (by simp)]
      unfold setWalk
      refine wpAny_bind (wpAny_bind (any_setState sa' (wpAny_bind (any_byText ?_))))
      rw [if_pos hby]
      refine wpAny_bind (wpAny_askSetting (wpAny_pure (wpAny_pure ?_)))
      rw [List.getElem?_map, Array.getElem?_toList] at q
      show Q' (Option.map (fun e => (e.snd, 0)) (pickOrder (w.params.setOrder S ep) es)[i]?) s'
      cases e : (pickOrder (w.params.setOrder S ep) es)[i]? with
      | none => rw [e] at q; simpa using q
      | some y => rw [e] at q; simpa using q
    · have hby' : ByT w = false := by simpa using hby
      have hled : t.led = true := by rw [hl, hby']; rfl
      have hsm : es.size ≤ 1 := by
        rcases hp with e | e
        · omega
        · have h1 : ¬ ((!(ByT w)) && (!t.plain && decide (es.size > 1))) = true := hdr
          rw [hby', e] at h1
          simp at h1
          exact h1
      refine fin s.heap s.drawn (rawInt 0) [_, S] (es.toList.map (·.2)) _ (fun _ _ e => e) (Nat.le_refl _) hfp sa (List.Perm.refl _)
        (walk_fst (fun i => if i = 0 then 0 else t.place.getD 0 0 + 1) (Nat.ne_of_lt hSl) (by simp) fun i s' A' Q' E' hi sa' q => ?_) (fun h1 it _ sa1 => ⟨it, sa1⟩)
      unfold setNext
      refine wpAny_bind (any_setState sa' (wpAny_bind (any_byText ?_)))
      rw [if_neg (by rw [hby']; simp)]
      refine wpAny_ite_split (fun hd' => absurd (show (!t.plain && decide (es.size > 1)) = true from hd') (by simp; omega)) (fun _ => ?_)
      refine wpAny_bind ?_
      show wpAny _ _ (if (!t.led && !es.isEmpty) = true then _ else _) _ _ _
      rw [hled]
      refine wpAny_pure ?_
      refine wpAny_pure ?_
      have hps : t.place.size = es.size := by
        unfold SetTable.fits at hf
        simp at hf
        exact hf.1
      rw [List.getElem?_map, Array.getElem?_toList] at q
      rcases Nat.lt_or_ge es.size 1 with h0 | h0
      · have e0 : es = #[] := Array.size_eq_zero_iff.mp (by omega)
        subst e0
        simp at q ⊢
        exact q
      · have h1 : es.size = 1 := by omega
        obtain ⟨e, rfl⟩ : ∃ e, es = #[e] := by
          refine ⟨es[0], Array.ext (by simp [h1]) fun j g1 g2 => ?_⟩
          simp at g2; subst g2; rfl
        obtain ⟨p, hpl⟩ : ∃ p, t.place = #[p] := by
          refine ⟨t.place[0], Array.ext (by simp [hps]) fun j g1 g2 => ?_⟩
          simp at g2; subst g2; rfl
        rw [hpl] at q ⊢
        rcases Nat.lt_or_ge i 1 with hi0 | hi0
        · obtain rfl : i = 0 := by omega
          simp only [if_true, below_zero]
          simpa using q
        · obtain rfl : i = 1 := by simp at hi; omega
          have eb : SetTable.below #[p] (if 1 = 0 then 0 else (#[p] : Array Nat).getD 0 0 + 1) = 1 := below_succ p
          rw [eb]
          simpa using q
theorem set_hint {r : Addr} {Q : Bool → Shared → Prop} (hT : s.TypeIs (.ref r) "set") (h : Q false s) : wpAny (model prog w) A (Builtin.List.listLengthHint (.ref r)) Q E s := by
  unfold Builtin.List.listLengthHint
  refine wpAny_bind (wpAny_specialOf hT F.slot_set_len.lookup ?_)
  generalize hid : ("set.__len__" : String) = nm
  wp_delta
  rw [show splitId nm = some ("set", "__len__") from by subst hid; decide +kernel]
  subst hid
  refine wpAny_bind (wpAny_isInstance (b := true) hT sub_set_self ?_)
  refine wpAny_ite_split (fun c => absurd c (by decide)) (fun _ => wpAny_ite_split (fun _ => ?_) (fun c => absurd (by decide +kernel) c))
  exact wpAny_bind (wpAny_typeOf hT (wpAny_pure h))
/-- list(s), inside: all items, in the order of the walk -/
theorem set_extend {R : Result → Shared → Prop} {S D : Addr} {zs : List Str} {res : Value} (hh : A.handled = none) (x : SetL prog w s.heap S zs) (hz : zs.Nodup) (hzl : zs.length ≤ 1000) (hDS : D ≠ S) (hD : s.heap.get? D = some { cls := .type "list", data := .seq #[] 0 })
    (q : ∀ h' tk d' acc c (xs : List Str), (∀ b o, b ≠ D → s.heap.get? b = some o → h'.get? b = some o) → h'.get? D = some { cls := .type "list", dict := none, data := .seq acc c, slots := #[] } → xs.Perm zs → Vals (xs.map V.str) acc.toList → R (.ok (.ret res)) { s with heap := h', drawn := d', toks := tk }) :
    wpAny (model prog w) A.in1 (Builtin.List.listExtendWith (.ref D) (.ref S) res)
      (fun fin s' => match fin with | .done f => R (.ok f) s' | .again c' => c'.quiet = true ∧ codeAny (model prog w) A c' R s') (fun e s' => R (.error e) s') s := by
  have hT : s.TypeIs (.ref S) "set" := by obtain ⟨o, _, _, _, ho, hex, _⟩ := x; exact ⟨o, ho, hex.1⟩
  have hDl : D < s.heap.objs.size := Heap.lt_size hD
  unfold Builtin.List.listExtendWith
  refine wpAny_bind (wpAny_typeOf hT ?_)
  have n1 : Builtin.List.listSameRef (.ref D) (.ref S) = false := by simp [Builtin.List.listSameRef, hDS]
  have n2 : (Value.type "set" == Value.type "list") = false := by decide
  have n3 : (Value.type "set" == Value.type "tuple") = false := by decide
  simp only [n1, n2, n3, Bool.or_false, Bool.false_eq_true, if_false]
  refine wpAny_bind (set_pyIter x hz fun I h1 d1 fp ws St xs k hI hfp hI2 hfp2 px vx W st => ?_)
  have hDf : D ∉ fp := fun hm => (hfp D hm).elim hDS fun z => absurd hDl (Nat.not_lt_of_le z)
  have hws : ws.length ≤ sizeLine := by
    have := vx.length
    rw [List.length_map, px.length_eq] at this
    rw [sizeLine_eq]; omega
  have h1D := k D _ hD
  have run : ∀ (h2 : Heap) (c tk : Nat), St 0 h2 → (∀ b o, b ≠ D → s.heap.get? b = some o → h2.get? b = some o) → h2.get? D = some { cls := .type "list", data := .seq #[] c } →
      codeAny (model prog w) A (.builtin "list.extend.loop" ⟨[.ref D, .ref I, res], []⟩) R { s with heap := h2, drawn := d1, toks := tk } := fun h2 c tk st2 k2 hD2 => by
    refine codeAny_extend_loopS (W A.in1 hh).toS hws D hDf res ws.length 0 _ #[] c rfl (Nat.zero_le _) st2 hD2 (ItemsOf.nil _) fun s' acc c' hm hD3 hacc => ?_
    rw [Moved.eq_with hm]
    have ea : acc.toList = ws := List.ext_getElem? fun i => by
      rcases Nat.lt_or_ge i ws.length with hi | hi
      · have hi' : i < acc.size := by rw [hacc.1]; exact hi
        have := hacc.2 i acc[i] (Array.getElem?_eq_getElem hi')
        rw [Array.getElem?_toList, Array.getElem?_eq_getElem hi', this]
      · rw [List.getElem?_eq_none hi, List.getElem?_eq_none (by rw [Array.length_toList, hacc.1]; exact hi)]
    refine q s'.heap s'.toks d1 acc c' xs (fun b o nb e => hm.heap b o (fun z => ?_) (k2 b o nb e)) hD3 px (by rw [ea]; exact vx)
    rcases List.mem_cons.mp z with e' | e'
    · exact nb e'
    · obtain rfl := List.mem_singleton.mp e'
      exact absurd (Heap.lt_size e) (Nat.not_lt_of_le hI)
  have hT1 : Shared.TypeIs { s with heap := h1, drawn := d1 } (.ref S) "set" := by obtain ⟨o, ho, hc⟩ := hT; exact ⟨o, k _ _ ho, hc⟩
  refine wpAny_bind (wpAny_holding (set_hint hT1 ?_))
  refine wpAny_ite_split (fun _ => ?_) (fun _ => wpAny_pure ⟨plainId_quiet F.plain_extend_loop _, run h1 0 _ st (fun b o _ e => k b o e) h1D⟩)
  refine wpAny_bind (wpAny_rule ?_)
  refine wpAny_bind ?_
  show wpAny _ _ (updateSeq D (·.push .none) >>= fun _ => updateSeq D (·.pop)) _ _ _
  refine wpAny_bind (wpAny_updateSeq h1D rfl ?_)
  have g2 := Heap.get?_update_self (Obj.mapSeq (·.push Value.none)) h1D rfl
  refine wpAny_updateSeq (hz := by seq_fits) g2 rfl ?_
  have g3 := Heap.get?_update_self (Obj.mapSeq (·.pop)) g2 rfl
  have off : ∀ b o, b ≠ D → h1.get? b = some o → ((h1.update D (Obj.mapSeq (·.push Value.none))).update D (Obj.mapSeq (·.pop))).get? b = some o := fun b o nb e =>
    (Heap.get?_update_other _ _ (Ne.symm nb)).trans ((Heap.get?_update_other _ _ (Ne.symm nb)).trans e)
  exact wpAny_pure ⟨plainId_quiet F.plain_extend_loop _, run _ _ _ ((W A.in1 hh).frame 0 _ _ st fun b hb o e => off b o (fun z => hDf (z ▸ hb)) e) (fun b o nb e => off b o nb (k b o e)) g3⟩
/-- all items of a set of texts -/
theorem set_collect {R : List Value → Shared → Prop} {S : Addr} {zs : List Str} (hh : A.handled = none) (x : SetL prog w s.heap S zs) (hz : zs.Nodup) (hzl : zs.length ≤ 1000)
    (q : ∀ (h' : Heap) (tk : Nat) d' (us : List Value) (xs : List Str), (∀ b o, s.heap.get? b = some o → h'.get? b = some o) → xs.Perm zs → Vals (xs.map V.str) us → R us { s with heap := h', drawn := d', toks := tk }) : wpAny (model prog w) A (collect (.ref S)) R E s := by
  unfold collect
  refine wpAny_bind (wpAny_runValue (codeAny_builtin entry_proto_collect' ?_))
  rw [Around.under_plainId F.plain_proto_collect _]
  show wpAny _ A.in1 (newList [] >>= fun l => again (.builtin "list.__iadd__" ⟨[l, .ref S], []⟩)) _ _ s
  refine wpAny_bind (wpAny_newObj_type (wpAny_pure ⟨plainId_quiet F.plain_list_iadd _, codeAny_builtin entry_list_iadd' ?_⟩))
  rw [Around.under_plainId F.plain_list_iadd _]
  show wpAny _ A.in1 (Builtin.List.listExtendWith (.ref s.heap.objs.size) (.ref S) (.ref s.heap.objs.size)) _ _ _
  have hSl : S < s.heap.objs.size := by obtain ⟨_, _, _, _, ho, _⟩ := x; exact Heap.lt_size ho
  have x1 : SetL prog w (s.heap.push { cls := .type "list", data := .seq ([] : List Value).toArray }) S zs := by obtain ⟨o, es, ep, t, ho, r⟩ := x; exact ⟨o, es, ep, t, Heap.get?_push_of_some _ ho, r⟩
  have key := set_extend (A := A) (s := { s with heap := s.heap.push { cls := .type "list", data := .seq ([] : List Value).toArray } }) (D := s.heap.objs.size) (res := .ref s.heap.objs.size)
    (R := fun (f : Result) (s' : Shared) => ∃ (h' : Heap) (tk : Nat) (d' : _) (acc : Array Value) (c : Nat) (xs : List Str), f = .ok (.ret (.ref s.heap.objs.size)) ∧ s' = { s with heap := h', drawn := d', toks := tk } ∧
      (∀ b o, s.heap.get? b = some o → h'.get? b = some o) ∧ h'.get? s.heap.objs.size = some { cls := .type "list", dict := none, data := .seq acc c, slots := #[] } ∧ xs.Perm zs ∧ Vals (xs.map V.str) acc.toList)
    hh x1 hz hzl (Nat.ne_of_gt hSl) (Heap.get?_push_size _ rfl)
    (fun h' tk d' acc c xs k hD px vx => ⟨h', tk, d', acc, c, xs, rfl, rfl, fun b o e => k b o (Nat.ne_of_lt (Heap.lt_size e)) (Heap.get?_push_of_some _ e), hD, px, vx⟩)
  refine wpAny_mono key (fun fin s' y => ?_) fun e s' y => ?_
  · cases fin with
    | done f =>
      obtain ⟨h', tk, d', acc, c, xs, e, rfl, k, hD, px, vx⟩ := y
      cases e
      exact wpAny_bind (wpAny_load hD (wpAny_pure (q h' tk d' _ xs k px vx)))
    | again c₁ =>
      refine ⟨y.1, codeAny_mono y.2 fun f s₂ z => ?_⟩
      obtain ⟨h', tk, d', acc, c, xs, rfl, rfl, k, hD, px, vx⟩ := z
      exact wpAny_bind (wpAny_load hD (wpAny_pure (q h' tk d' _ xs k px vx)))
  · obtain ⟨_, _, _, _, _, _, e', _⟩ := y
    cases e'
end
end PySem
namespace L2
open PySem PySem.Spec PyProof.Rows
section
variable {X : Cx}
theorem Inv.dr {pins : List (Addr × Obj)} {σ : St} {H : Hp} {s : Shared} (I : Inv X pins σ H s) (d : Drawn) : Inv X pins σ H { s with drawn := d } :=
  ⟨I.ok, I.os, I.bare, I.base, I.loc, I.cell, I.free, I.freeC, I.pin, I.hok, I.len⟩
/-- sorted(s), s a set of texts -/
def rSortedSet (X : Cx) : List V → Hp → VK → Prop := fun vs H Q => ∃ (a : Addr) (zs : List Str), vs = [V.ref a] ∧ H a = some (setHO X.prog X.w a zs) ∧ zs.length ≤ 1000 ∧
  ∀ (ys : List Str) (p : Addr), ys.Perm (dedS zs) → sortedS ys = true → H p = none → Q (.ref p) (upd H p (.lst (ys.map V.str)))
theorem ap_rSortedSet (X : Cx) : ∀ vs H Q, rSortedSet X vs H Q = (∃ (a : Addr) (zs : List Str), vs = [V.ref a] ∧ H a = some (setHO X.prog X.w a zs) ∧ zs.length ≤ 1000 ∧
  ∀ (ys : List Str) (p : Addr), ys.Perm (dedS zs) → sortedS ys = true → H p = none → Q (.ref p) (upd H p (.lst (ys.map V.str)))) := fun _ _ _ => rfl
theorem cr_sortedSet (hc : X.calm = true) : CallR X (.builtin "sorted") (rSortedSet X) := by
  intro pins s σ H vs us Q I r h
  obtain ⟨a, zs, rfl, ha, hzl, q⟩ := h
  rw [Vals.ref1 r]
  obtain ⟨hS, _⟩ := (show ObjOk X.prog X.w H s.heap a (setHO X.prog X.w a zs) from I.hok a _ ha)
  have hdl : (dedS zs).length ≤ 1000 := Nat.le_trans (dedS_le zs) hzl
  refine Calls.call_function_entry kind_sorted plain_sorted entry_sorted (args_sorted1 _) ?_
  unfold Builtin.«sorted»
  refine wpAny_bind (m := checkCount "sorted" 1 1 _) (wpAny_pure ?_)
  refine wpAny_bind (set_collect (A := X.A.in1) (I.ok.hd hc) hS (dedS_nodup zs) hdl fun h' tk d' us2 xs kp px rv => ?_)
  have hlen : us2.length = xs.length := by have := rv.length; rw [List.length_map] at this; exact this.symm
  have hz : us2.length ≤ sizeLine := by rw [hlen, px.length_eq, sizeLine_eq]; omega
  refine wpAny_bind (wpAny_newList ?_ hz)
  have hoL : (h'.push (seqObj "list" us2.toArray 0)).get? h'.objs.size = some (seqObj "list" us2.toArray 0) := Heap.get?_push_size _ rfl
  show wpAny _ _ _ _ _ { s with heap := h'.push (seqObj "list" us2.toArray 0), drawn := d', toks := tk }
  have hT := rv.strs
  refine wpAny_bind (wpAny_holding (wpAny_call_entry slot_list_sort ⟨_, hoL, rfl⟩ entry_list_sort (list_sort_treeKAny strKind_oneLt hoL hT.keysOf (fun v₁ v₂ rest e => keyKind_strs (by rw [← e]; exact hT)) hz fun st' a1 a2 => ⟨_, rfl, ?_⟩) (args_list_sort _)))
  obtain ⟨ys, h1, h2, h3⟩ := sorted_out_str hT a1 a2
  have I' : Inv X pins σ H { s with heap := h', drawn := d', toks := tk } := (I.dr d').kept kp
  obtain ⟨ep2, he'⟩ := PyProof.Rows.sortedHeap_at (vs := us2) (out := (arrOf st').map (·.2)) hoL
  have hlen2 : (ys.map V.str).length ≤ sizeLine := by rw [List.length_map, h2.length_eq, ← hlen]; exact hz
  exact wpAny_pure ⟨_, rfl, .ref h'.objs.size, upd H h'.objs.size (.lst (ys.map V.str)),
    I'.laid (t' := tk) (fun b o e => by
      have hlt : b < h'.objs.size := Heap.lt_size e
      show (sortedHeap (h'.push (seqObj "list" us2.toArray 0)) h'.objs.size us2 _).get? b = some o
      rw [sortedHeap_old (Nat.ne_of_lt hlt) (by rw [size_push']; exact Nat.lt_succ_of_lt hlt)]
      exact Heap.get?_push_of_some _ e) (Nat.le_refl _) ⟨hlen2, _, ep2, vals_of_strs h1, he'⟩, rfl, q ys _ (h2.trans px) h3 (I'.hok.fresh (Nat.le_refl _))⟩
end
end L2
set_option maxHeartbeats 4000000
namespace L2
open PySem PySem.Spec PyProof.Rows
section
variable {X : Cx}
/-! ### d.clear(), d.update(e) -/
def rDClear : V → List V → Hp → VK → Prop := fun x xs H Q => ∃ a kvs, x = .ref a ∧ xs = [] ∧ H a = some (.dK kvs) ∧ Q .non (upd H a (.dK []))
theorem ap_rDClear : ∀ x xs H Q, rDClear x xs H Q = (∃ a kvs, x = .ref a ∧ xs = [] ∧ H a = some (.dK kvs) ∧ Q .non (upd H a (.dK []))) := fun _ _ _ _ => rfl
theorem dict_there {h' : Heap} {P : Program} {w : World} {a : Addr} {vs : List (Key × Value)} (m : h'.DictOf (mixKind P w) a vs) : ∃ o, h'.get? a = some o := by
  obtain ⟨o, es, ep, ho, _⟩ := m
  exact ⟨o, ho⟩
theorem mt_dclear : MtR X "dict.clear" rDClear := by
  intro pins s σ H x xs v us Q I rx rxs h
  obtain ⟨a, kvs, rfl, rfl, ha, q⟩ := h
  cases rx
  cases rxs
  obtain ⟨z, hd, vs, rel, dd⟩ := dk_of I.hok ha
  refine call_meetsIn PySem.F.slot_dict_clear dd.typeIs PySem.F.entry_dict_clear (PySem.F.args_dict_clear_1 _) (meets_dict_clear (mixKind X.prog X.w) a) ⟨vs, dd, by rw [← rel.length]; exact z, fun h' hm sb => ?_⟩
  exact ⟨.non, _, I.write (t' := s.toks) (by rw [ha]; trivial) (.inl rfl) (fun b u nb q => (sb.2 b nb).trans q) (dict_there hm) (dk_new (Nat.zero_le _) hd .nil hm), rfl, q⟩
def rDUpd : V → List V → Hp → VK → Prop := fun x xs H Q => ∃ a b ka kb, x = .ref a ∧ xs = [.ref b] ∧ a ≠ b ∧ H a = some (.dK ka) ∧ Rd H b (.dK kb) ∧ ka.length + kb.length ≤ sizeLine ∧ Q .non (upd H a (.dK (mergeK ka kb)))
theorem ap_rDUpd : ∀ x xs H Q, rDUpd x xs H Q = (∃ a b ka kb, x = .ref a ∧ xs = [.ref b] ∧ a ≠ b ∧ H a = some (.dK ka) ∧ Rd H b (.dK kb) ∧ ka.length + kb.length ≤ sizeLine ∧ Q .non (upd H a (.dK (mergeK ka kb)))) := fun _ _ _ _ => rfl
theorem mergeK_len : ∀ (kb ka : List (Key × V)), (mergeK ka kb).length ≤ ka.length + kb.length
  | [], ka => by simp [mergeK]
  | q :: r, ka => by
    have h1 := mergeK_len r (putK ka q.1 q.2)
    have h2 : (putK ka q.1 q.2).length ≤ ka.length + 1 := by unfold putK; split <;> simp
    show (mergeK (putK ka q.1 q.2) r).length ≤ _
    rw [List.length_cons]; omega
theorem mt_dupd : MtR X "dict.update" rDUpd := by
  intro pins s σ H x xs v us Q I rx rxs h
  obtain ⟨a, b, ka, kb, rfl, rfl, hne, ha, hb, hz, q⟩ := h
  cases rx
  obtain ⟨u, rfl, ru⟩ := vals1 rxs
  cases ru
  obtain ⟨z, hd, vs, rel, dd⟩ := dk_of I.hok ha
  obtain ⟨z2, hd2, vs2, rel2, dd2⟩ := dk_rd I.hok hb
  have l1 := rel.length
  have l2 := rel2.length
  refine call_meetsIn PySem.F.slot_dict_update dd.typeIs PySem.F.entry_dict_update (PySem.F.args_dict_update_2 _ _) (meets_dict_update (mixKind X.prog X.w) a b hne hd2) ⟨vs, vs2, dd, dd2, by omega, fun h' hm _ sb => ?_⟩
  exact ⟨.non, _, I.write (t' := s.toks) (by rw [ha]; trivial) (.inl rfl) (fun b u nb q => (sb.2 b nb).trans q) (dict_there hm) (dk_new (Nat.le_trans (mergeK_len kb ka) hz) hd (rel2.merge rel) hm), rfl, q⟩
/-! ### xs[lo:hi:st] of a list -/
def pick3 (xs : List V) (lo hi : Option Int) (st : Int) : List V := (sliceRange (sliceBounds lo hi (some st) xs.length).1 (sliceBounds lo hi (some st) xs.length).2.1 (sliceBounds lo hi (some st) xs.length).2.2).filterMap (xs[·]?)
theorem vals_pick {xs : List V} {us : List Value} (r : Vals xs us) : ∀ ks : List Nat, Vals (ks.filterMap (xs[·]?)) (ks.filterMap (us.toArray[·]?))
  | [] => .nil
  | k :: ks => by
    have hl := r.length
    rcases Nat.lt_or_ge k xs.length with h | h
    · have e1 : xs[k]? = some xs[k] := List.getElem?_eq_getElem h
      obtain ⟨u, hu, ru⟩ := Vals.get r e1
      rw [List.filterMap_cons_some (b := xs[k]) (by exact e1), List.filterMap_cons_some (b := u) (by simpa using hu)]
      exact .cons ru (vals_pick r ks)
    · rw [List.filterMap_cons_none (List.getElem?_eq_none h), List.filterMap_cons_none (by simp; omega)]
      exact vals_pick r ks
theorem pick3_len (xs : List V) (lo hi : Option Int) (st : Int) : (pick3 xs lo hi st).length ≤ xs.length := by
  have := slicePick_size_le (xs.map fun _ => Value.none).toArray lo hi (some st)
  unfold slicePick at this
  rw [List.size_toArray, List.size_toArray, List.length_map] at this
  unfold pick3
  refine Nat.le_trans (Nat.le_of_eq ?_) this
  generalize sliceRange _ _ _ = ks
  induction ks with
  | nil => rfl
  | cons k ks ih =>
    rcases Nat.lt_or_ge k xs.length with h | h
    · rw [List.filterMap_cons_some (b := xs[k]) (List.getElem?_eq_getElem h), List.filterMap_cons_some (b := Value.none) (by simp [h]), List.length_cons, List.length_cons, ih]
    · rw [List.filterMap_cons_none (List.getElem?_eq_none h), List.filterMap_cons_none (by simp; omega), ih]
theorem pick3_mem {xs : List V} {lo hi : Option Int} {st : Int} {v : V} (h : v ∈ pick3 xs lo hi st) : v ∈ xs := by
  obtain ⟨k, _, e⟩ := List.mem_filterMap.mp h
  exact List.mem_of_getElem? e
def tSl3 (K : PySem.W.Frag) (te : TE) (tl th : TO) (ts : TE) : TE := fun σ H Q => te σ H fun x H1 => tl σ H1 fun lo H2 => th σ H2 fun hi H3 => ts σ H3 fun y H4 => ∃ a xs st, x = .ref a ∧ y = .int st ∧ st ≠ 0 ∧ SqL K H4 a xs ∧ ∀ p, H4 p = none → Q (.ref p) (upd H4 p (.lst (pick3 xs lo hi st)))
theorem ap_tSl3 (K : PySem.W.Frag) (te : TE) (tl th : TO) (ts : TE) : ∀ σ H Q, tSl3 K te tl th ts σ H Q = (te σ H fun x H1 => tl σ H1 fun lo H2 => th σ H2 fun hi H3 => ts σ H3 fun y H4 => ∃ a xs st, x = .ref a ∧ y = .int st ∧ st ≠ 0 ∧ SqL K H4 a xs ∧ ∀ p, H4 p = none → Q (.ref p) (upd H4 p (.lst (pick3 xs lo hi st)))) := fun _ _ _ => rfl
theorem pe_slice3 {e st : Expr} {lo hi : Option Expr} {te ts : TE} {tl th : TO} {pos p2 : Pos} (he : PE X e te) (hl : PO X lo tl) (hu : PO X hi th) (hs : PE X st ts) : PE X (.Subscript e (.Slice lo hi (some st) p2) pos) (tSl3 X.K te tl th ts) := by
  intro pins s σ H Q I h
  refine Subscript_ (thn (he pins s σ H _ I h) fun v s1 ⟨x, H1, I1, r1, q1⟩ => ?_)
  refine wpAny_Slice (thn (hl pins s1 σ H1 _ I1 q1) fun vl s2 ⟨l, H2, I2, pl, q2⟩ => thn (hu pins s2 σ H2 _ I2 q2) fun vu s3 ⟨u, H3, I3, pu, q3⟩ => ?_)
  rw [evalPart_some]
  refine thn (hs pins s3 σ H3 _ I3 q3) fun vk s4 ⟨y, H4, I4, r4, q4⟩ => ?_
  obtain ⟨a, xs, k, rfl, rfl, hk, hx, q⟩ := q4
  obtain ⟨t, rfl⟩ := r4
  cases r1
  have I5 : Inv X pins σ H4 { s4 with heap := s4.heap.push { cls := .type "slice", data := .fields #[vl, vu, .int k t] } } := I4.kept (t' := s4.toks) fun b ob q => Heap.get?_push_of_some _ q
  obtain ⟨its, r, ht, hz⟩ := I5.list hx
  have hlen := r.length
  have hg : wpAny (model X.prog X.w) X.A (getItem (.ref a) (.ref s4.heap.objs.size)) (EP X pins σ Q) X.xe { s4 with heap := s4.heap.push { cls := .type "slice", data := .fields #[vl, vu, .int k t] } } := by
    refine wpAny_getItem_list_slice ht.isList (Heap.IsSliceOf.new ..) pl pu (.int k t) (by simpa using hk) ?_ (by rw [List.size_toArray]; omega)
    have e : slicePick its.toArray l u (some k) = ((sliceRange (sliceBounds l u (some k) xs.length).1 (sliceBounds l u (some k) xs.length).2.1 (sliceBounds l u (some k) xs.length).2.2).filterMap (its.toArray[·]?)).toArray := by
      unfold slicePick
      rw [List.size_toArray, ← hlen]
    rw [e]
    refine ⟨.ref _, _, I5.laid (t' := s4.toks) (o := .lst (pick3 xs l u k)) (fun b ob q => Heap.get?_push_of_some _ q) (Nat.le_refl _) ?_, rfl, q _ (I5.hok.fresh (Nat.le_refl _))⟩
    exact ⟨Nat.le_trans (pick3_len xs l u k) hz, _, 0, vals_pick r _, Heap.get?_push_size _ rfl⟩
  exact tail_any (ops := [.ref a, .ref s4.heap.objs.size]) ht.isList.typeIs slot_list_getitem.lookup hg (by with_unfolding_all rfl)
end
end L2
namespace PySem
open PyProof.Rows L2 SeqAt
open AutoSeq1 (wpAny_loadPart')
open MeetsSeq MeetsSeq2 MeetsSeq3
/-! ### lists that hold the same, dicts among them -/
section
variable {prog : Program} {w : World}
/-- y == x gives True, in this program -/
def EqM (prog : Program) (w : World) (A : Around) (s : Shared) (y x : Value) : Prop := ∀ (E : Value → Shared → Prop) (Q : Bool → Shared → Prop), Q true s → wpAny (model prog w) A (eqBool y x) Q E s
theorem EqM.of {A : Around} {s : Shared} {y x : Value} (h : EqAt A s y x true) : EqM prog w A s y x := fun E Q q => h prog w E Q q
theorem same_loopM (l b : Addr) (items items2 : Array Value) (n n2 : Nat) (dd dd2 : Option Addr) (sl sl2 : Array (Option Value)) (hsz : items.size = items2.size) (op : Int) (hop : op = 2 ∨ op = 3) (k : Nat) :
    ∀ i : Nat, items.size - i = k → MeetsIn prog w (Builtin.«list.__eq__.loop» ⟨[.ref l, .ref b, rawInt i, rawInt op], []⟩)
      (fun A R s => s.heap.get? l = some { cls := .type "list", dict := dd, data := .seq items n, slots := sl } ∧ s.heap.get? b = some { cls := .type "list", dict := dd2, data := .seq items2 n2, slots := sl2 } ∧
        (∀ j (h1 : j < items.size) (h2 : j < items2.size), EqM prog w A.in1 s items[j] items2[j]) ∧ R (.ok (.ret (.bool (decide (op = 2))))) s) := by
  induction k with
  | zero =>
    intro i hk A R s h
    obtain ⟨hp, g, d, tk, os⟩ := s
    obtain ⟨hl, hb, he, h⟩ := h
    have hi1 : items[((i : Nat) : Int).toNat]? = none := by simp; omega
    have hi2 : items2[((i : Nat) : Int).toNat]? = none := by simp; omega
    rcases hop with rfl | rfl
    · wp_walk using wpAny_loadPart' hl, wpAny_loadPart' hb
      rw [hi1, hi2]
      wp_walk using wpAny_loadPart' hl, wpAny_loadPart' hb
      show R (.ok (.ret (.bool (items.size == items2.size)))) _
      rw [hsz]
      simpa using h
    · wp_walk using wpAny_loadPart' hl, wpAny_loadPart' hb
      rw [hi1, hi2]
      wp_walk using wpAny_loadPart' hl, wpAny_loadPart' hb
      show R (.ok (.ret (.bool (items.size != items2.size)))) _
      rw [hsz]
      simpa using h
  | succ k ih =>
    intro i hk A R s h
    obtain ⟨hp, g, d, tk, os⟩ := s
    obtain ⟨hl, hb, he, h⟩ := h
    have lt1 : i < items.size := by omega
    have lt2 : i < items2.size := by omega
    have hi1 : items[((i : Nat) : Int).toNat]? = some items[i] := by simp [lt1]
    have hi2 : items2[((i : Nat) : Int).toNat]? = some items2[i] := by simp [lt2]
    have hc : ((i : Int) + 1) = ((i + 1 : Nat) : Int) := by push_cast; rfl
    rcases hop with rfl | rfl
    · wp_walk using wpAny_loadPart' hl, wpAny_loadPart' hb
      rw [hi1, hi2]
      refine wpAny_bind (he i lt1 lt2 _ _ ?_)
      wp_walk
      rw [hc]
      exact ⟨plainId_quiet plain_eq_loop _, codeAny_builtin entry_eq_loop (by
        rw [Around.under_plainId plain_eq_loop _]
        exact ih (i + 1) (by omega) A R _ ⟨hl, hb, he, h⟩)⟩
    · wp_walk using wpAny_loadPart' hl, wpAny_loadPart' hb
      rw [hi1, hi2]
      refine wpAny_bind (he i lt1 lt2 _ _ ?_)
      wp_walk
      rw [hc]
      exact ⟨plainId_quiet plain_eq_loop _, codeAny_builtin entry_eq_loop (by
        rw [Around.under_plainId plain_eq_loop _]
        exact ih (i + 1) (by omega) A R _ ⟨hl, hb, he, h⟩)⟩
theorem list_sameM (ne : Bool) (l b : Addr) (items items2 : Array Value) (n n2 : Nat) (dd dd2 : Option Addr) (sl sl2 : Array (Option Value)) (hsz : items.size = items2.size) :
    MeetsIn prog w (if ne then Builtin.«list.__ne__» ⟨[.ref l, .ref b], []⟩ else Builtin.«list.__eq__» ⟨[.ref l, .ref b], []⟩)
      (fun A R s => s.heap.get? l = some { cls := .type "list", dict := dd, data := .seq items n, slots := sl } ∧ s.heap.get? b = some { cls := .type "list", dict := dd2, data := .seq items2 n2, slots := sl2 } ∧
        (∀ j (h1 : j < items.size) (h2 : j < items2.size), EqM prog w A.in1 s items[j] items2[j]) ∧ R (.ok (.ret (.bool (!ne)))) s) := by
  intro A R s h
  obtain ⟨hp, g, d, tk, os⟩ := s
  obtain ⟨hl, hb, he, h⟩ := h
  have f3 := AutoSeq1.sub_list_list
  have hne : ¬ (items.size != items2.size) = true := by simp [hsz]
  cases ne with
  | false =>
    show wpAny _ _ (Builtin.«list.__eq__» ⟨[.ref l, .ref b], []⟩) _ _ _
    wp_walk using wpAny_loadPart' hl, wpAny_loadPart' hb
    exact ⟨plainId_quiet plain_eq_loop _, codeAny_builtin entry_eq_loop (by
      rw [Around.under_plainId plain_eq_loop _]
      exact same_loopM l b items items2 n n2 dd dd2 sl sl2 hsz 2 (.inl rfl) _ 0 rfl A R _ ⟨hl, hb, he, h⟩)⟩
  | true =>
    show wpAny _ _ (Builtin.«list.__ne__» ⟨[.ref l, .ref b], []⟩) _ _ _
    wp_walk using wpAny_loadPart' hl, wpAny_loadPart' hb
    exact ⟨plainId_quiet plain_eq_loop _, codeAny_builtin entry_eq_loop (by
      rw [Around.under_plainId plain_eq_loop _]
      exact same_loopM l b items items2 n n2 dd dd2 sl sl2 hsz 3 (.inr rfl) _ 0 rfl A R _ ⟨hl, hb, he, h⟩)⟩
end
end PySem
namespace L2
open PySem PySem.Spec PyProof.Rows
section
variable {X : Cx}
/-- two things that hold the same: data, or dicts of data -/
def EqV0 (K : PySem.W.Frag) (H : Hp) (x y : V) : Prop := (∃ d, Dp K H x d ∧ Dp K H y d ∧ SeqAt.shaped d = true) ∨ ∃ a b ka kb, x = .ref a ∧ y = .ref b ∧ Rd H a (.dK ka) ∧ Rd H b (.dK kb) ∧ SameDs K H ka kb
theorem EqV0.eqm {pins : List (Addr × Obj)} {σ : St} {H : Hp} {s : Shared} {x y : V} {u v : Value} (hu : X.A.units + 80 < cLine) (I : Inv X pins σ H s) (rx : RelV x u) (ry : RelV y v) (h : EqV0 X.K H x y) : EqM X.prog X.w X.A.in1 s u v := by
  rcases h with ⟨d, d1, d2, sh⟩ | ⟨a, b, ka, kb, rfl, rfl, ha, hb, hs⟩
  · obtain ⟨as, q1⟩ := Dp.reads I _ _ _ d1 rx
    obtain ⟨bs, q2⟩ := Dp.reads I _ _ _ d2 ry
    have := PySem.W.keq_at (A := X.A) q1 q2 sh sh (by show X.A.units + 1 + 64 < cLine; omega)
    rw [SeqAt.eqv_refl _ (SeqAt.canLay_of_shaped sh)] at this
    exact .of this
  · cases rx
    cases ry
    by_cases hab : a = b
    · subst hab; exact .of (SeqAt.EqAt.same _)
    · obtain ⟨z, hd, vs, rel, dd⟩ := dk_rd I.hok ha
      obtain ⟨z2, hd2, vs2, rel2, dd2⟩ := dk_rd I.hok hb
      have l1 := rel.length
      have l2 := rel2.length
      have hl := hs.choose_spec.1
      intro E Q q
      unfold eqBool
      refine wpAny_holding (wpAny_ite_split (fun z => absurd (by have := eq_of_beq z; injection this) hab) (fun _ => ?_))
      refine wpAny_bind (PySem.W.keq_eq (A := X.A.in1) (r := true) hd hd2 dd dd2 (by show X.A.units + 1 < cLine; omega) (fun _ => ?_) ?_)
      · obtain ⟨dt, hl, hq⟩ := hs
        refine hits_all fun q hqm => ?_
        obtain ⟨j, hj⟩ := List.mem_iff_getElem?.mp hqm
        obtain ⟨k, v⟩ := q
        obtain ⟨y, e1, r1⟩ := kv_at rel j k v hj
        obtain ⟨d1, sh, z, hz, d2⟩ := hq _ (List.mem_of_getElem? e1)
        have r2 := rel2.val k
        rw [hz] at r2
        cases e : valueAt vs2 k with
        | none => rw [e] at r2; exact r2.elim
        | some u =>
          rw [e] at r2
          obtain ⟨as, q1⟩ := Dp.reads I _ _ _ d1 r1
          obtain ⟨bs, q2⟩ := Dp.reads I _ _ _ d2 r2
          refine ⟨u, rfl, ?_⟩
          have := PySem.W.keq_at (A := X.A.in1) q1 q2 sh sh (by show X.A.units + 1 + 1 + 64 < cLine; omega)
          rw [SeqAt.eqv_refl _ (SeqAt.canLay_of_shaped sh)] at this
          exact this
      · have : (vs.length == vs2.length && true) = true := by rw [← l1, ← l2, hl]; simp
        rw [this]
        exact wpAny_truthy_bool q
def rSameL (K : PySem.W.Frag) (ne : Bool) : R2 := fun x y H Q => ∃ a b xs ys, x = .ref a ∧ y = .ref b ∧ SqL K H a xs ∧ SqL K H b ys ∧ xs.length = ys.length ∧ (∀ (i : Nat) u v, xs[i]? = some u → ys[i]? = some v → EqV0 K H u v) ∧ Q (.bl (!ne)) H
theorem ap_rSameL (K : PySem.W.Frag) (ne : Bool) : ∀ x y H Q, rSameL K ne x y H Q = (∃ a b xs ys, x = .ref a ∧ y = .ref b ∧ SqL K H a xs ∧ SqL K H b ys ∧ xs.length = ys.length ∧ (∀ (i : Nat) u v, xs[i]? = some u → ys[i]? = some v → EqV0 K H u v) ∧ Q (.bl (!ne)) H) := fun _ _ _ _ => rfl
theorem same_items {pins : List (Addr × Obj)} {σ : St} {H : Hp} {s : Shared} {xs ys : List V} {us vs : List Value} (hu : X.A.units + 80 < cLine) (I : Inv X pins σ H s) (r1 : Vals xs us) (r2 : Vals ys vs) (h : ∀ (i : Nat) u v, xs[i]? = some u → ys[i]? = some v → EqV0 X.K H u v) :
    ∀ j (h1 : j < us.toArray.size) (h2 : j < vs.toArray.size), EqM X.prog X.w X.A.in1 s us.toArray[j] vs.toArray[j] := fun j h1 h2 => by
  have l1 := r1.length
  have l2 := r2.length
  rw [List.size_toArray] at h1 h2
  have e1 : xs[j]? = some xs[j] := List.getElem?_eq_getElem (by omega)
  have e2 : ys[j]? = some ys[j] := List.getElem?_eq_getElem (by omega)
  obtain ⟨u, hu1, ru⟩ := Vals.get r1 e1
  obtain ⟨v, hv1, rv⟩ := Vals.get r2 e2
  have := (h j _ _ e1 e2).eqm hu I ru rv
  rw [List.getElem?_eq_getElem (by omega)] at hu1 hv1
  cases hu1; cases hv1
  simpa using this
theorem op_sameNe (hu : X.A.units + 80 < cLine) : OpR X (compareOp .NotEq) (rSameL X.K true) := by
  intro pins s σ H x y v u Q I rx ry h
  obtain ⟨a, b, xs, ys, rfl, rfl, ha, hb, hl, hi, q⟩ := h
  cases rx
  cases ry
  obtain ⟨us, r1, p1, _⟩ := I.list ha
  obtain ⟨vs, r2, p2, _⟩ := I.list hb
  have l1 := r1.length
  have l2 := r2.length
  obtain ⟨⟨c1, d1, t1, sl1⟩, o1, k1, n1, e1⟩ := p1.isList
  obtain ⟨⟨c2, d2, t2, sl2⟩, o2, k2, n2, e2⟩ := p2.isList
  simp only at k1 e1 k2 e2
  subst k1 e1 k2 e2
  exact wpAny_richCompare_same_room (op := .NotEq) ⟨_, o1, rfl⟩ ⟨_, o2, rfl⟩ F.slot_list_ne (call_meetsIn F.slot_list_ne ⟨_, o1, rfl⟩ F.entry_list_ne (F.args_list_ne_2 _ _) (list_sameM true a b us.toArray vs.toArray n1 n2 d1 d2 sl1 sl2 (by rw [List.size_toArray, List.size_toArray]; omega))
    ⟨o1, o2, same_items hu I r1 r2 hi, (show Value.bool false ≠ Value.notImplemented ∧ EP X pins σ Q (.bool false) s from ⟨nofun, .bl _, H, I, rfl, q⟩)⟩) (by omega)
end
end L2
namespace L2
open PySem PySem.Spec PyProof.Rows
section
variable {X : Cx}
/-! ### sorted of texts, any number -/
def rSortedSA (K : PySem.W.Frag) : List V → Hp → VK → Prop := fun vs H Q => ∃ (a : Addr) (xs : List Str), vs = [V.ref a] ∧ SqL K H a (xs.map V.str) ∧ ∀ (ys : List Str) (p : Addr), ys.Perm xs → sortedS ys = true → H p = none → Q (.ref p) (upd H p (.lst (ys.map V.str)))
theorem ap_rSortedSA (K : PySem.W.Frag) : ∀ vs H Q, rSortedSA K vs H Q = (∃ (a : Addr) (xs : List Str), vs = [V.ref a] ∧ SqL K H a (xs.map V.str) ∧ ∀ (ys : List Str) (p : Addr), ys.Perm xs → sortedS ys = true → H p = none → Q (.ref p) (upd H p (.lst (ys.map V.str)))) := fun _ _ _ => rfl
theorem cr_sortedSA : CallR X (.builtin "sorted") (rSortedSA X.K) := by
  intro pins s σ H vs us Q I r h
  obtain ⟨a, xs, rfl, hs, q⟩ := h
  obtain ⟨its, rv, hl, hz⟩ := I.list hs
  rw [Vals.ref1 r]
  have hlen0 := rv.length
  rw [List.length_map] at hz
  rw [List.length_map] at hlen0
  refine PyProof.Rows.sorted_strsAny hl.isList rv.strs (by omega) fun out ys h1 h2 h3 => ?_
  obtain ⟨ep, he'⟩ := PyProof.Rows.sortedAll_at s.heap its out
  have hlen : (ys.map V.str).length ≤ sizeLine := by rw [List.length_map, h2.length_eq]; exact hz
  exact ⟨.ref _, upd H (s.heap.objs.size + 1) (.lst (ys.map V.str)), I.laid (t' := s.toks) (fun _ _ => PyProof.Rows.sortedAll_old) (Nat.le_succ _) ⟨hlen, out.toList, ep, vals_of_strs h1, he'⟩, rfl, q ys _ h2 h3 (I.hok.fresh (Nat.le_succ _))⟩
end
end L2
set_option maxHeartbeats 4000000

namespace My
open PySem L2
def top (i : Nat) : Stmt := PySem.Challenge.pw_shownranks_k31_layers_poured.main.body.getD i (.Pass ⟨0, 0, 0, 0⟩)
structure Txt (mg : Str → Option Value) : Prop where
  n_len : mg "len" = none
  n_range : mg "range" = none
  n_list : mg "list" = none
  n_isinstance : mg "isinstance" = none
  n_int : mg "int" = none
  n_all : mg "all" = none
  n_set : mg "set" = none
  n_sorted : mg "sorted" = none
  n_tuple : mg "tuple" = none
  n_dict : mg "dict" = none
abbrev bits := Builtin.Int.intBits
theorem bits_of {x : Int} {m : Nat} (M : Int) (h1 : -M ≤ x) (h2 : x ≤ M) (h3 : M.toNat < 2 ^ m) : bits x ≤ m := intBits_le_iff.mpr (by omega)
/-! signs -/
def isSmall (c : Nat) : Bool := decide (97 ≤ c) && decide (c ≤ 122)
def isFig (c : Nat) : Bool := decide (48 ≤ c) && decide (c ≤ 57)
theorem one_lt (a b : Nat) : decide (([a] : List Nat) < [b]) = decide (a < b) := by
  rw [decide_eq_decide]
  constructor
  · intro h
    cases h with
    | rel h => exact h
    | cons h => cases h
  · intro h
    exact List.Lex.rel h
def sp_sign (f : Nat → Bool) : Sp := fun vs H Q _ => ∃ c : Nat, vs = [.str ⟨#[c]⟩] ∧ Q (.bl (f c)) H
theorem rng_if {c lo hi : Nat} {A B : List Nat} (ha : A = [lo]) (hb : B = [hi]) {Q : Bool → Prop} (q : Q (decide (lo ≤ c) && decide (c ≤ hi))) : if ¬ ([c] < A) then Q (!decide (B < [c])) else Q false := by
  subst ha hb
  have e1 := one_lt c lo
  have e2 := one_lt hi c
  rw [e2]
  have e3 : (!decide (hi < c)) = decide (c ≤ hi) := by rw [Bool.eq_iff_iff]; simp
  rw [e3]
  by_cases h : c < lo
  · rw [if_neg (by rw [decide_eq_decide] at e1; simp [e1.mpr h])]
    simpa [show ¬ lo ≤ c by omega] using q
  · rw [if_pos (by rw [decide_eq_decide] at e1; exact fun z => h (e1.mp z))]
    simpa [show lo ≤ c by omega] using q
/-- every sign is one of the document's -/
def Good (x : Str) : Prop := ∀ c ∈ x.cps.toList, 32 ≤ c ∧ c ≤ 126
theorem Good.app {x y : Str} (hx : Good x) (hy : Good y) : Good (x ++ y) := fun c hc => by
  have e : (x ++ y).cps.toList = x.cps.toList ++ y.cps.toList := by show (x.cps ++ y.cps).toList = _; simp
  rw [e] at hc
  rcases List.mem_append.mp hc with h | h
  · exact hx c h
  · exact hy c h
theorem app_len (x y : Str) : (x ++ y).length = x.length + y.length := strLen_append x y
theorem Good.cut {x : Str} (hx : Good x) (lo hi : Option Int) : Good (cutS x lo hi) := fun c hc => by
  unfold cutS at hc
  simp at hc
  exact hx c (by simpa using List.mem_of_mem_drop (List.mem_of_mem_take hc))
theorem menuS {xs : List Str} {i : Int} {P : Str → Prop} (h0 : 0 ≤ i) (h1 : i < xs.length) (hp : ∀ x ∈ xs, P x) : ∃ x, P x ∧ atI (xs.map V.str) i = some (.str x) := by
  obtain ⟨x, hx, e⟩ := menu h0 h1
  exact ⟨x, hp x hx, e⟩
theorem at_ofN {α : Type} {xs : List α} {z : Int} {j : Nat} {v : α} (e : z = (j : Int)) (h : xs[j]? = some v) : atI xs z = some v := by
  rw [e]
  exact atI_nat h
/-! texts of letters and figures -/
def Sm (x : Str) : Prop := ∀ c ∈ x.cps.toList, isSmall c = true
def Pw (x : Str) : Prop := ∀ c ∈ x.cps.toList, (isSmall c || isFig c) = true
theorem app_l (x y : Str) : (x ++ y).cps.toList = x.cps.toList ++ y.cps.toList := by show (x.cps ++ y.cps).toList = _; simp
theorem mem_app {x y : Str} {c : Nat} (h : c ∈ (x ++ y).cps.toList) : c ∈ x.cps.toList ∨ c ∈ y.cps.toList := by
  rw [app_l] at h
  exact List.mem_append.mp h
theorem Sm.app {x y : Str} (hx : Sm x) (hy : Sm y) : Sm (x ++ y) := fun c hc => (mem_app hc).elim (hx c) (hy c)
theorem Pw.app {x y : Str} (hx : Pw x) (hy : Pw y) : Pw (x ++ y) := fun c hc => (mem_app hc).elim (hx c) (hy c)
theorem sm_of {x : Str} (h : x.cps.toList.all isSmall = true) : Sm x := fun c hc => List.all_eq_true.mp h c hc
theorem pw_of {x : Str} (h : (x.cps.toList.all fun c => isSmall c || isFig c) = true) : Pw x := fun c hc => List.all_eq_true.mp h c hc
theorem cut_mem {x : Str} {lo hi : Option Int} {c : Nat} (h : c ∈ (cutS x lo hi).cps.toList) : c ∈ x.cps.toList := by
  unfold cutS at h
  simp at h
  simpa using List.mem_of_mem_drop (List.mem_of_mem_take h)
theorem Sm.cut {x : Str} (hx : Sm x) (lo hi : Option Int) : Sm (cutS x lo hi) := fun c hc => hx c (cut_mem hc)
theorem Same.put {H H' : Hp} {p : Addr} {o : HO} (s : Same H H') (h : H p = none) : Same H (upd H' p o) := fun b u e => by
  rw [upd_ne (ne_of_none e h)]; exact s _ _ e
def Plain (x : Str) : Prop := Pw x ∧ 1 ≤ x.length ∧ x.length ≤ 20
section
variable {P : Program} {w : World} {K : PySem.W.Frag} {mg : Str → Option Value} {base : Heap}
theorem strOk_good {x : Str} (h : Good x) : PyData.strOk x = true := by
  unfold PyData.strOk
  rw [Array.all_eq_true_iff_forall_mem]
  intro c hc
  have := h c (by simpa using hc)
  simp
  omega
theorem But1.sqL {p a : Addr} {H H' : Hp} {xs : List V} (b : But1 p H H') (h : SqL K H a xs) (n : a ≠ p) : SqL K H' a xs := by
  rcases h with (h | ⟨o, h⟩) | h
  · exact .inl (.inl (b _ _ h n))
  · exact .inl (.inr ⟨o, b _ _ h n⟩)
  · exact .inr h
theorem eqv_nil (os : List Str) : (PyData.list (os.map PyData.str)).eqv (PyData.list []) = os.isEmpty := by
  cases os <;> rfl
/-- a tape of two numbers -/
def TpAt (H : Hp) (p : Addr) : Prop := ∃ x y : Int, H p = some (.lst [.int x, .int y])
theorem TpAt.same {H H' : Hp} {p : Addr} (h : TpAt H p) (s : Same H H') : TpAt H' p := by
  obtain ⟨x, y, e⟩ := h
  exact ⟨x, y, s _ _ e⟩
abbrev s_l_nth : Stmt := top 20
abbrev N_l_nth : List Str := ["_law_script", "_law_k"]
theorem sc_l_nth : FnScope N_l_nth ["_law_script", "_law_k"] (defScope s_l_nth) := ⟨rfl, rfl, rfl, by decide +kernel, rfl, by decide +kernel, by decide +kernel⟩
def sp_nth (K : PySem.W.Frag) : Sp := fun vs H Q _ => ∃ (a : Addr) (ns : List Int) (k : Int), vs = [.ref a, .int k] ∧ SqL K H a (ns.map V.int) ∧ ns.length ≤ 63 ∧ 0 ≤ k ∧ ∀ z : Int, (z = 0 ∨ z ∈ ns) → Q (.int z) H
theorem c_nth (T : Txt mg) (D : Def K mg "_law_nth" s_l_nth) : Cal P w K mg base 1 "_law_nth" ["_law_script", "_law_k"] (sp_nth K) := by
  refine D.cal sc_l_nth (fun _ _ _ _ _ _ us hl => match us, hl with | [_, _], _ => rfl) (fun vs H Q E h => ?_) (fun f cdv A outer s H vs Q E hr h => ?_)
  · obtain ⟨a, ns, k, rfl, _⟩ := h; rfl
  · obtain ⟨a, ns, k, rfl, ha, hl, hk, q⟩ := h
    refine ⟨_, (pss_one (ps_ret (pe_ifExp (pt_cmpR op_lt (pv 1) (pe_callB call_len_seq (by rfl) T.n_len (by decide +kernel) (pa_cons (pv 0) pa_nil)) (nomark _)) (pe_ix (r := rIxL K) ix_list (pv 0) (pv 1) (fun _ _ => rfl)) pe_int))), ?_⟩
    have es : start N_l_nth [V.ref a, V.int k] = [some (.ref a), some (.int k)] := rfl
    rw [es]
    simp only [ap_tVar, ap_tC, ap_t2I, ap_tAdd, ap_tSub, ap_tMul, ap_tCmp, ap_tIsN, ap_tNotN, ap_tB, ap_tAnd, ap_tOr, ap_tNot, ap_tAndV, ap_tOrV, ap_tNotV, ap_tIf, ap_tNext, ap_tSeq, ap_tBreak, ap_tCont, ap_tDrop, ap_tRet, ap_tRetN, ap_tIfS, ap_tNever, ap_gName, ap_gNil, ap_gCons, ap_gTup, ap_gSub, ap_tAsg, ap_tPar, ap_tAug, ap_tAugS, ap_ipI, ap_iList, ap_iTup, ap_iRng1, ap_iRng2, ap_tOp, ap_tUn, ap_rI, ap_rI0, ap_rU, ap_rEq, ap_rNe, ap_tTest, ap_tChain, ap_tFld, ap_tCon, ap_sFld, ap_sFldAug, ap_rAdd, ap_rSub, ap_tNil, ap_tCons, ap_tTup, ap_tLst, ap_tCall, ap_tMeth, ap_tMake, ap_tCallK, ap_tCB, ap_tNoPart, ap_tPart, ap_tSl, ap_rSlT, ap_rLtT, ap_rCatT, ap_rIxL, ap_rIxT, ap_rIxS, ap_rIx, ap_rSetL, ap_rSlL, ap_rIn, ap_tBM0, ap_tBM, ap_rAppend, ap_rExtend, ap_rPop, ap_rPopAt, ap_rReverse, ap_rClear, ap_rCat, ap_rRep, ap_rSum, ap_rMax, ap_rMin, ap_rSorted, ap_rSortedS, ap_rSort, ap_rIndex, ap_rAny, ap_rAll, ap_tYes, ap_tDGet, ap_tDIn, ap_tDNotIn, ap_sDPut, ap_sDAug, ap_sDDel, ap_tDNewK, ap_tDNewT, ap_tDisp, ap_tDGet1, ap_tDGet2, ap_tDPop1, ap_tDPop2, ap_tLock, ap_tLockE, ap_iRng3, ap_iRev, ap_iStr, ap_iKeys, ap_iVals, ap_iItems, ap_iKeysM, ap_iEnum, ap_iZip, ap_rNewStrs, ap_tM0, ap_tM1, ap_rSlS, ap_gUnl, ap_rIsB,  ap_tFor, ap_tLc, if_true, if_false, Bool.false_eq_true, Bool.true_eq_false, Bool.not_true, Bool.not_false, not_true_eq_false, not_false_eq_true, cx_K, nox_K, blk_K, List.getElem?_cons_succ, List.getElem?_cons_zero, Option.some.injEq, exists_eq_left', exists_eq_left, exists_eq, exists_eq', V.int.injEq, V.bl.injEq, V.str.injEq, V.ref.injEq, V.ty.injEq, List.cons.injEq, and_true, true_and, exists_and_left, List.set_cons_succ, List.set_cons_zero, List.append_nil, List.nil_append, and_assoc, decide_eq_true_eq, Bool.not_eq_true', decide_eq_false_iff_not, scal, List.length_cons, List.length_nil, Nat.zero_add, Nat.reduceAdd, ap_tCs, ap_tDcB, ap_tLam, ap_tSortK, ap_tDNotIn, ap_tDIn, ap_sDPut, ap_tSetDefF, ap_rLenOf, ap_rTupOf, ap_rNeE, ap_rMaxD, ap_tSortedK, ap_rSortedD, ap_tLockV, ap_rMulS, ap_iEnumS, ap_rRange, ap_rListR, ap_rListD, ap_rDictOf, ap_rNeDs, ap_rEqDs, ap_rListOf, ap_rIsO, ap_rSortedSet, ap_rSortedSA, ap_rDClear, ap_rDUpd, ap_tSl3, ap_rSameL, ap_iItemsL]
    refine ⟨_, .inl ha, ite2 (fun h => ⟨_, ha, ?_⟩) (fun _ => q 0 (.inl rfl))⟩
    rw [List.length_map] at h
    have e : (ns.map V.int)[k.toNat]? = some (.int ns[k.toNat]) := by rw [List.getElem?_map, List.getElem?_eq_getElem (by omega)]; rfl
    exact ⟨_, at_ofN (j := k.toNat) (by omega) e, q _ (.inr (List.getElem_mem _))⟩
abbrev s_l_tape : Stmt := top 21
abbrev N_l_tape : List Str := ["_law_cell", "_law_plain", "_law_number"]
theorem sc_l_tape : FnScope N_l_tape ["_law_cell", "_law_plain"] (defScope s_l_tape) := ⟨rfl, rfl, rfl, by decide +kernel, rfl, by decide +kernel, by decide +kernel⟩
def sp_tape : Sp := fun vs H Q _ => ∃ (c : Int) (b : Bool), vs = [.int c, .bl b] ∧ bits c ≤ 1048576 ∧ ∀ (p : Addr) H', H p = none → Same H H' → TpAt H' p → Q (.ref p) H'
theorem c_tape (T : Txt mg) (D : Def K mg "_law_tape" s_l_tape) : Cal P w K mg base 1 "_law_tape" ["_law_cell", "_law_plain"] sp_tape := by
  refine D.cal sc_l_tape (fun _ _ _ _ _ _ us hl => match us, hl with | [_, _], _ => rfl) (fun vs H Q E h => ?_) (fun f cdv A outer s H vs Q E hr h => ?_)
  · obtain ⟨c, b, rfl, _⟩ := h; rfl
  · obtain ⟨c, b, rfl, hc, q⟩ := h
    refine ⟨_, (pss_cons (ps_set (i := 2) sc_l_tape.nd rfl (by first | exact Or.inl rfl | exact Or.inr rfl) (pe_op op_mod (pe_op op_add (pe_op op_mulX (pv 0) (pe_op op_pow pe_int pe_int)) (pe_op op_pow pe_int pe_int)) (pe_op op_sub (pe_op op_pow pe_int pe_int) pe_int)))
        (pss_one (ps_ret (pe_lst (pa_cons (pe_op op_mulX (pv 0) (pe_callTy call_int1 (by rfl) T.n_int (by decide +kernel) (pa_cons (pv 1) pa_nil))) (pa_cons (pe_op op_mod (pe_op op_mulX (pv 2) (pv 2)) (pe_op op_add (pe_op op_pow pe_int pe_int) pe_int)) pa_nil)))))), ?_⟩
    have es : start N_l_tape [V.int c, V.bl b] = [some (.int c), some (.bl b), none] := rfl
    rw [es]
    simp only [ap_tVar, ap_tC, ap_t2I, ap_tAdd, ap_tSub, ap_tMul, ap_tCmp, ap_tIsN, ap_tNotN, ap_tB, ap_tAnd, ap_tOr, ap_tNot, ap_tAndV, ap_tOrV, ap_tNotV, ap_tIf, ap_tNext, ap_tSeq, ap_tBreak, ap_tCont, ap_tDrop, ap_tRet, ap_tRetN, ap_tIfS, ap_tNever, ap_gName, ap_gNil, ap_gCons, ap_gTup, ap_gSub, ap_tAsg, ap_tPar, ap_tAug, ap_tAugS, ap_ipI, ap_iList, ap_iTup, ap_iRng1, ap_iRng2, ap_tOp, ap_tUn, ap_rI, ap_rI0, ap_rU, ap_rEq, ap_rNe, ap_tTest, ap_tChain, ap_tFld, ap_tCon, ap_sFld, ap_sFldAug, ap_rAdd, ap_rSub, ap_tNil, ap_tCons, ap_tTup, ap_tLst, ap_tCall, ap_tMeth, ap_tMake, ap_tCallK, ap_tCB, ap_tNoPart, ap_tPart, ap_tSl, ap_rSlT, ap_rLtT, ap_rCatT, ap_rIxL, ap_rIxT, ap_rIxS, ap_rIx, ap_rSetL, ap_rSlL, ap_rIn, ap_tBM0, ap_tBM, ap_rAppend, ap_rExtend, ap_rPop, ap_rPopAt, ap_rReverse, ap_rClear, ap_rCat, ap_rRep, ap_rSum, ap_rMax, ap_rMin, ap_rSorted, ap_rSortedS, ap_rSort, ap_rIndex, ap_rAny, ap_rAll, ap_tYes, ap_tDGet, ap_tDIn, ap_tDNotIn, ap_sDPut, ap_sDAug, ap_sDDel, ap_tDNewK, ap_tDNewT, ap_tDisp, ap_tDGet1, ap_tDGet2, ap_tDPop1, ap_tDPop2, ap_tLock, ap_tLockE, ap_iRng3, ap_iRev, ap_iStr, ap_iKeys, ap_iVals, ap_iItems, ap_iKeysM, ap_iEnum, ap_iZip, ap_rNewStrs, ap_tM0, ap_tM1, ap_rSlS, ap_gUnl, ap_rIsB,  ap_tFor, ap_tLc, if_true, if_false, Bool.false_eq_true, Bool.true_eq_false, Bool.not_true, Bool.not_false, not_true_eq_false, not_false_eq_true, cx_K, nox_K, blk_K, List.getElem?_cons_succ, List.getElem?_cons_zero, Option.some.injEq, exists_eq_left', exists_eq_left, exists_eq, exists_eq', V.int.injEq, V.bl.injEq, V.str.injEq, V.ref.injEq, V.ty.injEq, List.cons.injEq, and_true, true_and, exists_and_left, List.set_cons_succ, List.set_cons_zero, List.append_nil, List.nil_append, and_assoc, decide_eq_true_eq, Bool.not_eq_true', decide_eq_false_iff_not, scal, List.length_cons, List.length_nil, Nat.zero_add, Nat.reduceAdd, ap_tCs, ap_tDcB, ap_tLam, ap_tSortK, ap_tDNotIn, ap_tDIn, ap_sDPut, ap_tSetDefF, ap_rLenOf, ap_rTupOf, ap_rNeE, ap_rMaxD, ap_tSortedK, ap_rSortedD, ap_tLockV, ap_rMulS, ap_iEnumS, ap_rRange, ap_rListR, ap_rListD, ap_rDictOf, ap_rNeDs, ap_rEqDs, ap_rListOf, ap_rIsO, ap_rSortedSet, ap_rSortedSA, ap_rDClear, ap_rDUpd, ap_tSl3, ap_rSameL, ap_iItemsL]
    have e1 : (48271 : Int) ^ Int.toNat 9 = 1422907482840247632891030073750636927810831 := by decide +kernel
    have e2 : (10 : Int) ^ Int.toNat 64 = 10000000000000000000000000000000000000000000000000000000000000000 := by decide +kernel
    have p1 : CPow 48271 9 := ⟨by decide, by decide, by decide⟩
    have p2 : CPow 7 60 := ⟨by decide, by decide, by decide⟩
    have p3 : CPow 10 64 := ⟨by decide, by decide, by decide⟩
    rw [e2]
    have key : ∀ u : Int, IntMulOk (u % (10000000000000000000000000000000000000000000000000000000000000000 - 59)) (u % (10000000000000000000000000000000000000000000000000000000000000000 - 59)) := fun u => by
      have hb : bits (u % (10000000000000000000000000000000000000000000000000000000000000000 - 59)) ≤ 220 := bits_of 10000000000000000000000000000000000000000000000000000000000000000 (by omega) (by omega) (by decide +kernel)
      exact IntMulOk.of_bits (Nat.le_trans hb (by decide)) (Nat.le_trans hb (by decide))
    refine ⟨p1, IntMulOk.of_bits hc (by rw [e1]; decide +kernel), p2, p3, by decide, .inr ⟨?_, key _, p3, by decide, by decide, fun p hp => q p _ hp (Same.new hp) ⟨_, _, upd_same⟩⟩⟩
    cases b
    · exact IntMulOk.of_right (by decide +kernel)
    · exact IntMulOk.of_right (by decide +kernel)
abbrev s_l_digit : Stmt := top 22
abbrev N_l_digit : List Str := ["_law_tape_here", "_law_many", "_law_k", "_law_digit_here"]
theorem sc_l_digit : FnScope N_l_digit ["_law_tape_here", "_law_many"] (defScope s_l_digit) := ⟨rfl, rfl, rfl, by decide +kernel, rfl, by decide +kernel, by decide +kernel⟩
def sp_digit : Sp := fun vs H Q _ => ∃ (p : Addr) (n : Int), vs = [.ref p, .int n] ∧ 0 < n ∧ n ≤ 1000 ∧ TpAt H p ∧ ∀ (z : Int) H', 0 ≤ z → z < n → TpAt H' p → But1 p H H' → Q (.int z) H'
theorem c_digit (T : Txt mg) (D : Def K mg "_law_digit" s_l_digit) : Cal P w K mg base 1 "_law_digit" ["_law_tape_here", "_law_many"] sp_digit := by
  refine D.cal sc_l_digit (fun _ _ _ _ _ _ us hl => match us, hl with | [_, _], _ => rfl) (fun vs H Q E h => ?_) (fun f cdv A outer s H vs Q E hr h => ?_)
  · obtain ⟨p, n, rfl, _⟩ := h; rfl
  · obtain ⟨p, n, rfl, hn, hn2, ⟨x, y, hp⟩, q⟩ := h
    refine ⟨_, (pss_cons (ps_set (i := 2) sc_l_digit.nd rfl (by first | exact Or.inl rfl | exact Or.inr rfl) (pe_callTy call_int1 (by rfl) T.n_int (by decide +kernel) (pa_cons (pe_cmpR op_eq (pe_ix (r := rIxL K) ix_list (pv 0) pe_int (fun _ _ => rfl)) pe_int (nomark _)) pa_nil)))
        (pss_cons (ps_set (i := 3) sc_l_digit.nd rfl (by first | exact Or.inl rfl | exact Or.inr rfl) (pe_op op_mod (pe_ix (r := rIxL K) ix_list (pv 0) (pv 2) (fun _ _ => rfl)) (pv 1)))
        (pss_cons (ps_asg (pe_op op_fdivP (pe_ix (r := rIxL K) ix_list (pv 0) (pv 2) (fun _ _ => rfl)) (pv 1)) (pg_sub (pv 0) (pv 2) set_list))
        (pss_one (ps_ret (pv 3)))))), ?_⟩
    have es : start N_l_digit [V.ref p, V.int n] = [some (.ref p), some (.int n), none, none] := rfl
    have hlog : n.natAbs.log2 < 9000 := by
      have h1 : n.natAbs < 2 ^ 10 := by omega
      have h2 := (Nat.log2_lt (show n.natAbs ≠ 0 by omega)).mpr h1
      omega
    rw [es, ap_tSeq]
    simp only [ap_tVar, ap_tC, ap_t2I, ap_tAdd, ap_tSub, ap_tMul, ap_tCmp, ap_tIsN, ap_tNotN, ap_tB, ap_tAnd, ap_tOr, ap_tNot, ap_tAndV, ap_tOrV, ap_tNotV, ap_tIf, ap_tNext, ap_tBreak, ap_tCont, ap_tDrop, ap_tRet, ap_tRetN, ap_tIfS, ap_tNever, ap_gName, ap_gNil, ap_gCons, ap_gTup, ap_gSub, ap_tAsg, ap_tPar, ap_tAug, ap_tAugS, ap_ipI, ap_iList, ap_iTup, ap_iRng1, ap_iRng2, ap_tOp, ap_tUn, ap_rI, ap_rI0, ap_rU, ap_rEq, ap_rNe, ap_tTest, ap_tChain, ap_tFld, ap_tCon, ap_sFld, ap_sFldAug, ap_rAdd, ap_rSub, ap_tNil, ap_tCons, ap_tTup, ap_tLst, ap_tCall, ap_tMeth, ap_tMake, ap_tCallK, ap_tCB, ap_tNoPart, ap_tPart, ap_tSl, ap_rSlT, ap_rLtT, ap_rCatT, ap_rIxL, ap_rIxT, ap_rIxS, ap_rIx, ap_rSetL, ap_rSlL, ap_rIn, ap_tBM0, ap_tBM, ap_rAppend, ap_rExtend, ap_rPop, ap_rPopAt, ap_rReverse, ap_rClear, ap_rCat, ap_rRep, ap_rSum, ap_rMax, ap_rMin, ap_rSorted, ap_rSortedS, ap_rSort, ap_rIndex, ap_rAny, ap_rAll, ap_tYes, ap_tDGet, ap_tDIn, ap_tDNotIn, ap_sDPut, ap_sDAug, ap_sDDel, ap_tDNewK, ap_tDNewT, ap_tDisp, ap_tDGet1, ap_tDGet2, ap_tDPop1, ap_tDPop2, ap_tLock, ap_tLockE, ap_iRng3, ap_iRev, ap_iStr, ap_iKeys, ap_iVals, ap_iItems, ap_iKeysM, ap_iEnum, ap_iZip, ap_rNewStrs, ap_tM0, ap_tM1, ap_rSlS, ap_gUnl, ap_rIsB,  ap_tFor, ap_tLc, if_true, if_false, Bool.false_eq_true, Bool.true_eq_false, Bool.not_true, Bool.not_false, not_true_eq_false, not_false_eq_true, cx_K, nox_K, blk_K, List.getElem?_cons_succ, List.getElem?_cons_zero, Option.some.injEq, exists_eq_left', exists_eq_left, exists_eq, exists_eq', V.int.injEq, V.bl.injEq, V.str.injEq, V.ref.injEq, V.ty.injEq, List.cons.injEq, and_true, true_and, exists_and_left, List.set_cons_succ, List.set_cons_zero, List.append_nil, List.nil_append, and_assoc, decide_eq_true_eq, Bool.not_eq_true', decide_eq_false_iff_not, scal, List.length_cons, List.length_nil, Nat.zero_add, Nat.reduceAdd, ap_tCs, ap_tDcB, ap_tLam, ap_tSortK, ap_tDNotIn, ap_tDIn, ap_sDPut, ap_tSetDefF, ap_rLenOf, ap_rTupOf, ap_rNeE, ap_rMaxD, ap_tSortedK, ap_rSortedD, ap_tLockV, ap_rMulS, ap_iEnumS, ap_rRange, ap_rListR, ap_rListD, ap_rDictOf, ap_rNeDs, ap_rEqDs, ap_rListOf, ap_rIsO, ap_rSortedSet, ap_rSortedSA, ap_rDClear, ap_rDUpd, ap_tSl3, ap_rSameL, ap_iItemsL]
    refine ⟨_, .of hp, _, rfl, rfl, .inr ?_⟩
    have go : ∀ (k : Nat) (u v : Int), (k = 0 ∨ k = 1) → H p = some (.lst [.int u, .int v]) → (tSeq (tAsg (tOp (rI (fun x j => 0 < j) fun i j => V.int (i % j)) (tOp (rIxL K) (tVar 0) (tVar 2)) (tVar 1)) (gName 3))
        (tSeq (tAsg (tOp (rI (fun x j => 0 < j ∧ j.natAbs.log2 < 9000) fun i j => V.int (i / j)) (tOp (rIxL K) (tVar 0) (tVar 2)) (tVar 1)) (gSub (tVar 0) (tVar 2) rSetL)) (tRet (tVar 3))))
        { nx := fun _ H' => Q V.non H', rt := Q } [some (V.ref p), some (V.int n), some (V.int (k : Nat)), none] H := fun k u v hk hp => by
      rw [ap_tSeq]
      simp only [ap_tVar, ap_tC, ap_t2I, ap_tAdd, ap_tSub, ap_tMul, ap_tCmp, ap_tIsN, ap_tNotN, ap_tB, ap_tAnd, ap_tOr, ap_tNot, ap_tAndV, ap_tOrV, ap_tNotV, ap_tIf, ap_tNext, ap_tSeq, ap_tBreak, ap_tCont, ap_tDrop, ap_tRet, ap_tRetN, ap_tIfS, ap_tNever, ap_gName, ap_gNil, ap_gCons, ap_gTup, ap_gSub, ap_tAsg, ap_tPar, ap_tAug, ap_tAugS, ap_ipI, ap_iList, ap_iTup, ap_iRng1, ap_iRng2, ap_tOp, ap_tUn, ap_rI, ap_rI0, ap_rU, ap_rEq, ap_rNe, ap_tTest, ap_tChain, ap_tFld, ap_tCon, ap_sFld, ap_sFldAug, ap_rAdd, ap_rSub, ap_tNil, ap_tCons, ap_tTup, ap_tLst, ap_tCall, ap_tMeth, ap_tMake, ap_tCallK, ap_tCB, ap_tNoPart, ap_tPart, ap_tSl, ap_rSlT, ap_rLtT, ap_rCatT, ap_rIxL, ap_rIxT, ap_rIxS, ap_rIx, ap_rSetL, ap_rSlL, ap_rIn, ap_tBM0, ap_tBM, ap_rAppend, ap_rExtend, ap_rPop, ap_rPopAt, ap_rReverse, ap_rClear, ap_rCat, ap_rRep, ap_rSum, ap_rMax, ap_rMin, ap_rSorted, ap_rSortedS, ap_rSort, ap_rIndex, ap_rAny, ap_rAll, ap_tYes, ap_tDGet, ap_tDIn, ap_tDNotIn, ap_sDPut, ap_sDAug, ap_sDDel, ap_tDNewK, ap_tDNewT, ap_tDisp, ap_tDGet1, ap_tDGet2, ap_tDPop1, ap_tDPop2, ap_tLock, ap_tLockE, ap_iRng3, ap_iRev, ap_iStr, ap_iKeys, ap_iVals, ap_iItems, ap_iKeysM, ap_iEnum, ap_iZip, ap_rNewStrs, ap_tM0, ap_tM1, ap_rSlS, ap_gUnl, ap_rIsB,  ap_tFor, ap_tLc, if_true, if_false, Bool.false_eq_true, Bool.true_eq_false, Bool.not_true, Bool.not_false, not_true_eq_false, not_false_eq_true, cx_K, nox_K, blk_K, List.getElem?_cons_succ, List.getElem?_cons_zero, Option.some.injEq, exists_eq_left', exists_eq_left, exists_eq, exists_eq', V.int.injEq, V.bl.injEq, V.str.injEq, V.ref.injEq, V.ty.injEq, List.cons.injEq, and_true, true_and, exists_and_left, List.set_cons_succ, List.set_cons_zero, List.append_nil, List.nil_append, and_assoc, decide_eq_true_eq, Bool.not_eq_true', decide_eq_false_iff_not, scal, List.length_cons, List.length_nil, Nat.zero_add, Nat.reduceAdd, ap_tCs, ap_tDcB, ap_tLam, ap_tSortK, ap_tDNotIn, ap_tDIn, ap_sDPut, ap_tSetDefF, ap_rLenOf, ap_rTupOf, ap_rNeE, ap_rMaxD, ap_tSortedK, ap_rSortedD, ap_tLockV, ap_rMulS, ap_iEnumS, ap_rRange, ap_rListR, ap_rListD, ap_rDictOf, ap_rNeDs, ap_rEqDs, ap_rListOf, ap_rIsO, ap_rSortedSet, ap_rSortedSA, ap_rDClear, ap_rDUpd, ap_tSl3, ap_rSameL, ap_iItemsL]
      rcases hk with rfl | rfl
      · refine ⟨_, .of hp, _, rfl, _, rfl, hn, _, .of hp, _, rfl, _, rfl, hn, hlog, _, hp, 0, by rfl, ?_⟩
        exact q _ _ (Int.emod_nonneg _ (by omega)) (Int.emod_lt_of_pos _ hn) ⟨_, _, upd_same⟩ But1.put
      · refine ⟨_, .of hp, _, rfl, _, rfl, hn, _, .of hp, _, rfl, _, rfl, hn, hlog, _, hp, 1, by rfl, ?_⟩
        exact q _ _ (Int.emod_nonneg _ (by omega)) (Int.emod_lt_of_pos _ hn) ⟨_, _, upd_same⟩ But1.put
    by_cases hx : V.int x = V.int 0
    · rw [if_pos hx]
      exact go 1 x y (.inr rfl) hp
    · rw [if_neg hx]
      exact go 0 x y (.inl rfl) hp
abbrev s_l_name : Stmt := top 23
abbrev N_l_name : List Str := ["_law_tape_here", "_law_old", "_law_most", "_law_name_here", "_law_k"]
theorem sc_l_name : FnScope N_l_name ["_law_tape_here", "_law_old", "_law_most"] (defScope s_l_name) := ⟨rfl, rfl, rfl, by decide +kernel, rfl, by decide +kernel, by decide +kernel⟩
abbrev abcS : Str := Str.ofString "abcdefghijklmnopqrstuvwxyz"
theorem abc_at {k : Int} (h0 : 0 ≤ k) (h1 : k < 26) : ∃ c, atI abcS.cps.toList k = some c ∧ Sm ⟨#[c]⟩ := by
  have hl : abcS.cps.toList.length = 26 := by decide +kernel
  have hk : k.toNat < abcS.cps.toList.length := by omega
  refine ⟨_, at_ofN (j := k.toNat) (by omega) (List.getElem?_eq_getElem hk), fun d hd => ?_⟩
  have e : d = abcS.cps.toList[k.toNat] := by simpa using hd
  rw [e]
  exact List.all_eq_true.mp (show abcS.cps.toList.all isSmall = true by decide +kernel) _ (List.getElem_mem _)
/-- a name -/
def NmOk (n : Str) : Prop := Sm n ∧ 1 ≤ n.length ∧ n.length ≤ 8
theorem Sm.good {x : Str} (h : Sm x) : Good x := fun c hc => by
  have := h c hc
  unfold isSmall at this
  simp at this
  omega
theorem NmOk.good {n : Str} (h : NmOk n) : Good n := h.1.good
def sp_name (K : PySem.W.Frag) : Sp := fun vs H Q _ => ∃ (p a : Addr) (os : List Str) (m : Int), vs = [.ref p, .ref a, .int m] ∧ TpAt H p ∧ SqL K H a (os.map V.str) ∧ (∀ n ∈ os, NmOk n) ∧ 0 < m ∧ os.length ≤ 1000 ∧ p ≠ a ∧ ∀ (n : Str) H', NmOk n → ((os.length : Int) < m ∨ n ∈ os) → TpAt H' p → But1 p H H' → Q (.str n) H'
def NmI (H : Hp) (p a : Addr) (m : Int) (vv : Option V) (i : Nat) (σ : St) (H' : Hp) : Prop := ∃ (n : Str) (v4 : Option V), σ = [some (.ref p), some (.ref a), some (.int m), some (.str n), v4] ∧ TpAt H' p ∧ But1 p H H' ∧ Sm n ∧ n.length = i
theorem c_name (T : Txt mg) (D : Def K mg "_law_name" s_l_name) (C_l_digit : Cal P w K mg base 1 "_law_digit" ["_law_tape_here", "_law_many"] sp_digit) : Cal P w K mg base 2 "_law_name" ["_law_tape_here", "_law_old", "_law_most"] (sp_name K) := by
  refine D.cal sc_l_name (fun _ _ _ _ _ _ us hl => match us, hl with | [_, _, _], _ => rfl) (fun vs H Q E h => ?_) (fun f cdv A outer s H vs Q E hr h => ?_)
  · obtain ⟨p, a, os, m, rfl, _⟩ := h; rfl
  · obtain ⟨p, a, os, m, rfl, hp, ha, ho, hm, hol, hpa, q⟩ := h
    refine ⟨_, (pss_cons (ps_if (PW.pt (pw_or (pt_cmpR op_ge (pe_callB call_len_seq (by rfl) T.n_len (by decide +kernel) (pa_cons (pv 1) pa_nil)) (pv 2) (nomark _)) (pw_or1 (PW.pt (pw_and (pt_cmpR (r := rNeD K) (op_neD hr.units) (pv 1) (pe_lst (pa_nil)) (nomark _)) (pw_and1 (pt_cmpR op_gt (pe_callC C_l_digit (hr.mono (by decide)) (pa_cons (pv 0) (pa_cons pe_int pa_nil))) pe_int (nomark _)))))))) (pss_one (ps_ret (pe_ix (r := rIxL K) ix_list (pv 1) (pe_callC C_l_digit (hr.mono (by decide)) (pa_cons (pv 0) (pa_cons (pe_callB call_len_seq (by rfl) T.n_len (by decide +kernel) (pa_cons (pv 1) pa_nil)) pa_nil))) (fun _ _ => rfl)))) pss_nil)
        (pss_cons (ps_set (i := 3) sc_l_name.nd rfl (by first | exact Or.inl rfl | exact Or.inr rfl) pe_str)
        (pss_cons (ps_for PassesOwn.never rfl (pi_range1 (by rfl) T.n_range (pa_cons (pe_op op_add pe_int (pe_callC C_l_digit (hr.mono (by decide)) (pa_cons (pv 0) (pa_cons pe_int pa_nil)))) pa_nil)) (pg_name (i := 4) sc_l_name.nd rfl (by first | exact Or.inl rfl | exact Or.inr rfl)) (pss_one (ps_set (i := 3) sc_l_name.nd rfl (by first | exact Or.inl rfl | exact Or.inr rfl) (pe_op op_add_str (pv 3) (pe_ix (r := rIxS) ix_str pe_str (pe_callC C_l_digit (hr.mono (by decide)) (pa_cons (pv 0) (pa_cons pe_int pa_nil))) (fun _ _ => rfl))))))
        (pss_one (ps_ret (pv 3)))))), ?_⟩
    have es : start N_l_name [V.ref p, V.ref a, V.int m] = [some (.ref p), some (.ref a), some (.int m), none, none] := rfl
    rw [es, ap_tSeq]
    refine nx_gen fun nx hnx => ?_
    have pick : ∀ H1 : Hp, TpAt H1 p → But1 p H H1 → os ≠ [] → ∃ x, (SqL K H1 a x ∨ SqT K H1 a x) ∧ 0 < ((x.length : Nat) : Int) ∧ ((x.length : Nat) : Int) ≤ 1000 ∧ TpAt H1 p ∧ ∀ (z : Int) (H' : Hp), 0 ≤ z → z < ((x.length : Nat) : Int) → TpAt H' p → But1 p H1 H' → ∃ x, SqL K H' a x ∧ ∃ v, atI x z = some v ∧ Q v H' := fun H1 h1 b1 hne => by
      have e0 : 0 < os.length := List.length_pos_iff.mpr hne
      have e1 : os.length ≤ 1000 := hol
      refine ⟨_, .inl (But1.sqL b1 ha hpa.symm), by rw [List.length_map]; omega, by rw [List.length_map]; omega, h1, fun z H2 z0 z1 h2 b2 => ?_⟩
      rw [List.length_map] at z1
      obtain ⟨n, hn, e⟩ := menu (xs := os) z0 (by omega)
      exact ⟨_, But1.sqL (b1.trans b2) ha hpa.symm, _, e, q n H2 (ho n hn) (.inr hn) h2 (b1.trans b2)⟩
    simp only [ap_tVar, ap_tC, ap_t2I, ap_tAdd, ap_tSub, ap_tMul, ap_tCmp, ap_tIsN, ap_tNotN, ap_tB, ap_tAnd, ap_tOr, ap_tNot, ap_tAndV, ap_tOrV, ap_tNotV, ap_tIf, ap_tNext, ap_tBreak, ap_tCont, ap_tDrop, ap_tRet, ap_tRetN, ap_tIfS, ap_tNever, ap_gName, ap_gNil, ap_gCons, ap_gTup, ap_gSub, ap_tAsg, ap_tPar, ap_tAug, ap_tAugS, ap_ipI, ap_iList, ap_iTup, ap_iRng1, ap_iRng2, ap_tOp, ap_tUn, ap_rI, ap_rI0, ap_rU, ap_rEq, ap_rNe, ap_tTest, ap_tChain, ap_tFld, ap_tCon, ap_sFld, ap_sFldAug, ap_rAdd, ap_rSub, ap_tNil, ap_tCons, ap_tTup, ap_tLst, ap_tCall, ap_tMeth, ap_tMake, ap_tCallK, ap_tCB, ap_tNoPart, ap_tPart, ap_tSl, ap_rSlT, ap_rLtT, ap_rCatT, ap_rIxL, ap_rIxT, ap_rIxS, ap_rIx, ap_rSetL, ap_rSlL, ap_rIn, ap_tBM0, ap_tBM, ap_rAppend, ap_rExtend, ap_rPop, ap_rPopAt, ap_rReverse, ap_rClear, ap_rCat, ap_rRep, ap_rSum, ap_rMax, ap_rMin, ap_rSorted, ap_rSortedS, ap_rSort, ap_rIndex, ap_rAny, ap_rAll, ap_tYes, ap_tDGet, ap_tDIn, ap_tDNotIn, ap_sDPut, ap_sDAug, ap_sDDel, ap_tDNewK, ap_tDNewT, ap_tDisp, ap_tDGet1, ap_tDGet2, ap_tDPop1, ap_tDPop2, ap_tLock, ap_tLockE, ap_iRng3, ap_iRev, ap_iStr, ap_iKeys, ap_iVals, ap_iItems, ap_iKeysM, ap_iEnum, ap_iZip, ap_rNewStrs, ap_tM0, ap_tM1, ap_rSlS, ap_gUnl, ap_rIsB,  ap_tFor, ap_tLc, if_true, if_false, Bool.false_eq_true, Bool.true_eq_false, Bool.not_true, Bool.not_false, not_true_eq_false, not_false_eq_true, cx_K, nox_K, blk_K, List.getElem?_cons_succ, List.getElem?_cons_zero, Option.some.injEq, exists_eq_left', exists_eq_left, exists_eq, exists_eq', V.int.injEq, V.bl.injEq, V.str.injEq, V.ref.injEq, V.ty.injEq, List.cons.injEq, and_true, true_and, exists_and_left, List.set_cons_succ, List.set_cons_zero, List.append_nil, List.nil_append, and_assoc, decide_eq_true_eq, Bool.not_eq_true', decide_eq_false_iff_not, scal, List.length_cons, List.length_nil, Nat.zero_add, Nat.reduceAdd, ap_tCs, ap_tDcB, ap_tLam, ap_tSortK, ap_tDNotIn, ap_tDIn, ap_sDPut, ap_tSetDefF, ap_rLenOf, ap_rTupOf, ap_rNeE, ap_rMaxD, ap_tSortedK, ap_rSortedD, ap_tLockV, ap_rMulS, ap_iEnumS, ap_rRange, ap_rListR, ap_rListD, ap_rDictOf, ap_rNeDs, ap_rEqDs, ap_rListOf, ap_rIsO, ap_rSortedSet, ap_rSortedSA, ap_rDClear, ap_rDUpd, ap_tSl3, ap_rSameL, ap_iItemsL, sp_digit]
    refine ⟨_, .inl ha, ?_⟩
    rw [List.length_map]
    refine ite2 (fun hm2 => pick H hp But1.refl (by intro z; rw [z] at hm2; simp at hm2; omega)) (fun hm2 => ?_)
    have cont : ∀ H1, TpAt H1 p → But1 p H H1 → nx [some (.ref p), some (.ref a), some (.int m), none, none] H1 := fun H1 h1 b1 => by
      rw [hnx]
      dsimp only
      rw [ap_tSeq]
      simp only [ap_tVar, ap_tC, ap_t2I, ap_tAdd, ap_tSub, ap_tMul, ap_tCmp, ap_tIsN, ap_tNotN, ap_tB, ap_tAnd, ap_tOr, ap_tNot, ap_tAndV, ap_tOrV, ap_tNotV, ap_tIf, ap_tNext, ap_tBreak, ap_tCont, ap_tDrop, ap_tRet, ap_tRetN, ap_tIfS, ap_tNever, ap_gName, ap_gNil, ap_gCons, ap_gTup, ap_gSub, ap_tAsg, ap_tPar, ap_tAug, ap_tAugS, ap_ipI, ap_iList, ap_iTup, ap_iRng1, ap_iRng2, ap_tOp, ap_tUn, ap_rI, ap_rI0, ap_rU, ap_rEq, ap_rNe, ap_tTest, ap_tChain, ap_tFld, ap_tCon, ap_sFld, ap_sFldAug, ap_rAdd, ap_rSub, ap_tNil, ap_tCons, ap_tTup, ap_tLst, ap_tCall, ap_tMeth, ap_tMake, ap_tCallK, ap_tCB, ap_tNoPart, ap_tPart, ap_tSl, ap_rSlT, ap_rLtT, ap_rCatT, ap_rIxL, ap_rIxT, ap_rIxS, ap_rIx, ap_rSetL, ap_rSlL, ap_rIn, ap_tBM0, ap_tBM, ap_rAppend, ap_rExtend, ap_rPop, ap_rPopAt, ap_rReverse, ap_rClear, ap_rCat, ap_rRep, ap_rSum, ap_rMax, ap_rMin, ap_rSorted, ap_rSortedS, ap_rSort, ap_rIndex, ap_rAny, ap_rAll, ap_tYes, ap_tDGet, ap_tDIn, ap_tDNotIn, ap_sDPut, ap_sDAug, ap_sDDel, ap_tDNewK, ap_tDNewT, ap_tDisp, ap_tDGet1, ap_tDGet2, ap_tDPop1, ap_tDPop2, ap_tLock, ap_tLockE, ap_iRng3, ap_iRev, ap_iStr, ap_iKeys, ap_iVals, ap_iItems, ap_iKeysM, ap_iEnum, ap_iZip, ap_rNewStrs, ap_tM0, ap_tM1, ap_rSlS, ap_gUnl, ap_rIsB,  ap_tFor, ap_tLc, if_true, if_false, Bool.false_eq_true, Bool.true_eq_false, Bool.not_true, Bool.not_false, not_true_eq_false, not_false_eq_true, cx_K, nox_K, blk_K, List.getElem?_cons_succ, List.getElem?_cons_zero, Option.some.injEq, exists_eq_left', exists_eq_left, exists_eq, exists_eq', V.int.injEq, V.bl.injEq, V.str.injEq, V.ref.injEq, V.ty.injEq, List.cons.injEq, and_true, true_and, exists_and_left, List.set_cons_succ, List.set_cons_zero, List.append_nil, List.nil_append, and_assoc, decide_eq_true_eq, Bool.not_eq_true', decide_eq_false_iff_not, scal, List.length_cons, List.length_nil, Nat.zero_add, Nat.reduceAdd, ap_tCs, ap_tDcB, ap_tLam, ap_tSortK, ap_tDNotIn, ap_tDIn, ap_sDPut, ap_tSetDefF, ap_rLenOf, ap_rTupOf, ap_rNeE, ap_rMaxD, ap_tSortedK, ap_rSortedD, ap_tLockV, ap_rMulS, ap_iEnumS, ap_rRange, ap_rListR, ap_rListD, ap_rDictOf, ap_rNeDs, ap_rEqDs, ap_rListOf, ap_rIsO, ap_rSortedSet, ap_rSortedSA, ap_rDClear, ap_rDUpd, ap_tSl3, ap_rSameL, ap_iItemsL]
      rw [ap_tSeq]
      simp only [ap_tVar, ap_tC, ap_t2I, ap_tAdd, ap_tSub, ap_tMul, ap_tCmp, ap_tIsN, ap_tNotN, ap_tB, ap_tAnd, ap_tOr, ap_tNot, ap_tAndV, ap_tOrV, ap_tNotV, ap_tIf, ap_tNext, ap_tBreak, ap_tCont, ap_tDrop, ap_tRet, ap_tRetN, ap_tIfS, ap_tNever, ap_gName, ap_gNil, ap_gCons, ap_gTup, ap_gSub, ap_tAsg, ap_tPar, ap_tAug, ap_tAugS, ap_ipI, ap_iList, ap_iTup, ap_iRng1, ap_iRng2, ap_tOp, ap_tUn, ap_rI, ap_rI0, ap_rU, ap_rEq, ap_rNe, ap_tTest, ap_tChain, ap_tFld, ap_tCon, ap_sFld, ap_sFldAug, ap_rAdd, ap_rSub, ap_tNil, ap_tCons, ap_tTup, ap_tLst, ap_tCall, ap_tMeth, ap_tMake, ap_tCallK, ap_tCB, ap_tNoPart, ap_tPart, ap_tSl, ap_rSlT, ap_rLtT, ap_rCatT, ap_rIxL, ap_rIxT, ap_rIxS, ap_rIx, ap_rSetL, ap_rSlL, ap_rIn, ap_tBM0, ap_tBM, ap_rAppend, ap_rExtend, ap_rPop, ap_rPopAt, ap_rReverse, ap_rClear, ap_rCat, ap_rRep, ap_rSum, ap_rMax, ap_rMin, ap_rSorted, ap_rSortedS, ap_rSort, ap_rIndex, ap_rAny, ap_rAll, ap_tYes, ap_tDGet, ap_tDIn, ap_tDNotIn, ap_sDPut, ap_sDAug, ap_sDDel, ap_tDNewK, ap_tDNewT, ap_tDisp, ap_tDGet1, ap_tDGet2, ap_tDPop1, ap_tDPop2, ap_tLock, ap_tLockE, ap_iRng3, ap_iRev, ap_iStr, ap_iKeys, ap_iVals, ap_iItems, ap_iKeysM, ap_iEnum, ap_iZip, ap_rNewStrs, ap_tM0, ap_tM1, ap_rSlS, ap_gUnl, ap_rIsB,  ap_tFor, ap_tLc, if_true, if_false, Bool.false_eq_true, Bool.true_eq_false, Bool.not_true, Bool.not_false, not_true_eq_false, not_false_eq_true, cx_K, nox_K, blk_K, List.getElem?_cons_succ, List.getElem?_cons_zero, Option.some.injEq, exists_eq_left', exists_eq_left, exists_eq, exists_eq', V.int.injEq, V.bl.injEq, V.str.injEq, V.ref.injEq, V.ty.injEq, List.cons.injEq, and_true, true_and, exists_and_left, List.set_cons_succ, List.set_cons_zero, List.append_nil, List.nil_append, and_assoc, decide_eq_true_eq, Bool.not_eq_true', decide_eq_false_iff_not, scal, List.length_cons, List.length_nil, Nat.zero_add, Nat.reduceAdd, ap_tCs, ap_tDcB, ap_tLam, ap_tSortK, ap_tDNotIn, ap_tDIn, ap_sDPut, ap_tSetDefF, ap_rLenOf, ap_rTupOf, ap_rNeE, ap_rMaxD, ap_tSortedK, ap_rSortedD, ap_tLockV, ap_rMulS, ap_iEnumS, ap_rRange, ap_rListR, ap_rListD, ap_rDictOf, ap_rNeDs, ap_rEqDs, ap_rListOf, ap_rIsO, ap_rSortedSet, ap_rSortedSA, ap_rDClear, ap_rDUpd, ap_tSl3, ap_rSameL, ap_iItemsL, sp_digit]
      refine ⟨by decide, by decide, h1, fun z H2 z0 z1 h2 b2 => ⟨by omega, by omega, ?_⟩⟩
      refine forB_range (NmI H p a m none) ⟨Str.ofString "", none, rfl, h2, b1.trans b2, sm_of (by decide +kernel), by decide +kernel⟩ ?_ ?_
      · rintro i σ H3 hi ⟨n, v4, rfl, h3, b3, hn, hl⟩
        simp only [ap_tVar, ap_tC, ap_t2I, ap_tAdd, ap_tSub, ap_tMul, ap_tCmp, ap_tIsN, ap_tNotN, ap_tB, ap_tAnd, ap_tOr, ap_tNot, ap_tAndV, ap_tOrV, ap_tNotV, ap_tIf, ap_tNext, ap_tBreak, ap_tCont, ap_tDrop, ap_tRet, ap_tRetN, ap_tIfS, ap_tNever, ap_gName, ap_gNil, ap_gCons, ap_gTup, ap_gSub, ap_tAsg, ap_tPar, ap_tAug, ap_tAugS, ap_ipI, ap_iList, ap_iTup, ap_iRng1, ap_iRng2, ap_tOp, ap_tUn, ap_rI, ap_rI0, ap_rU, ap_rEq, ap_rNe, ap_tTest, ap_tChain, ap_tFld, ap_tCon, ap_sFld, ap_sFldAug, ap_rAdd, ap_rSub, ap_tNil, ap_tCons, ap_tTup, ap_tLst, ap_tCall, ap_tMeth, ap_tMake, ap_tCallK, ap_tCB, ap_tNoPart, ap_tPart, ap_tSl, ap_rSlT, ap_rLtT, ap_rCatT, ap_rIxL, ap_rIxT, ap_rIxS, ap_rIx, ap_rSetL, ap_rSlL, ap_rIn, ap_tBM0, ap_tBM, ap_rAppend, ap_rExtend, ap_rPop, ap_rPopAt, ap_rReverse, ap_rClear, ap_rCat, ap_rRep, ap_rSum, ap_rMax, ap_rMin, ap_rSorted, ap_rSortedS, ap_rSort, ap_rIndex, ap_rAny, ap_rAll, ap_tYes, ap_tDGet, ap_tDIn, ap_tDNotIn, ap_sDPut, ap_sDAug, ap_sDDel, ap_tDNewK, ap_tDNewT, ap_tDisp, ap_tDGet1, ap_tDGet2, ap_tDPop1, ap_tDPop2, ap_tLock, ap_tLockE, ap_iRng3, ap_iRev, ap_iStr, ap_iKeys, ap_iVals, ap_iItems, ap_iKeysM, ap_iEnum, ap_iZip, ap_rNewStrs, ap_tM0, ap_tM1, ap_rSlS, ap_gUnl, ap_rIsB,  ap_tFor, ap_tLc, if_true, if_false, Bool.false_eq_true, Bool.true_eq_false, Bool.not_true, Bool.not_false, not_true_eq_false, not_false_eq_true, cx_K, nox_K, blk_K, List.getElem?_cons_succ, List.getElem?_cons_zero, Option.some.injEq, exists_eq_left', exists_eq_left, exists_eq, exists_eq', V.int.injEq, V.bl.injEq, V.str.injEq, V.ref.injEq, V.ty.injEq, List.cons.injEq, and_true, true_and, exists_and_left, List.set_cons_succ, List.set_cons_zero, List.append_nil, List.nil_append, and_assoc, decide_eq_true_eq, Bool.not_eq_true', decide_eq_false_iff_not, scal, List.length_cons, List.length_nil, Nat.zero_add, Nat.reduceAdd, ap_tCs, ap_tDcB, ap_tLam, ap_tSortK, ap_tDNotIn, ap_tDIn, ap_sDPut, ap_tSetDefF, ap_rLenOf, ap_rTupOf, ap_rNeE, ap_rMaxD, ap_tSortedK, ap_rSortedD, ap_tLockV, ap_rMulS, ap_iEnumS, ap_rRange, ap_rListR, ap_rListD, ap_rDictOf, ap_rNeDs, ap_rEqDs, ap_rListOf, ap_rIsO, ap_rSortedSet, ap_rSortedSA, ap_rDClear, ap_rDUpd, ap_tSl3, ap_rSameL, ap_iItemsL, sp_digit]
        refine ⟨by decide, by decide, h3, fun k H4 k0 k1 h4 b4 => ?_⟩
        obtain ⟨c, hk, hs⟩ := abc_at k0 k1
        have hi8 : i < 8 := by omega
        have hz : n.length + (⟨#[c]⟩ : Str).length ≤ sizeLine := Nat.le_of_lt (small1000 (by show n.length + 1 ≤ 1000; omega))
        exact ⟨by decide, _, hk, hz, _, _, rfl, h4, b3.trans b4, hn.app hs, by rw [app_len, hl]; rfl⟩
      · rintro σ H3 ⟨n, v4, rfl, h3, b3, hn, hl⟩
        simp only [ap_tVar, ap_tC, ap_t2I, ap_tAdd, ap_tSub, ap_tMul, ap_tCmp, ap_tIsN, ap_tNotN, ap_tB, ap_tAnd, ap_tOr, ap_tNot, ap_tAndV, ap_tOrV, ap_tNotV, ap_tIf, ap_tNext, ap_tSeq, ap_tBreak, ap_tCont, ap_tDrop, ap_tRet, ap_tRetN, ap_tIfS, ap_tNever, ap_gName, ap_gNil, ap_gCons, ap_gTup, ap_gSub, ap_tAsg, ap_tPar, ap_tAug, ap_tAugS, ap_ipI, ap_iList, ap_iTup, ap_iRng1, ap_iRng2, ap_tOp, ap_tUn, ap_rI, ap_rI0, ap_rU, ap_rEq, ap_rNe, ap_tTest, ap_tChain, ap_tFld, ap_tCon, ap_sFld, ap_sFldAug, ap_rAdd, ap_rSub, ap_tNil, ap_tCons, ap_tTup, ap_tLst, ap_tCall, ap_tMeth, ap_tMake, ap_tCallK, ap_tCB, ap_tNoPart, ap_tPart, ap_tSl, ap_rSlT, ap_rLtT, ap_rCatT, ap_rIxL, ap_rIxT, ap_rIxS, ap_rIx, ap_rSetL, ap_rSlL, ap_rIn, ap_tBM0, ap_tBM, ap_rAppend, ap_rExtend, ap_rPop, ap_rPopAt, ap_rReverse, ap_rClear, ap_rCat, ap_rRep, ap_rSum, ap_rMax, ap_rMin, ap_rSorted, ap_rSortedS, ap_rSort, ap_rIndex, ap_rAny, ap_rAll, ap_tYes, ap_tDGet, ap_tDIn, ap_tDNotIn, ap_sDPut, ap_sDAug, ap_sDDel, ap_tDNewK, ap_tDNewT, ap_tDisp, ap_tDGet1, ap_tDGet2, ap_tDPop1, ap_tDPop2, ap_tLock, ap_tLockE, ap_iRng3, ap_iRev, ap_iStr, ap_iKeys, ap_iVals, ap_iItems, ap_iKeysM, ap_iEnum, ap_iZip, ap_rNewStrs, ap_tM0, ap_tM1, ap_rSlS, ap_gUnl, ap_rIsB,  ap_tFor, ap_tLc, if_true, if_false, Bool.false_eq_true, Bool.true_eq_false, Bool.not_true, Bool.not_false, not_true_eq_false, not_false_eq_true, cx_K, nox_K, blk_K, List.getElem?_cons_succ, List.getElem?_cons_zero, Option.some.injEq, exists_eq_left', exists_eq_left, exists_eq, exists_eq', V.int.injEq, V.bl.injEq, V.str.injEq, V.ref.injEq, V.ty.injEq, List.cons.injEq, and_true, true_and, exists_and_left, List.set_cons_succ, List.set_cons_zero, List.append_nil, List.nil_append, and_assoc, decide_eq_true_eq, Bool.not_eq_true', decide_eq_false_iff_not, scal, List.length_cons, List.length_nil, Nat.zero_add, Nat.reduceAdd, ap_tCs, ap_tDcB, ap_tLam, ap_tSortK, ap_tDNotIn, ap_tDIn, ap_sDPut, ap_tSetDefF, ap_rLenOf, ap_rTupOf, ap_rNeE, ap_rMaxD, ap_tSortedK, ap_rSortedD, ap_tLockV, ap_rMulS, ap_iEnumS, ap_rRange, ap_rListR, ap_rListD, ap_rDictOf, ap_rNeDs, ap_rEqDs, ap_rListOf, ap_rIsO, ap_rSortedSet, ap_rSortedSA, ap_rDClear, ap_rDUpd, ap_tSl3, ap_rSameL, ap_iItemsL]
        exact q n H3 ⟨hn, by omega, by omega⟩ (.inl (by omega)) h3 b3
    refine ⟨by decide, fun D hD => ?_⟩
    have s1 := Same.new hD (o := .lst [])
    have hDn := upd_same (H := H) (a := D) (o := .lst [])
    generalize upd H D (.lst []) = H1 at *
    have b1 := But1.of (p := p) s1
    refine ⟨.list (os.map PyData.str), .list [], .lst (s1.sqL ha) (strs_dp os), .lst (.of hDn) .nil, strs_shaped (fun y hy => strOk_good (ho y hy).good), by decide, _, rfl, ?_⟩
    rw [eqv_nil]
    refine ite2 (fun hne => ⟨by decide, by decide, hp.same s1, fun z H2 z0 z1 h2 b2 => ite2 (fun _ => pick H2 h2 (b1.trans b2) (by simpa using hne)) (fun _ => cont H2 h2 (b1.trans b2))⟩) (fun _ => cont H1 (hp.same s1) b1)
end
end My
set_option maxHeartbeats 4000000

namespace My
open PySem L2
section
variable {P : Program} {w : World} {K : PySem.W.Frag} {mg : Str → Option Value} {base : Heap}
/-- a text of the house: its signs, no percent among them -/
def TxS (x : Str) : Prop := (∀ c ∈ x.cps.toList, 32 ≤ c ∧ c ≤ 126 ∧ c ≠ 37) ∧ x.length ≤ 500
theorem TxS.good {x : Str} (h : TxS x) : Good x := fun c hc => ⟨(h.1 c hc).1, (h.1 c hc).2.1⟩
def Sg (x : Str) : Prop := ∀ c ∈ x.cps.toList, 32 ≤ c ∧ c ≤ 126 ∧ c ≠ 37
theorem Sg.app {x y : Str} (hx : Sg x) (hy : Sg y) : Sg (x ++ y) := fun c hc => (mem_app hc).elim (hx c) (hy c)
def sgB (x : Str) : Bool := x.cps.toList.all fun c => decide (32 ≤ c) && decide (c ≤ 126) && decide (c ≠ 37)
theorem sg_of {x : Str} (h : sgB x = true) : Sg x := fun c hc => by
  have := List.all_eq_true.mp h c hc
  simp at this
  exact ⟨this.1.1, this.1.2, this.2⟩
theorem Sg.one {sg : Str} {c : Nat} (hs : Sg sg) (h : c ∈ sg.cps.toList) : Sg ⟨#[c]⟩ := fun d hd => by
  have : d = c := by simpa using hd
  rw [this]; exact hs _ h
theorem sj0 : ∀ ys : List Str, (Str.join (Str.ofString "") ys).cps.toList = (ys.map fun y => y.cps.toList).flatten
  | [] => rfl
  | [x] => by simp [Str.join]
  | x :: z :: r => by
    have e : (Str.join (Str.ofString "") (x :: z :: r)).cps.toList = x.cps.toList ++ (Str.join (Str.ofString "") (z :: r)).cps.toList := by
      show ((x.cps ++ (Str.ofString "").cps) ++ (Str.join (Str.ofString "") (z :: r)).cps).toList = _
      have e0 : (Str.ofString "").cps.toList = [] := by decide +kernel
      rw [Array.toList_append, Array.toList_append, e0, List.append_nil]
    rw [e, sj0 (z :: r)]
    rfl
theorem join_sg {ys : List Str} (h : ∀ y ∈ ys, y.length = 1 ∧ Sg y) : Sg (Txt.join (Str.ofString "") ys) ∧ (Txt.join (Str.ofString "") ys).length = ys.length := by
  have e : Txt.join (Str.ofString "") ys = Str.join (Str.ofString "") ys := TL.join_eq _ _
  rw [e]
  constructor
  · intro c hc
    rw [sj0] at hc
    obtain ⟨l, hl, hc⟩ := List.mem_flatten.mp hc
    obtain ⟨y, hy, rfl⟩ := List.mem_map.mp hl
    exact (h y hy).2 c hc
  · show (Str.join (Str.ofString "") ys).cps.size = ys.length
    rw [← Array.length_toList, sj0, List.length_flatten, List.map_map]
    have : ys.map (List.length ∘ fun y => y.cps.toList) = ys.map fun _ => 1 := List.map_congr_left fun y hy => by
      show y.cps.toList.length = 1
      rw [Array.length_toList]; exact (h y hy).1
    rw [this, List.map_const', List.sum_replicate_nat]
    simp
abbrev s_l_text : Stmt := top 24
abbrev N_l_text : List Str := ["_law_tape_here", "_law_plain", "_law_some", "_law_signs", "_law_way", "_law_many", "_law_text_here", "_law_k"]
theorem sc_l_text : FnScope N_l_text ["_law_tape_here", "_law_plain"] (defScope s_l_text) := ⟨rfl, rfl, rfl, by decide +kernel, rfl, by decide +kernel, by decide +kernel⟩
abbrev someW : List Str := ["cat", "Cats", "the", "running", "a1", "flies", "of", "s", "singing", "x", "bus", "catS", "the7", "ing"]
abbrev signW : Str := Str.ofString " !\"#$&'()*+,-./0123456789:;<=>?@ABCDEFGHIJKLMNOPQRSTUVWXYZ[\\]^_`abcdefghijklmnopqrstuvwxyz{|}~"
abbrev stX (i : Nat) : Stmt := (defBody s_l_text).getD i (.Pass ⟨0, 0, 0, 0⟩)
/-- the body with its long list as a variable -/
theorem bodyX : ∃ es p1 p2 p3, es.map constV = (someW.map V.str).map some ∧ defBody s_l_text = [.Assign [.Name "_law_some" p1] (.List es p2) p3, stX 1, stX 2, stX 3, stX 4, stX 5, stX 6, stX 7] := by
  refine ⟨_, _, _, _, ?_, rfl⟩
  rfl
def sp_text : Sp := fun vs H Q _ => ∃ (p : Addr) (b : Bool), vs = [.ref p, .bl b] ∧ TpAt H p ∧ ∀ (x : Str) H', TxS x → TpAt H' p → But1 p H H' → Q (.str x) H'
def TxJ (H : Hp) (p D0 : Addr) (i : Nat) (H' : Hp) : Prop := ∃ (ys : List Str), ys.length = i ∧ H' D0 = some (.lst (ys.map V.str)) ∧ TpAt H' p ∧ But1 p H H' ∧ ∀ z ∈ ys, z.length = 1 ∧ Sg z
def TxK (H : Hp) (p l : Addr) (i : Nat) (σ : St) (H' : Hp) : Prop := ∃ (b : Bool) (s : Str) (z : Int) (x : Str) (v7 : Option V), σ = [some (.ref p), some (.bl b), some (.ref l), some (.str s), some (.int z), none, some (.str x), v7] ∧ TpAt H' p ∧ But1 p H H' ∧ H' l = some (.lst (someW.map V.str)) ∧ Sg x ∧ x.length ≤ 20 * i
theorem some_at {k : Int} (h0 : 0 ≤ k) (h1 : k < 14) : ∃ x, (Sg x ∧ x.length ≤ 10) ∧ atI (someW.map V.str) k = some (.str x) := menuS (P := fun x => Sg x ∧ x.length ≤ 10) h0 (by show k < 14; exact h1) fun x hx => by
  have h : (someW.all fun x => sgB x && decide (x.length ≤ 10)) = true := by decide +kernel
  have := List.all_eq_true.mp h x hx
  simp at this
  exact ⟨sg_of this.1, this.2⟩
abbrev gapW : List Str := [" ", "-", ", ", "."]
theorem gap_at {k : Int} (h0 : 0 ≤ k) (h1 : k < 4) : ∃ x, (Sg x ∧ x.length ≤ 2) ∧ atI (gapW.map V.str) k = some (.str x) := menuS (P := fun x => Sg x ∧ x.length ≤ 2) h0 (by show k < 4; exact h1) fun x hx => by
  have h : (gapW.all fun x => sgB x && decide (x.length ≤ 2)) = true := by decide +kernel
  have := List.all_eq_true.mp h x hx
  simp at this
  exact ⟨sg_of this.1, this.2⟩
theorem sign_at {k : Int} (h0 : 0 ≤ k) (h1 : k < 94) : ∃ c, atI signW.cps.toList k = some c ∧ Sg ⟨#[c]⟩ := by
  have hl : signW.cps.toList.length = 94 := by decide +kernel
  have hk : k.toNat < signW.cps.toList.length := by omega
  exact ⟨_, at_ofN (j := k.toNat) (by omega) (List.getElem?_eq_getElem hk), (sg_of (x := signW) (by decide +kernel)).one (List.getElem_mem _)⟩
theorem c_text (T : Txt mg) (D : Def K mg "_law_text" s_l_text) (C_l_digit : Cal P w K mg base 1 "_law_digit" ["_law_tape_here", "_law_many"] sp_digit) : Cal P w K mg base 2 "_law_text" ["_law_tape_here", "_law_plain"] sp_text := by
  refine D.cal sc_l_text (fun _ _ _ _ _ _ us hl => match us, hl with | [_, _], _ => rfl) (fun vs H Q E h => ?_) (fun f cdv A outer s H vs Q E hr h => ?_)
  · obtain ⟨p, b, rfl, _⟩ := h; rfl
  · obtain ⟨p, b, rfl, hp, q⟩ := h
    obtain ⟨esX, pX1, pX2, pX3, hPA, hbd⟩ := bodyX
    rw [hbd]
    refine ⟨_, (pss_cons (ps_set (i := 2) sc_l_text.nd rfl (by first | exact Or.inl rfl | exact Or.inr rfl) (pe_lst (pa_cs hPA)))
        (pss_cons (ps_set (i := 3) sc_l_text.nd rfl (by first | exact Or.inl rfl | exact Or.inr rfl) pe_str)
        (pss_cons (ps_set (i := 4) sc_l_text.nd rfl (by first | exact Or.inl rfl | exact Or.inr rfl) (pe_callC C_l_digit (hr.mono (by decide)) (pa_cons (pv 0) (pa_cons pe_int pa_nil))))
        (pss_cons (ps_if (pt_cmpR op_eq (pv 4) pe_int (nomark _)) (pss_one (ps_ret pe_str)) pss_nil)
        (pss_cons (ps_if (pt_cmpR op_eq (pv 4) pe_int (nomark _)) (pss_cons (ps_set (i := 5) sc_l_text.nd rfl (by first | exact Or.inl rfl | exact Or.inr rfl) (pe_callC C_l_digit (hr.mono (by decide)) (pa_cons (pv 0) (pa_cons (pe_ix (r := rIxL K) ix_list (pe_lst (pa_cs (xs := List.map V.int [30, 401]) (by rfl))) (pe_callTy call_int1 (by rfl) T.n_int (by decide +kernel) (pa_cons (pv 1) pa_nil)) (fun _ _ => rfl)) pa_nil))))
        (pss_one (ps_ret (pe_m1 PySem.F.slot_str_join PySem.F.type_str_join mt_join pe_str (pe_lc (own := [("_law_k", 7)]) (g := (gName 7)) (by rfl) sc_l_text.nd (pi_range1 (by rfl) T.n_range (pa_cons (pv 5) pa_nil)) (blkOk_by (own := [("_law_k", 7)]) (N := N_l_text) (sc := defScope s_l_text) (by decide +kernel)) (fun _ _ _ _ _ => (pg_name (i := 7) sc_l_text.nd rfl (by first | exact Or.inl rfl | exact Or.inr rfl))) (fun _ _ _ _ _ => pts_nil) (fun _ _ _ _ _ => (pe_ix (r := rIxS) ix_str (pv 3) (pe_callC C_l_digit (hr.mono (by decide)) (pa_cons (pv 0) (pa_cons pe_int pa_nil))) (fun _ _ => rfl)))))))) pss_nil)
        (pss_cons (ps_set (i := 6) sc_l_text.nd rfl (by first | exact Or.inl rfl | exact Or.inr rfl) pe_str)
        (pss_cons (ps_for PassesOwn.never rfl (pi_range1 (by rfl) T.n_range (pa_cons (pe_callC C_l_digit (hr.mono (by decide)) (pa_cons (pv 0) (pa_cons pe_int pa_nil))) pa_nil)) (pg_name (i := 7) sc_l_text.nd rfl (by first | exact Or.inl rfl | exact Or.inr rfl)) (pss_one (ps_set (i := 6) sc_l_text.nd rfl (by first | exact Or.inl rfl | exact Or.inr rfl) (pe_op op_add_str (pe_op op_add_str (pv 6) (pe_ix (r := rIxL K) ix_list (pv 2) (pe_callC C_l_digit (hr.mono (by decide)) (pa_cons (pv 0) (pa_cons pe_int pa_nil))) (fun _ _ => rfl))) (pe_ix (r := rIxL K) ix_list (pe_lst (pa_cs (xs := List.map V.str [" ", "-", ", ", "."]) (by rfl))) (pe_callC C_l_digit (hr.mono (by decide)) (pa_cons (pv 0) (pa_cons pe_int pa_nil))) (fun _ _ => rfl))))))
        (pss_one (ps_ret (pv 6)))))))))), ?_⟩
    have es : start N_l_text [V.ref p, V.bl b] = [some (.ref p), some (.bl b), none, none, none, none, none, none] := rfl
    rw [es, ap_tSeq]
    simp only [ap_tVar, ap_tC, ap_t2I, ap_tAdd, ap_tSub, ap_tMul, ap_tCmp, ap_tIsN, ap_tNotN, ap_tB, ap_tAnd, ap_tOr, ap_tNot, ap_tAndV, ap_tOrV, ap_tNotV, ap_tIf, ap_tNext, ap_tBreak, ap_tCont, ap_tDrop, ap_tRet, ap_tRetN, ap_tIfS, ap_tNever, ap_gName, ap_gNil, ap_gCons, ap_gTup, ap_gSub, ap_tAsg, ap_tPar, ap_tAug, ap_tAugS, ap_ipI, ap_iList, ap_iTup, ap_iRng1, ap_iRng2, ap_tOp, ap_tUn, ap_rI, ap_rI0, ap_rU, ap_rEq, ap_rNe, ap_tTest, ap_tChain, ap_tFld, ap_tCon, ap_sFld, ap_sFldAug, ap_rAdd, ap_rSub, ap_tNil, ap_tCons, ap_tTup, ap_tLst, ap_tCall, ap_tMeth, ap_tMake, ap_tCallK, ap_tCB, ap_tNoPart, ap_tPart, ap_tSl, ap_rSlT, ap_rLtT, ap_rCatT, ap_rIxL, ap_rIxT, ap_rIxS, ap_rIx, ap_rSetL, ap_rSlL, ap_rIn, ap_tBM0, ap_tBM, ap_rAppend, ap_rExtend, ap_rPop, ap_rPopAt, ap_rReverse, ap_rClear, ap_rCat, ap_rRep, ap_rSum, ap_rMax, ap_rMin, ap_rSorted, ap_rSortedS, ap_rSort, ap_rIndex, ap_rAny, ap_rAll, ap_tYes, ap_tDGet, ap_tDIn, ap_tDNotIn, ap_sDPut, ap_sDAug, ap_sDDel, ap_tDNewK, ap_tDNewT, ap_tDisp, ap_tDGet1, ap_tDGet2, ap_tDPop1, ap_tDPop2, ap_tLock, ap_tLockE, ap_iRng3, ap_iRev, ap_iStr, ap_iKeys, ap_iVals, ap_iItems, ap_iKeysM, ap_iEnum, ap_iZip, ap_rNewStrs, ap_tM0, ap_tM1, ap_rSlS, ap_gUnl, ap_rIsB,  ap_tFor, ap_tLc, if_true, if_false, Bool.false_eq_true, Bool.true_eq_false, Bool.not_true, Bool.not_false, not_true_eq_false, not_false_eq_true, cx_K, nox_K, blk_K, List.getElem?_cons_succ, List.getElem?_cons_zero, Option.some.injEq, exists_eq_left', exists_eq_left, exists_eq, exists_eq', V.int.injEq, V.bl.injEq, V.str.injEq, V.ref.injEq, V.ty.injEq, List.cons.injEq, and_true, true_and, exists_and_left, List.set_cons_succ, List.set_cons_zero, List.append_nil, List.nil_append, and_assoc, decide_eq_true_eq, Bool.not_eq_true', decide_eq_false_iff_not, scal, List.length_cons, List.length_nil, Nat.zero_add, Nat.reduceAdd, ap_tCs, ap_tDcB, ap_tLam, ap_tSortK, ap_tDNotIn, ap_tDIn, ap_sDPut, ap_tSetDefF, ap_rLenOf, ap_rTupOf, ap_rNeE, ap_rMaxD, ap_tSortedK, ap_rSortedD, ap_tLockV, ap_rMulS, ap_iEnumS, ap_rRange, ap_rListR, ap_rListD, ap_rDictOf, ap_rNeDs, ap_rEqDs, ap_rListOf, ap_rIsO, ap_rSortedSet, ap_rSortedSA, ap_rDClear, ap_rDUpd, ap_tSl3, ap_rSameL, ap_iItemsL]
    refine ⟨by decide, fun l hl => ?_⟩
    have s1 := Same.new hl (o := .lst (someW.map V.str))
    have hl1 := upd_same (H := H) (a := l) (o := .lst (someW.map V.str))
    have nl : l ≠ p := by obtain ⟨x, y, e⟩ := hp; exact (ne_of_none e hl).symm
    generalize upd H l (.lst (someW.map V.str)) = H1 at *
    have hp1 := hp.same s1
    rw [ap_tSeq]
    simp only [ap_tVar, ap_tC, ap_t2I, ap_tAdd, ap_tSub, ap_tMul, ap_tCmp, ap_tIsN, ap_tNotN, ap_tB, ap_tAnd, ap_tOr, ap_tNot, ap_tAndV, ap_tOrV, ap_tNotV, ap_tIf, ap_tNext, ap_tBreak, ap_tCont, ap_tDrop, ap_tRet, ap_tRetN, ap_tIfS, ap_tNever, ap_gName, ap_gNil, ap_gCons, ap_gTup, ap_gSub, ap_tAsg, ap_tPar, ap_tAug, ap_tAugS, ap_ipI, ap_iList, ap_iTup, ap_iRng1, ap_iRng2, ap_tOp, ap_tUn, ap_rI, ap_rI0, ap_rU, ap_rEq, ap_rNe, ap_tTest, ap_tChain, ap_tFld, ap_tCon, ap_sFld, ap_sFldAug, ap_rAdd, ap_rSub, ap_tNil, ap_tCons, ap_tTup, ap_tLst, ap_tCall, ap_tMeth, ap_tMake, ap_tCallK, ap_tCB, ap_tNoPart, ap_tPart, ap_tSl, ap_rSlT, ap_rLtT, ap_rCatT, ap_rIxL, ap_rIxT, ap_rIxS, ap_rIx, ap_rSetL, ap_rSlL, ap_rIn, ap_tBM0, ap_tBM, ap_rAppend, ap_rExtend, ap_rPop, ap_rPopAt, ap_rReverse, ap_rClear, ap_rCat, ap_rRep, ap_rSum, ap_rMax, ap_rMin, ap_rSorted, ap_rSortedS, ap_rSort, ap_rIndex, ap_rAny, ap_rAll, ap_tYes, ap_tDGet, ap_tDIn, ap_tDNotIn, ap_sDPut, ap_sDAug, ap_sDDel, ap_tDNewK, ap_tDNewT, ap_tDisp, ap_tDGet1, ap_tDGet2, ap_tDPop1, ap_tDPop2, ap_tLock, ap_tLockE, ap_iRng3, ap_iRev, ap_iStr, ap_iKeys, ap_iVals, ap_iItems, ap_iKeysM, ap_iEnum, ap_iZip, ap_rNewStrs, ap_tM0, ap_tM1, ap_rSlS, ap_gUnl, ap_rIsB,  ap_tFor, ap_tLc, if_true, if_false, Bool.false_eq_true, Bool.true_eq_false, Bool.not_true, Bool.not_false, not_true_eq_false, not_false_eq_true, cx_K, nox_K, blk_K, List.getElem?_cons_succ, List.getElem?_cons_zero, Option.some.injEq, exists_eq_left', exists_eq_left, exists_eq, exists_eq', V.int.injEq, V.bl.injEq, V.str.injEq, V.ref.injEq, V.ty.injEq, List.cons.injEq, and_true, true_and, exists_and_left, List.set_cons_succ, List.set_cons_zero, List.append_nil, List.nil_append, and_assoc, decide_eq_true_eq, Bool.not_eq_true', decide_eq_false_iff_not, scal, List.length_cons, List.length_nil, Nat.zero_add, Nat.reduceAdd, ap_tCs, ap_tDcB, ap_tLam, ap_tSortK, ap_tDNotIn, ap_tDIn, ap_sDPut, ap_tSetDefF, ap_rLenOf, ap_rTupOf, ap_rNeE, ap_rMaxD, ap_tSortedK, ap_rSortedD, ap_tLockV, ap_rMulS, ap_iEnumS, ap_rRange, ap_rListR, ap_rListD, ap_rDictOf, ap_rNeDs, ap_rEqDs, ap_rListOf, ap_rIsO, ap_rSortedSet, ap_rSortedSA, ap_rDClear, ap_rDUpd, ap_tSl3, ap_rSameL, ap_iItemsL]
    rw [ap_tSeq]
    simp only [ap_tVar, ap_tC, ap_t2I, ap_tAdd, ap_tSub, ap_tMul, ap_tCmp, ap_tIsN, ap_tNotN, ap_tB, ap_tAnd, ap_tOr, ap_tNot, ap_tAndV, ap_tOrV, ap_tNotV, ap_tIf, ap_tNext, ap_tBreak, ap_tCont, ap_tDrop, ap_tRet, ap_tRetN, ap_tIfS, ap_tNever, ap_gName, ap_gNil, ap_gCons, ap_gTup, ap_gSub, ap_tAsg, ap_tPar, ap_tAug, ap_tAugS, ap_ipI, ap_iList, ap_iTup, ap_iRng1, ap_iRng2, ap_tOp, ap_tUn, ap_rI, ap_rI0, ap_rU, ap_rEq, ap_rNe, ap_tTest, ap_tChain, ap_tFld, ap_tCon, ap_sFld, ap_sFldAug, ap_rAdd, ap_rSub, ap_tNil, ap_tCons, ap_tTup, ap_tLst, ap_tCall, ap_tMeth, ap_tMake, ap_tCallK, ap_tCB, ap_tNoPart, ap_tPart, ap_tSl, ap_rSlT, ap_rLtT, ap_rCatT, ap_rIxL, ap_rIxT, ap_rIxS, ap_rIx, ap_rSetL, ap_rSlL, ap_rIn, ap_tBM0, ap_tBM, ap_rAppend, ap_rExtend, ap_rPop, ap_rPopAt, ap_rReverse, ap_rClear, ap_rCat, ap_rRep, ap_rSum, ap_rMax, ap_rMin, ap_rSorted, ap_rSortedS, ap_rSort, ap_rIndex, ap_rAny, ap_rAll, ap_tYes, ap_tDGet, ap_tDIn, ap_tDNotIn, ap_sDPut, ap_sDAug, ap_sDDel, ap_tDNewK, ap_tDNewT, ap_tDisp, ap_tDGet1, ap_tDGet2, ap_tDPop1, ap_tDPop2, ap_tLock, ap_tLockE, ap_iRng3, ap_iRev, ap_iStr, ap_iKeys, ap_iVals, ap_iItems, ap_iKeysM, ap_iEnum, ap_iZip, ap_rNewStrs, ap_tM0, ap_tM1, ap_rSlS, ap_gUnl, ap_rIsB,  ap_tFor, ap_tLc, if_true, if_false, Bool.false_eq_true, Bool.true_eq_false, Bool.not_true, Bool.not_false, not_true_eq_false, not_false_eq_true, cx_K, nox_K, blk_K, List.getElem?_cons_succ, List.getElem?_cons_zero, Option.some.injEq, exists_eq_left', exists_eq_left, exists_eq, exists_eq', V.int.injEq, V.bl.injEq, V.str.injEq, V.ref.injEq, V.ty.injEq, List.cons.injEq, and_true, true_and, exists_and_left, List.set_cons_succ, List.set_cons_zero, List.append_nil, List.nil_append, and_assoc, decide_eq_true_eq, Bool.not_eq_true', decide_eq_false_iff_not, scal, List.length_cons, List.length_nil, Nat.zero_add, Nat.reduceAdd, ap_tCs, ap_tDcB, ap_tLam, ap_tSortK, ap_tDNotIn, ap_tDIn, ap_sDPut, ap_tSetDefF, ap_rLenOf, ap_rTupOf, ap_rNeE, ap_rMaxD, ap_tSortedK, ap_rSortedD, ap_tLockV, ap_rMulS, ap_iEnumS, ap_rRange, ap_rListR, ap_rListD, ap_rDictOf, ap_rNeDs, ap_rEqDs, ap_rListOf, ap_rIsO, ap_rSortedSet, ap_rSortedSA, ap_rDClear, ap_rDUpd, ap_tSl3, ap_rSameL, ap_iItemsL, sp_digit]
    refine ⟨by decide, by decide, hp1, fun z H2 z0 z1 h2 b2 => ?_⟩
    have b02 := (But1.of s1).trans b2
    rw [ap_tSeq]
    simp only [ap_tVar, ap_tC, ap_t2I, ap_tAdd, ap_tSub, ap_tMul, ap_tCmp, ap_tIsN, ap_tNotN, ap_tB, ap_tAnd, ap_tOr, ap_tNot, ap_tAndV, ap_tOrV, ap_tNotV, ap_tIf, ap_tNext, ap_tBreak, ap_tCont, ap_tDrop, ap_tRet, ap_tRetN, ap_tIfS, ap_tNever, ap_gName, ap_gNil, ap_gCons, ap_gTup, ap_gSub, ap_tAsg, ap_tPar, ap_tAug, ap_tAugS, ap_ipI, ap_iList, ap_iTup, ap_iRng1, ap_iRng2, ap_tOp, ap_tUn, ap_rI, ap_rI0, ap_rU, ap_rEq, ap_rNe, ap_tTest, ap_tChain, ap_tFld, ap_tCon, ap_sFld, ap_sFldAug, ap_rAdd, ap_rSub, ap_tNil, ap_tCons, ap_tTup, ap_tLst, ap_tCall, ap_tMeth, ap_tMake, ap_tCallK, ap_tCB, ap_tNoPart, ap_tPart, ap_tSl, ap_rSlT, ap_rLtT, ap_rCatT, ap_rIxL, ap_rIxT, ap_rIxS, ap_rIx, ap_rSetL, ap_rSlL, ap_rIn, ap_tBM0, ap_tBM, ap_rAppend, ap_rExtend, ap_rPop, ap_rPopAt, ap_rReverse, ap_rClear, ap_rCat, ap_rRep, ap_rSum, ap_rMax, ap_rMin, ap_rSorted, ap_rSortedS, ap_rSort, ap_rIndex, ap_rAny, ap_rAll, ap_tYes, ap_tDGet, ap_tDIn, ap_tDNotIn, ap_sDPut, ap_sDAug, ap_sDDel, ap_tDNewK, ap_tDNewT, ap_tDisp, ap_tDGet1, ap_tDGet2, ap_tDPop1, ap_tDPop2, ap_tLock, ap_tLockE, ap_iRng3, ap_iRev, ap_iStr, ap_iKeys, ap_iVals, ap_iItems, ap_iKeysM, ap_iEnum, ap_iZip, ap_rNewStrs, ap_tM0, ap_tM1, ap_rSlS, ap_gUnl, ap_rIsB,  ap_tFor, ap_tLc, if_true, if_false, Bool.false_eq_true, Bool.true_eq_false, Bool.not_true, Bool.not_false, not_true_eq_false, not_false_eq_true, cx_K, nox_K, blk_K, List.getElem?_cons_succ, List.getElem?_cons_zero, Option.some.injEq, exists_eq_left', exists_eq_left, exists_eq, exists_eq', V.int.injEq, V.bl.injEq, V.str.injEq, V.ref.injEq, V.ty.injEq, List.cons.injEq, and_true, true_and, exists_and_left, List.set_cons_succ, List.set_cons_zero, List.append_nil, List.nil_append, and_assoc, decide_eq_true_eq, Bool.not_eq_true', decide_eq_false_iff_not, scal, List.length_cons, List.length_nil, Nat.zero_add, Nat.reduceAdd, ap_tCs, ap_tDcB, ap_tLam, ap_tSortK, ap_tDNotIn, ap_tDIn, ap_sDPut, ap_tSetDefF, ap_rLenOf, ap_rTupOf, ap_rNeE, ap_rMaxD, ap_tSortedK, ap_rSortedD, ap_tLockV, ap_rMulS, ap_iEnumS, ap_rRange, ap_rListR, ap_rListD, ap_rDictOf, ap_rNeDs, ap_rEqDs, ap_rListOf, ap_rIsO, ap_rSortedSet, ap_rSortedSA, ap_rDClear, ap_rDUpd, ap_tSl3, ap_rSameL, ap_iItemsL]
    refine ite2 (fun _ => q _ _ ⟨sg_of (by decide +kernel), by decide +kernel⟩ h2 b02) (fun _ => ?_)
    rw [ap_tSeq]
    refine nx_gen fun nx hnx => ?_
    simp only [ap_tVar, ap_tC, ap_t2I, ap_tAdd, ap_tSub, ap_tMul, ap_tCmp, ap_tIsN, ap_tNotN, ap_tB, ap_tAnd, ap_tOr, ap_tNot, ap_tAndV, ap_tOrV, ap_tNotV, ap_tIf, ap_tNext, ap_tBreak, ap_tCont, ap_tDrop, ap_tRet, ap_tRetN, ap_tIfS, ap_tNever, ap_gName, ap_gNil, ap_gCons, ap_gTup, ap_gSub, ap_tAsg, ap_tPar, ap_tAug, ap_tAugS, ap_ipI, ap_iList, ap_iTup, ap_iRng1, ap_iRng2, ap_tOp, ap_tUn, ap_rI, ap_rI0, ap_rU, ap_rEq, ap_rNe, ap_tTest, ap_tChain, ap_tFld, ap_tCon, ap_sFld, ap_sFldAug, ap_rAdd, ap_rSub, ap_tNil, ap_tCons, ap_tTup, ap_tLst, ap_tCall, ap_tMeth, ap_tMake, ap_tCallK, ap_tCB, ap_tNoPart, ap_tPart, ap_tSl, ap_rSlT, ap_rLtT, ap_rCatT, ap_rIxL, ap_rIxT, ap_rIxS, ap_rIx, ap_rSetL, ap_rSlL, ap_rIn, ap_tBM0, ap_tBM, ap_rAppend, ap_rExtend, ap_rPop, ap_rPopAt, ap_rReverse, ap_rClear, ap_rCat, ap_rRep, ap_rSum, ap_rMax, ap_rMin, ap_rSorted, ap_rSortedS, ap_rSort, ap_rIndex, ap_rAny, ap_rAll, ap_tYes, ap_tDGet, ap_tDIn, ap_tDNotIn, ap_sDPut, ap_sDAug, ap_sDDel, ap_tDNewK, ap_tDNewT, ap_tDisp, ap_tDGet1, ap_tDGet2, ap_tDPop1, ap_tDPop2, ap_tLock, ap_tLockE, ap_iRng3, ap_iRev, ap_iStr, ap_iKeys, ap_iVals, ap_iItems, ap_iKeysM, ap_iEnum, ap_iZip, ap_rNewStrs, ap_tM0, ap_tM1, ap_rSlS, ap_gUnl, ap_rIsB,  ap_tFor, ap_tLc, if_true, if_false, Bool.false_eq_true, Bool.true_eq_false, Bool.not_true, Bool.not_false, not_true_eq_false, not_false_eq_true, cx_K, nox_K, blk_K, List.getElem?_cons_succ, List.getElem?_cons_zero, Option.some.injEq, exists_eq_left', exists_eq_left, exists_eq, exists_eq', V.int.injEq, V.bl.injEq, V.str.injEq, V.ref.injEq, V.ty.injEq, List.cons.injEq, and_true, true_and, exists_and_left, List.set_cons_succ, List.set_cons_zero, List.append_nil, List.nil_append, and_assoc, decide_eq_true_eq, Bool.not_eq_true', decide_eq_false_iff_not, scal, List.length_cons, List.length_nil, Nat.zero_add, Nat.reduceAdd, ap_tCs, ap_tDcB, ap_tLam, ap_tSortK, ap_tDNotIn, ap_tDIn, ap_sDPut, ap_tSetDefF, ap_rLenOf, ap_rTupOf, ap_rNeE, ap_rMaxD, ap_tSortedK, ap_rSortedD, ap_tLockV, ap_rMulS, ap_iEnumS, ap_rRange, ap_rListR, ap_rListD, ap_rDictOf, ap_rNeDs, ap_rEqDs, ap_rListOf, ap_rIsO, ap_rSortedSet, ap_rSortedSA, ap_rDClear, ap_rDUpd, ap_tSl3, ap_rSameL, ap_iItemsL, sp_digit]
    refine ite2 (fun _ => ?_) (fun _ => ?_)
    · rw [ap_tSeq]
      simp only [ap_tVar, ap_tC, ap_t2I, ap_tAdd, ap_tSub, ap_tMul, ap_tCmp, ap_tIsN, ap_tNotN, ap_tB, ap_tAnd, ap_tOr, ap_tNot, ap_tAndV, ap_tOrV, ap_tNotV, ap_tIf, ap_tNext, ap_tBreak, ap_tCont, ap_tDrop, ap_tRet, ap_tRetN, ap_tIfS, ap_tNever, ap_gName, ap_gNil, ap_gCons, ap_gTup, ap_gSub, ap_tAsg, ap_tPar, ap_tAug, ap_tAugS, ap_ipI, ap_iList, ap_iTup, ap_iRng1, ap_iRng2, ap_tOp, ap_tUn, ap_rI, ap_rI0, ap_rU, ap_rEq, ap_rNe, ap_tTest, ap_tChain, ap_tFld, ap_tCon, ap_sFld, ap_sFldAug, ap_rAdd, ap_rSub, ap_tNil, ap_tCons, ap_tTup, ap_tLst, ap_tCall, ap_tMeth, ap_tMake, ap_tCallK, ap_tCB, ap_tNoPart, ap_tPart, ap_tSl, ap_rSlT, ap_rLtT, ap_rCatT, ap_rIxL, ap_rIxT, ap_rIxS, ap_rIx, ap_rSetL, ap_rSlL, ap_rIn, ap_tBM0, ap_tBM, ap_rAppend, ap_rExtend, ap_rPop, ap_rPopAt, ap_rReverse, ap_rClear, ap_rCat, ap_rRep, ap_rSum, ap_rMax, ap_rMin, ap_rSorted, ap_rSortedS, ap_rSort, ap_rIndex, ap_rAny, ap_rAll, ap_tYes, ap_tDGet, ap_tDIn, ap_tDNotIn, ap_sDPut, ap_sDAug, ap_sDDel, ap_tDNewK, ap_tDNewT, ap_tDisp, ap_tDGet1, ap_tDGet2, ap_tDPop1, ap_tDPop2, ap_tLock, ap_tLockE, ap_iRng3, ap_iRev, ap_iStr, ap_iKeys, ap_iVals, ap_iItems, ap_iKeysM, ap_iEnum, ap_iZip, ap_rNewStrs, ap_tM0, ap_tM1, ap_rSlS, ap_gUnl, ap_rIsB,  ap_tFor, ap_tLc, if_true, if_false, Bool.false_eq_true, Bool.true_eq_false, Bool.not_true, Bool.not_false, not_true_eq_false, not_false_eq_true, cx_K, nox_K, blk_K, List.getElem?_cons_succ, List.getElem?_cons_zero, Option.some.injEq, exists_eq_left', exists_eq_left, exists_eq, exists_eq', V.int.injEq, V.bl.injEq, V.str.injEq, V.ref.injEq, V.ty.injEq, List.cons.injEq, and_true, true_and, exists_and_left, List.set_cons_succ, List.set_cons_zero, List.append_nil, List.nil_append, and_assoc, decide_eq_true_eq, Bool.not_eq_true', decide_eq_false_iff_not, scal, List.length_cons, List.length_nil, Nat.zero_add, Nat.reduceAdd, ap_tCs, ap_tDcB, ap_tLam, ap_tSortK, ap_tDNotIn, ap_tDIn, ap_sDPut, ap_tSetDefF, ap_rLenOf, ap_rTupOf, ap_rNeE, ap_rMaxD, ap_tSortedK, ap_rSortedD, ap_tLockV, ap_rMulS, ap_iEnumS, ap_rRange, ap_rListR, ap_rListD, ap_rDictOf, ap_rNeDs, ap_rEqDs, ap_rListOf, ap_rIsO, ap_rSortedSet, ap_rSortedSA, ap_rDClear, ap_rDUpd, ap_tSl3, ap_rSameL, ap_iItemsL, sp_digit]
      refine ⟨by decide, fun m hm => .inr ?_⟩
      have s3 := Same.new hm (o := .lst ([30, 401].map V.int))
      have hm3 := upd_same (H := H2) (a := m) (o := .lst ([30, 401].map V.int))
      generalize upd H2 m (.lst ([30, 401].map V.int)) = H3 at *
      have h3 := h2.same s3
      have b03 := b02.trans (But1.of s3)
      have hpick : ∃ n : Int, 0 < n ∧ n ≤ 401 ∧ atI (([30, 401] : List Int).map V.int) (if b = true then 1 else 0) = some (.int n) := by
        cases b
        · exact ⟨30, by decide, by decide, rfl⟩
        · exact ⟨401, by decide, by decide, rfl⟩
      obtain ⟨n, n0, n1, hn⟩ := hpick
      refine ⟨_, .of hm3, _, hn, n, rfl, n0, by omega, h3, fun k H4 k0 k1 h4 b4 => ⟨by omega, by omega, fun D0 hD0 => ?_⟩⟩
      have b04 := b03.trans b4
      obtain ⟨tx4, ty4, e4⟩ := id h4
      have nD : p ≠ D0 := ne_of_none e4 hD0
      refine lcB_range (TxJ H4 p D0) ⟨[], rfl, upd_same, ⟨tx4, ty4, by rw [upd_ne nD]; exact e4⟩, But1.of (Same.new hD0), by simp⟩ ?_ ?_
      · rintro i H5 hi ⟨ys, hl5, h5, t5, b5, hz⟩
        have hin : i < 401 := by omega
        simp only [ap_tVar, ap_tC, ap_t2I, ap_tAdd, ap_tSub, ap_tMul, ap_tCmp, ap_tIsN, ap_tNotN, ap_tB, ap_tAnd, ap_tOr, ap_tNot, ap_tAndV, ap_tOrV, ap_tNotV, ap_tIf, ap_tNext, ap_tBreak, ap_tCont, ap_tDrop, ap_tRet, ap_tRetN, ap_tIfS, ap_tNever, ap_gName, ap_gNil, ap_gCons, ap_gTup, ap_gSub, ap_tAsg, ap_tPar, ap_tAug, ap_tAugS, ap_ipI, ap_iList, ap_iTup, ap_iRng1, ap_iRng2, ap_tOp, ap_tUn, ap_rI, ap_rI0, ap_rU, ap_rEq, ap_rNe, ap_tTest, ap_tChain, ap_tFld, ap_tCon, ap_sFld, ap_sFldAug, ap_rAdd, ap_rSub, ap_tNil, ap_tCons, ap_tTup, ap_tLst, ap_tCall, ap_tMeth, ap_tMake, ap_tCallK, ap_tCB, ap_tNoPart, ap_tPart, ap_tSl, ap_rSlT, ap_rLtT, ap_rCatT, ap_rIxL, ap_rIxT, ap_rIxS, ap_rIx, ap_rSetL, ap_rSlL, ap_rIn, ap_tBM0, ap_tBM, ap_rAppend, ap_rExtend, ap_rPop, ap_rPopAt, ap_rReverse, ap_rClear, ap_rCat, ap_rRep, ap_rSum, ap_rMax, ap_rMin, ap_rSorted, ap_rSortedS, ap_rSort, ap_rIndex, ap_rAny, ap_rAll, ap_tYes, ap_tDGet, ap_tDIn, ap_tDNotIn, ap_sDPut, ap_sDAug, ap_sDDel, ap_tDNewK, ap_tDNewT, ap_tDisp, ap_tDGet1, ap_tDGet2, ap_tDPop1, ap_tDPop2, ap_tLock, ap_tLockE, ap_iRng3, ap_iRev, ap_iStr, ap_iKeys, ap_iVals, ap_iItems, ap_iKeysM, ap_iEnum, ap_iZip, ap_rNewStrs, ap_tM0, ap_tM1, ap_rSlS, ap_gUnl, ap_rIsB,  ap_tFor, ap_tLc, if_true, if_false, Bool.false_eq_true, Bool.true_eq_false, Bool.not_true, Bool.not_false, not_true_eq_false, not_false_eq_true, cx_K, nox_K, blk_K, List.getElem?_cons_succ, List.getElem?_cons_zero, Option.some.injEq, exists_eq_left', exists_eq_left, exists_eq, exists_eq', V.int.injEq, V.bl.injEq, V.str.injEq, V.ref.injEq, V.ty.injEq, List.cons.injEq, and_true, true_and, exists_and_left, List.set_cons_succ, List.set_cons_zero, List.append_nil, List.nil_append, and_assoc, decide_eq_true_eq, Bool.not_eq_true', decide_eq_false_iff_not, scal, List.length_cons, List.length_nil, Nat.zero_add, Nat.reduceAdd, ap_tCs, ap_tDcB, ap_tLam, ap_tSortK, ap_tDNotIn, ap_tDIn, ap_sDPut, ap_tSetDefF, ap_rLenOf, ap_rTupOf, ap_rNeE, ap_rMaxD, ap_tSortedK, ap_rSortedD, ap_tLockV, ap_rMulS, ap_iEnumS, ap_rRange, ap_rListR, ap_rListD, ap_rDictOf, ap_rNeDs, ap_rEqDs, ap_rListOf, ap_rIsO, ap_rSortedSet, ap_rSortedSA, ap_rDClear, ap_rDUpd, ap_tSl3, ap_rSameL, ap_iItemsL, sp_digit]
        refine ⟨rfl, _, rfl, _, rfl, _, rfl, by decide, by decide, t5, fun u H6 u0 u1 t6 b6 => ?_⟩
        obtain ⟨c, hc, hs⟩ := sign_at u0 u1
        refine ⟨_, rfl, by decide, _, hc, _, b6 _ _ h5 (Ne.symm nD), by rw [List.length_map, hl5]; exact small1000 (by omega), ys ++ [⟨#[c]⟩], by simp [hl5], by rw [List.map_append]; exact upd_same, ?_, ?_, ?_⟩
        · obtain ⟨x6, y6, e6⟩ := t6
          exact ⟨x6, y6, by rw [upd_ne nD]; exact e6⟩
        · intro a o e n
          rw [upd_ne (ne_of_none e hD0)]
          exact b6 _ _ (b5 _ _ e n) n
        · intro v hv
          rcases List.mem_append.mp hv with hv | hv
          · exact hz v hv
          · rw [List.mem_singleton] at hv
            rw [hv]
            exact ⟨rfl, hs⟩
      · rintro H5 ⟨ys, hl5, h5, t5, b5, hz⟩
        obtain ⟨j1, j2⟩ := join_sg hz
        refine ⟨ys, .inl (.of h5), ?_, q _ _ ⟨j1, by rw [j2]; omega⟩ t5 (b04.trans b5)⟩
        have e1 : ys.map (fun x => x.length) = ys.map fun _ => 1 := List.map_congr_left fun y hy => (hz y hy).1
        have e2 : (Str.ofString "").length = 0 := by decide +kernel
        rw [e1, e2, List.map_const', List.sum_replicate_nat, Nat.mul_zero]
        omega
    · rw [hnx]
      dsimp only
      rw [ap_tSeq]
      simp only [ap_tVar, ap_tC, ap_t2I, ap_tAdd, ap_tSub, ap_tMul, ap_tCmp, ap_tIsN, ap_tNotN, ap_tB, ap_tAnd, ap_tOr, ap_tNot, ap_tAndV, ap_tOrV, ap_tNotV, ap_tIf, ap_tNext, ap_tBreak, ap_tCont, ap_tDrop, ap_tRet, ap_tRetN, ap_tIfS, ap_tNever, ap_gName, ap_gNil, ap_gCons, ap_gTup, ap_gSub, ap_tAsg, ap_tPar, ap_tAug, ap_tAugS, ap_ipI, ap_iList, ap_iTup, ap_iRng1, ap_iRng2, ap_tOp, ap_tUn, ap_rI, ap_rI0, ap_rU, ap_rEq, ap_rNe, ap_tTest, ap_tChain, ap_tFld, ap_tCon, ap_sFld, ap_sFldAug, ap_rAdd, ap_rSub, ap_tNil, ap_tCons, ap_tTup, ap_tLst, ap_tCall, ap_tMeth, ap_tMake, ap_tCallK, ap_tCB, ap_tNoPart, ap_tPart, ap_tSl, ap_rSlT, ap_rLtT, ap_rCatT, ap_rIxL, ap_rIxT, ap_rIxS, ap_rIx, ap_rSetL, ap_rSlL, ap_rIn, ap_tBM0, ap_tBM, ap_rAppend, ap_rExtend, ap_rPop, ap_rPopAt, ap_rReverse, ap_rClear, ap_rCat, ap_rRep, ap_rSum, ap_rMax, ap_rMin, ap_rSorted, ap_rSortedS, ap_rSort, ap_rIndex, ap_rAny, ap_rAll, ap_tYes, ap_tDGet, ap_tDIn, ap_tDNotIn, ap_sDPut, ap_sDAug, ap_sDDel, ap_tDNewK, ap_tDNewT, ap_tDisp, ap_tDGet1, ap_tDGet2, ap_tDPop1, ap_tDPop2, ap_tLock, ap_tLockE, ap_iRng3, ap_iRev, ap_iStr, ap_iKeys, ap_iVals, ap_iItems, ap_iKeysM, ap_iEnum, ap_iZip, ap_rNewStrs, ap_tM0, ap_tM1, ap_rSlS, ap_gUnl, ap_rIsB,  ap_tFor, ap_tLc, if_true, if_false, Bool.false_eq_true, Bool.true_eq_false, Bool.not_true, Bool.not_false, not_true_eq_false, not_false_eq_true, cx_K, nox_K, blk_K, List.getElem?_cons_succ, List.getElem?_cons_zero, Option.some.injEq, exists_eq_left', exists_eq_left, exists_eq, exists_eq', V.int.injEq, V.bl.injEq, V.str.injEq, V.ref.injEq, V.ty.injEq, List.cons.injEq, and_true, true_and, exists_and_left, List.set_cons_succ, List.set_cons_zero, List.append_nil, List.nil_append, and_assoc, decide_eq_true_eq, Bool.not_eq_true', decide_eq_false_iff_not, scal, List.length_cons, List.length_nil, Nat.zero_add, Nat.reduceAdd, ap_tCs, ap_tDcB, ap_tLam, ap_tSortK, ap_tDNotIn, ap_tDIn, ap_sDPut, ap_tSetDefF, ap_rLenOf, ap_rTupOf, ap_rNeE, ap_rMaxD, ap_tSortedK, ap_rSortedD, ap_tLockV, ap_rMulS, ap_iEnumS, ap_rRange, ap_rListR, ap_rListD, ap_rDictOf, ap_rNeDs, ap_rEqDs, ap_rListOf, ap_rIsO, ap_rSortedSet, ap_rSortedSA, ap_rDClear, ap_rDUpd, ap_tSl3, ap_rSameL, ap_iItemsL]
      rw [ap_tSeq]
      simp only [ap_tVar, ap_tC, ap_t2I, ap_tAdd, ap_tSub, ap_tMul, ap_tCmp, ap_tIsN, ap_tNotN, ap_tB, ap_tAnd, ap_tOr, ap_tNot, ap_tAndV, ap_tOrV, ap_tNotV, ap_tIf, ap_tNext, ap_tBreak, ap_tCont, ap_tDrop, ap_tRet, ap_tRetN, ap_tIfS, ap_tNever, ap_gName, ap_gNil, ap_gCons, ap_gTup, ap_gSub, ap_tAsg, ap_tPar, ap_tAug, ap_tAugS, ap_ipI, ap_iList, ap_iTup, ap_iRng1, ap_iRng2, ap_tOp, ap_tUn, ap_rI, ap_rI0, ap_rU, ap_rEq, ap_rNe, ap_tTest, ap_tChain, ap_tFld, ap_tCon, ap_sFld, ap_sFldAug, ap_rAdd, ap_rSub, ap_tNil, ap_tCons, ap_tTup, ap_tLst, ap_tCall, ap_tMeth, ap_tMake, ap_tCallK, ap_tCB, ap_tNoPart, ap_tPart, ap_tSl, ap_rSlT, ap_rLtT, ap_rCatT, ap_rIxL, ap_rIxT, ap_rIxS, ap_rIx, ap_rSetL, ap_rSlL, ap_rIn, ap_tBM0, ap_tBM, ap_rAppend, ap_rExtend, ap_rPop, ap_rPopAt, ap_rReverse, ap_rClear, ap_rCat, ap_rRep, ap_rSum, ap_rMax, ap_rMin, ap_rSorted, ap_rSortedS, ap_rSort, ap_rIndex, ap_rAny, ap_rAll, ap_tYes, ap_tDGet, ap_tDIn, ap_tDNotIn, ap_sDPut, ap_sDAug, ap_sDDel, ap_tDNewK, ap_tDNewT, ap_tDisp, ap_tDGet1, ap_tDGet2, ap_tDPop1, ap_tDPop2, ap_tLock, ap_tLockE, ap_iRng3, ap_iRev, ap_iStr, ap_iKeys, ap_iVals, ap_iItems, ap_iKeysM, ap_iEnum, ap_iZip, ap_rNewStrs, ap_tM0, ap_tM1, ap_rSlS, ap_gUnl, ap_rIsB,  ap_tFor, ap_tLc, if_true, if_false, Bool.false_eq_true, Bool.true_eq_false, Bool.not_true, Bool.not_false, not_true_eq_false, not_false_eq_true, cx_K, nox_K, blk_K, List.getElem?_cons_succ, List.getElem?_cons_zero, Option.some.injEq, exists_eq_left', exists_eq_left, exists_eq, exists_eq', V.int.injEq, V.bl.injEq, V.str.injEq, V.ref.injEq, V.ty.injEq, List.cons.injEq, and_true, true_and, exists_and_left, List.set_cons_succ, List.set_cons_zero, List.append_nil, List.nil_append, and_assoc, decide_eq_true_eq, Bool.not_eq_true', decide_eq_false_iff_not, scal, List.length_cons, List.length_nil, Nat.zero_add, Nat.reduceAdd, ap_tCs, ap_tDcB, ap_tLam, ap_tSortK, ap_tDNotIn, ap_tDIn, ap_sDPut, ap_tSetDefF, ap_rLenOf, ap_rTupOf, ap_rNeE, ap_rMaxD, ap_tSortedK, ap_rSortedD, ap_tLockV, ap_rMulS, ap_iEnumS, ap_rRange, ap_rListR, ap_rListD, ap_rDictOf, ap_rNeDs, ap_rEqDs, ap_rListOf, ap_rIsO, ap_rSortedSet, ap_rSortedSA, ap_rDClear, ap_rDUpd, ap_tSl3, ap_rSameL, ap_iItemsL, sp_digit]
      refine ⟨by decide, by decide, h2, fun k H3 k0 k1 h3 b3 => ⟨by omega, by omega, ?_⟩⟩
      refine forB_range (TxK H p l) ⟨b, _, z, Str.ofString "", none, rfl, h3, b02.trans b3, (b2.trans b3) _ _ hl1 nl, sg_of (by decide +kernel), by decide +kernel⟩ ?_ ?_
      · rintro i σ H4 hi ⟨b, s, z, x, v7, rfl, h4, b4, hl4, hx, hxl⟩
        simp only [ap_tVar, ap_tC, ap_t2I, ap_tAdd, ap_tSub, ap_tMul, ap_tCmp, ap_tIsN, ap_tNotN, ap_tB, ap_tAnd, ap_tOr, ap_tNot, ap_tAndV, ap_tOrV, ap_tNotV, ap_tIf, ap_tNext, ap_tBreak, ap_tCont, ap_tDrop, ap_tRet, ap_tRetN, ap_tIfS, ap_tNever, ap_gName, ap_gNil, ap_gCons, ap_gTup, ap_gSub, ap_tAsg, ap_tPar, ap_tAug, ap_tAugS, ap_ipI, ap_iList, ap_iTup, ap_iRng1, ap_iRng2, ap_tOp, ap_tUn, ap_rI, ap_rI0, ap_rU, ap_rEq, ap_rNe, ap_tTest, ap_tChain, ap_tFld, ap_tCon, ap_sFld, ap_sFldAug, ap_rAdd, ap_rSub, ap_tNil, ap_tCons, ap_tTup, ap_tLst, ap_tCall, ap_tMeth, ap_tMake, ap_tCallK, ap_tCB, ap_tNoPart, ap_tPart, ap_tSl, ap_rSlT, ap_rLtT, ap_rCatT, ap_rIxL, ap_rIxT, ap_rIxS, ap_rIx, ap_rSetL, ap_rSlL, ap_rIn, ap_tBM0, ap_tBM, ap_rAppend, ap_rExtend, ap_rPop, ap_rPopAt, ap_rReverse, ap_rClear, ap_rCat, ap_rRep, ap_rSum, ap_rMax, ap_rMin, ap_rSorted, ap_rSortedS, ap_rSort, ap_rIndex, ap_rAny, ap_rAll, ap_tYes, ap_tDGet, ap_tDIn, ap_tDNotIn, ap_sDPut, ap_sDAug, ap_sDDel, ap_tDNewK, ap_tDNewT, ap_tDisp, ap_tDGet1, ap_tDGet2, ap_tDPop1, ap_tDPop2, ap_tLock, ap_tLockE, ap_iRng3, ap_iRev, ap_iStr, ap_iKeys, ap_iVals, ap_iItems, ap_iKeysM, ap_iEnum, ap_iZip, ap_rNewStrs, ap_tM0, ap_tM1, ap_rSlS, ap_gUnl, ap_rIsB,  ap_tFor, ap_tLc, if_true, if_false, Bool.false_eq_true, Bool.true_eq_false, Bool.not_true, Bool.not_false, not_true_eq_false, not_false_eq_true, cx_K, nox_K, blk_K, List.getElem?_cons_succ, List.getElem?_cons_zero, Option.some.injEq, exists_eq_left', exists_eq_left, exists_eq, exists_eq', V.int.injEq, V.bl.injEq, V.str.injEq, V.ref.injEq, V.ty.injEq, List.cons.injEq, and_true, true_and, exists_and_left, List.set_cons_succ, List.set_cons_zero, List.append_nil, List.nil_append, and_assoc, decide_eq_true_eq, Bool.not_eq_true', decide_eq_false_iff_not, scal, List.length_cons, List.length_nil, Nat.zero_add, Nat.reduceAdd, ap_tCs, ap_tDcB, ap_tLam, ap_tSortK, ap_tDNotIn, ap_tDIn, ap_sDPut, ap_tSetDefF, ap_rLenOf, ap_rTupOf, ap_rNeE, ap_rMaxD, ap_tSortedK, ap_rSortedD, ap_tLockV, ap_rMulS, ap_iEnumS, ap_rRange, ap_rListR, ap_rListD, ap_rDictOf, ap_rNeDs, ap_rEqDs, ap_rListOf, ap_rIsO, ap_rSortedSet, ap_rSortedSA, ap_rDClear, ap_rDUpd, ap_tSl3, ap_rSameL, ap_iItemsL, sp_digit]
        have hi6 : i < 7 := by omega
        refine ⟨by decide, by decide, h4, fun u H5 u0 u1 h5 b5 => ?_⟩
        obtain ⟨y, ⟨sy, ly⟩, hy⟩ := some_at u0 u1
        refine ⟨_, .of (b5 _ _ hl4 nl), _, hy, y, rfl, Nat.le_of_lt (small1000 (by omega)), by decide, fun m hm => ?_⟩
        have s6 := Same.new hm (o := .lst (gapW.map V.str))
        have hm6 := upd_same (H := H5) (a := m) (o := .lst (gapW.map V.str))
        have nm : m ≠ p := by obtain ⟨x5, y5, e⟩ := h5; exact (ne_of_none e hm).symm
        generalize upd H5 m (.lst (gapW.map V.str)) = H6 at *
        refine ⟨by decide, by decide, h5.same s6, fun g H7 g0 g1 h7 b7 => ?_⟩
        obtain ⟨gx, ⟨sg, lg⟩, hg⟩ := gap_at g0 g1
        have hxy : (x ++ y).length = x.length + y.length := app_len x y
        refine ⟨_, .of (b7 _ _ hm6 nm), _, hg, gx, rfl, Nat.le_of_lt (small1000 (by omega)), b, s, z, _, _, rfl, h7, ((b4.trans b5).trans (But1.of s6)).trans b7, b7 _ _ (s6 _ _ (b5 _ _ hl4 nl)) nl, (hx.app sy).app sg, ?_⟩
        rw [app_len, hxy]
        omega
      · rintro σ H4 ⟨b, s, z, x, v7, rfl, h4, b4, hl4, hx, hxl⟩
        simp only [ap_tVar, ap_tC, ap_t2I, ap_tAdd, ap_tSub, ap_tMul, ap_tCmp, ap_tIsN, ap_tNotN, ap_tB, ap_tAnd, ap_tOr, ap_tNot, ap_tAndV, ap_tOrV, ap_tNotV, ap_tIf, ap_tNext, ap_tSeq, ap_tBreak, ap_tCont, ap_tDrop, ap_tRet, ap_tRetN, ap_tIfS, ap_tNever, ap_gName, ap_gNil, ap_gCons, ap_gTup, ap_gSub, ap_tAsg, ap_tPar, ap_tAug, ap_tAugS, ap_ipI, ap_iList, ap_iTup, ap_iRng1, ap_iRng2, ap_tOp, ap_tUn, ap_rI, ap_rI0, ap_rU, ap_rEq, ap_rNe, ap_tTest, ap_tChain, ap_tFld, ap_tCon, ap_sFld, ap_sFldAug, ap_rAdd, ap_rSub, ap_tNil, ap_tCons, ap_tTup, ap_tLst, ap_tCall, ap_tMeth, ap_tMake, ap_tCallK, ap_tCB, ap_tNoPart, ap_tPart, ap_tSl, ap_rSlT, ap_rLtT, ap_rCatT, ap_rIxL, ap_rIxT, ap_rIxS, ap_rIx, ap_rSetL, ap_rSlL, ap_rIn, ap_tBM0, ap_tBM, ap_rAppend, ap_rExtend, ap_rPop, ap_rPopAt, ap_rReverse, ap_rClear, ap_rCat, ap_rRep, ap_rSum, ap_rMax, ap_rMin, ap_rSorted, ap_rSortedS, ap_rSort, ap_rIndex, ap_rAny, ap_rAll, ap_tYes, ap_tDGet, ap_tDIn, ap_tDNotIn, ap_sDPut, ap_sDAug, ap_sDDel, ap_tDNewK, ap_tDNewT, ap_tDisp, ap_tDGet1, ap_tDGet2, ap_tDPop1, ap_tDPop2, ap_tLock, ap_tLockE, ap_iRng3, ap_iRev, ap_iStr, ap_iKeys, ap_iVals, ap_iItems, ap_iKeysM, ap_iEnum, ap_iZip, ap_rNewStrs, ap_tM0, ap_tM1, ap_rSlS, ap_gUnl, ap_rIsB,  ap_tFor, ap_tLc, if_true, if_false, Bool.false_eq_true, Bool.true_eq_false, Bool.not_true, Bool.not_false, not_true_eq_false, not_false_eq_true, cx_K, nox_K, blk_K, List.getElem?_cons_succ, List.getElem?_cons_zero, Option.some.injEq, exists_eq_left', exists_eq_left, exists_eq, exists_eq', V.int.injEq, V.bl.injEq, V.str.injEq, V.ref.injEq, V.ty.injEq, List.cons.injEq, and_true, true_and, exists_and_left, List.set_cons_succ, List.set_cons_zero, List.append_nil, List.nil_append, and_assoc, decide_eq_true_eq, Bool.not_eq_true', decide_eq_false_iff_not, scal, List.length_cons, List.length_nil, Nat.zero_add, Nat.reduceAdd, ap_tCs, ap_tDcB, ap_tLam, ap_tSortK, ap_tDNotIn, ap_tDIn, ap_sDPut, ap_tSetDefF, ap_rLenOf, ap_rTupOf, ap_rNeE, ap_rMaxD, ap_tSortedK, ap_rSortedD, ap_tLockV, ap_rMulS, ap_iEnumS, ap_rRange, ap_rListR, ap_rListD, ap_rDictOf, ap_rNeDs, ap_rEqDs, ap_rListOf, ap_rIsO, ap_rSortedSet, ap_rSortedSA, ap_rDClear, ap_rDUpd, ap_tSl3, ap_rSameL, ap_iItemsL]
        exact q x H4 ⟨hx, by omega⟩ h4 b4
abbrev s_l_parts : Stmt := top 25
abbrev N_l_parts : List Str := ["_law_tape_here", "_law_plain", "_law_head", "_law_body"]
theorem sc_l_parts : FnScope N_l_parts ["_law_tape_here", "_law_plain"] (defScope s_l_parts) := ⟨rfl, rfl, rfl, by decide +kernel, rfl, by decide +kernel, by decide +kernel⟩
def sp_parts3 : Sp := fun vs H Q _ => ∃ (p : Addr) (b : Bool), vs = [.ref p, .bl b] ∧ TpAt H p ∧ ∀ (t : Addr) (xs : List Str) H', xs.length = 3 → (∀ x ∈ xs, TxS x) → H' t = some (.tup (xs.map V.str)) → TpAt H' p → But1 p H H' → Q (.ref t) H'
theorem c_parts3 (T : Txt mg) (D : Def K mg "_law_parts" s_l_parts) (C_l_text : Cal P w K mg base 2 "_law_text" ["_law_tape_here", "_law_plain"] sp_text) : Cal P w K mg base 3 "_law_parts" ["_law_tape_here", "_law_plain"] sp_parts3 := by
  refine D.cal sc_l_parts (fun _ _ _ _ _ _ us hl => match us, hl with | [_, _], _ => rfl) (fun vs H Q E h => ?_) (fun f cdv A outer s H vs Q E hr h => ?_)
  · obtain ⟨p, b, rfl, _⟩ := h; rfl
  · obtain ⟨p, b, rfl, hp, q⟩ := h
    refine ⟨_, (pss_cons (ps_set (i := 2) sc_l_parts.nd rfl (by first | exact Or.inl rfl | exact Or.inr rfl) (pe_callC C_l_text (hr.mono (by decide)) (pa_cons (pv 0) (pa_cons (pv 1) pa_nil))))
        (pss_cons (ps_set (i := 3) sc_l_parts.nd rfl (by first | exact Or.inl rfl | exact Or.inr rfl) (pe_callC C_l_text (hr.mono (by decide)) (pa_cons (pv 0) (pa_cons (pv 1) pa_nil))))
        (pss_one (ps_ret (pe_tup (pa_cons (pv 2) (pa_cons (pv 3) (pa_cons (pe_callC C_l_text (hr.mono (by decide)) (pa_cons (pv 0) (pa_cons (pv 1) pa_nil))) pa_nil)))))))), ?_⟩
    have es : start N_l_parts [V.ref p, V.bl b] = [some (.ref p), some (.bl b), none, none] := rfl
    rw [es, ap_tSeq]
    simp only [ap_tVar, ap_tC, ap_t2I, ap_tAdd, ap_tSub, ap_tMul, ap_tCmp, ap_tIsN, ap_tNotN, ap_tB, ap_tAnd, ap_tOr, ap_tNot, ap_tAndV, ap_tOrV, ap_tNotV, ap_tIf, ap_tNext, ap_tBreak, ap_tCont, ap_tDrop, ap_tRet, ap_tRetN, ap_tIfS, ap_tNever, ap_gName, ap_gNil, ap_gCons, ap_gTup, ap_gSub, ap_tAsg, ap_tPar, ap_tAug, ap_tAugS, ap_ipI, ap_iList, ap_iTup, ap_iRng1, ap_iRng2, ap_tOp, ap_tUn, ap_rI, ap_rI0, ap_rU, ap_rEq, ap_rNe, ap_tTest, ap_tChain, ap_tFld, ap_tCon, ap_sFld, ap_sFldAug, ap_rAdd, ap_rSub, ap_tNil, ap_tCons, ap_tTup, ap_tLst, ap_tCall, ap_tMeth, ap_tMake, ap_tCallK, ap_tCB, ap_tNoPart, ap_tPart, ap_tSl, ap_rSlT, ap_rLtT, ap_rCatT, ap_rIxL, ap_rIxT, ap_rIxS, ap_rIx, ap_rSetL, ap_rSlL, ap_rIn, ap_tBM0, ap_tBM, ap_rAppend, ap_rExtend, ap_rPop, ap_rPopAt, ap_rReverse, ap_rClear, ap_rCat, ap_rRep, ap_rSum, ap_rMax, ap_rMin, ap_rSorted, ap_rSortedS, ap_rSort, ap_rIndex, ap_rAny, ap_rAll, ap_tYes, ap_tDGet, ap_tDIn, ap_tDNotIn, ap_sDPut, ap_sDAug, ap_sDDel, ap_tDNewK, ap_tDNewT, ap_tDisp, ap_tDGet1, ap_tDGet2, ap_tDPop1, ap_tDPop2, ap_tLock, ap_tLockE, ap_iRng3, ap_iRev, ap_iStr, ap_iKeys, ap_iVals, ap_iItems, ap_iKeysM, ap_iEnum, ap_iZip, ap_rNewStrs, ap_tM0, ap_tM1, ap_rSlS, ap_gUnl, ap_rIsB,  ap_tFor, ap_tLc, if_true, if_false, Bool.false_eq_true, Bool.true_eq_false, Bool.not_true, Bool.not_false, not_true_eq_false, not_false_eq_true, cx_K, nox_K, blk_K, List.getElem?_cons_succ, List.getElem?_cons_zero, Option.some.injEq, exists_eq_left', exists_eq_left, exists_eq, exists_eq', V.int.injEq, V.bl.injEq, V.str.injEq, V.ref.injEq, V.ty.injEq, List.cons.injEq, and_true, true_and, exists_and_left, List.set_cons_succ, List.set_cons_zero, List.append_nil, List.nil_append, and_assoc, decide_eq_true_eq, Bool.not_eq_true', decide_eq_false_iff_not, scal, List.length_cons, List.length_nil, Nat.zero_add, Nat.reduceAdd, ap_tCs, ap_tDcB, ap_tLam, ap_tSortK, ap_tDNotIn, ap_tDIn, ap_sDPut, ap_tSetDefF, ap_rLenOf, ap_rTupOf, ap_rNeE, ap_rMaxD, ap_tSortedK, ap_rSortedD, ap_tLockV, ap_rMulS, ap_iEnumS, ap_rRange, ap_rListR, ap_rListD, ap_rDictOf, ap_rNeDs, ap_rEqDs, ap_rListOf, ap_rIsO, ap_rSortedSet, ap_rSortedSA, ap_rDClear, ap_rDUpd, ap_tSl3, ap_rSameL, ap_iItemsL, sp_text]
    refine ⟨hp, fun x1 H1 g1 h1 b1 => ?_⟩
    rw [ap_tSeq]
    simp only [ap_tVar, ap_tC, ap_t2I, ap_tAdd, ap_tSub, ap_tMul, ap_tCmp, ap_tIsN, ap_tNotN, ap_tB, ap_tAnd, ap_tOr, ap_tNot, ap_tAndV, ap_tOrV, ap_tNotV, ap_tIf, ap_tNext, ap_tBreak, ap_tCont, ap_tDrop, ap_tRet, ap_tRetN, ap_tIfS, ap_tNever, ap_gName, ap_gNil, ap_gCons, ap_gTup, ap_gSub, ap_tAsg, ap_tPar, ap_tAug, ap_tAugS, ap_ipI, ap_iList, ap_iTup, ap_iRng1, ap_iRng2, ap_tOp, ap_tUn, ap_rI, ap_rI0, ap_rU, ap_rEq, ap_rNe, ap_tTest, ap_tChain, ap_tFld, ap_tCon, ap_sFld, ap_sFldAug, ap_rAdd, ap_rSub, ap_tNil, ap_tCons, ap_tTup, ap_tLst, ap_tCall, ap_tMeth, ap_tMake, ap_tCallK, ap_tCB, ap_tNoPart, ap_tPart, ap_tSl, ap_rSlT, ap_rLtT, ap_rCatT, ap_rIxL, ap_rIxT, ap_rIxS, ap_rIx, ap_rSetL, ap_rSlL, ap_rIn, ap_tBM0, ap_tBM, ap_rAppend, ap_rExtend, ap_rPop, ap_rPopAt, ap_rReverse, ap_rClear, ap_rCat, ap_rRep, ap_rSum, ap_rMax, ap_rMin, ap_rSorted, ap_rSortedS, ap_rSort, ap_rIndex, ap_rAny, ap_rAll, ap_tYes, ap_tDGet, ap_tDIn, ap_tDNotIn, ap_sDPut, ap_sDAug, ap_sDDel, ap_tDNewK, ap_tDNewT, ap_tDisp, ap_tDGet1, ap_tDGet2, ap_tDPop1, ap_tDPop2, ap_tLock, ap_tLockE, ap_iRng3, ap_iRev, ap_iStr, ap_iKeys, ap_iVals, ap_iItems, ap_iKeysM, ap_iEnum, ap_iZip, ap_rNewStrs, ap_tM0, ap_tM1, ap_rSlS, ap_gUnl, ap_rIsB,  ap_tFor, ap_tLc, if_true, if_false, Bool.false_eq_true, Bool.true_eq_false, Bool.not_true, Bool.not_false, not_true_eq_false, not_false_eq_true, cx_K, nox_K, blk_K, List.getElem?_cons_succ, List.getElem?_cons_zero, Option.some.injEq, exists_eq_left', exists_eq_left, exists_eq, exists_eq', V.int.injEq, V.bl.injEq, V.str.injEq, V.ref.injEq, V.ty.injEq, List.cons.injEq, and_true, true_and, exists_and_left, List.set_cons_succ, List.set_cons_zero, List.append_nil, List.nil_append, and_assoc, decide_eq_true_eq, Bool.not_eq_true', decide_eq_false_iff_not, scal, List.length_cons, List.length_nil, Nat.zero_add, Nat.reduceAdd, ap_tCs, ap_tDcB, ap_tLam, ap_tSortK, ap_tDNotIn, ap_tDIn, ap_sDPut, ap_tSetDefF, ap_rLenOf, ap_rTupOf, ap_rNeE, ap_rMaxD, ap_tSortedK, ap_rSortedD, ap_tLockV, ap_rMulS, ap_iEnumS, ap_rRange, ap_rListR, ap_rListD, ap_rDictOf, ap_rNeDs, ap_rEqDs, ap_rListOf, ap_rIsO, ap_rSortedSet, ap_rSortedSA, ap_rDClear, ap_rDUpd, ap_tSl3, ap_rSameL, ap_iItemsL, sp_text]
    refine ⟨h1, fun x2 H2 g2 h2 b2 => ⟨h2, fun x3 H3 g3 h3 b3 => ⟨by decide, fun t ht => ?_⟩⟩⟩
    refine q t [x1, x2, x3] _ rfl (fun x hx => ?_) upd_same (h3.same (Same.new ht)) (((b1.trans b2).trans b3).trans (But1.of (Same.new ht)))
    simp only [List.mem_cons, List.not_mem_nil, or_false] at hx
    rcases hx with rfl | rfl | rfl
    · exact g1
    · exact g2
    · exact g3
end
end My
set_option maxHeartbeats 4000000

namespace My
open PySem L2
section
variable {P : Program} {w : World} {K : PySem.W.Frag} {mg : Str → Option Value} {base : Heap}
/-! endings -/
abbrev En := Str × Str × Int
def GoodEn (e : En) : Prop := Sm e.1 ∧ 1 ≤ e.1.length ∧ e.1.length ≤ 8 ∧ Sm e.2.1 ∧ e.2.1.length ≤ e.1.length ∧ 1 ≤ e.2.2 ∧ e.2.2 ≤ 20
def enV (e : En) : List V := [.str e.1, .str e.2.1, .int e.2.2]
def EnAt (H : Hp) (ps : List Addr) (es : List En) : Prop := ps.length = es.length ∧ ∀ (i : Nat) p e, ps[i]? = some p → es[i]? = some e → H p = some (.tup (enV e))
theorem EnAt.same {H H' : Hp} {ps : List Addr} {es : List En} (h : EnAt H ps es) (s : Same H H') : EnAt H' ps es := ⟨h.1, fun i p e h1 h2 => s _ _ (h.2 i p e h1 h2)⟩
theorem EnAt.off {H : Hp} {ps : List Addr} {es : List En} {a : Addr} {o u : HO} (h : EnAt H ps es) (ha : H a = some u) (hu : ∀ xs, u ≠ .tup xs) : EnAt (upd H a o) ps es := ⟨h.1, fun i p e h1 h2 => by
  have h3 := h.2 i p e h1 h2
  rw [upd_ne (ne_of h3 ha fun z => hu _ z.symm)]
  exact h3⟩
theorem EnAt.snoc {H : Hp} {ps : List Addr} {es : List En} {p : Addr} {e : En} (h : EnAt H ps es) (hp : H p = some (.tup (enV e))) : EnAt H (ps ++ [p]) (es ++ [e]) := by
  refine ⟨by simp [h.1], fun i q f h1 h2 => ?_⟩
  by_cases hi : i < ps.length
  · rw [List.getElem?_append_left hi] at h1
    rw [List.getElem?_append_left (by rw [← h.1]; exact hi)] at h2
    exact h.2 i q f h1 h2
  · rw [List.getElem?_append_right (by omega)] at h1
    rw [List.getElem?_append_right (by rw [← h.1]; omega)] at h2
    rw [h.1] at h1
    cases hz : i - es.length with
    | zero =>
      rw [hz] at h1 h2
      simp at h1 h2
      subst h1 h2
      exact hp
    | succ n =>
      rw [hz] at h1
      simp at h1
abbrev s_is_small_letter : Stmt := top 9
abbrev N_is_small_letter : List Str := ["sign"]
theorem sc_is_small_letter : FnScope N_is_small_letter ["sign"] (defScope s_is_small_letter) := ⟨rfl, rfl, rfl, by decide +kernel, rfl, by decide +kernel, by decide +kernel⟩
abbrev s_is_figure : Stmt := top 10
abbrev N_is_figure : List Str := ["sign"]
theorem sc_is_figure : FnScope N_is_figure ["sign"] (defScope s_is_figure) := ⟨rfl, rfl, rfl, by decide +kernel, rfl, by decide +kernel, by decide +kernel⟩
theorem c_small (D : Def K mg "is_small_letter" s_is_small_letter) : Cal P w K mg base 1 "is_small_letter" ["sign"] (sp_sign isSmall) := by
  refine D.cal sc_is_small_letter (fun _ _ _ _ _ _ us hl => match us, hl with | [_], _ => rfl) (fun vs H Q E h => ?_) (fun f cdv A outer s H vs Q E hr h => ?_)
  · obtain ⟨c, rfl, _⟩ := h; rfl
  · obtain ⟨c, rfl, q⟩ := h
    refine ⟨_, (pss_one (ps_ret (pe_chain op_le_str op_le_str pe_str (pv 0) pe_str))), ?_⟩
    have es : start N_is_small_letter [V.str ⟨#[c]⟩] = [some (.str ⟨#[c]⟩)] := rfl
    rw [es]
    simp only [ap_tVar, ap_tC, ap_t2I, ap_tAdd, ap_tSub, ap_tMul, ap_tCmp, ap_tIsN, ap_tNotN, ap_tB, ap_tAnd, ap_tOr, ap_tNot, ap_tAndV, ap_tOrV, ap_tNotV, ap_tIf, ap_tNext, ap_tSeq, ap_tBreak, ap_tCont, ap_tDrop, ap_tRet, ap_tRetN, ap_tIfS, ap_tNever, ap_gName, ap_gNil, ap_gCons, ap_gTup, ap_gSub, ap_tAsg, ap_tPar, ap_tAug, ap_tAugS, ap_ipI, ap_iList, ap_iTup, ap_iRng1, ap_iRng2, ap_tOp, ap_tUn, ap_rI, ap_rI0, ap_rU, ap_rEq, ap_rNe, ap_tTest, ap_tChain, ap_tFld, ap_tCon, ap_sFld, ap_sFldAug, ap_rAdd, ap_rSub, ap_tNil, ap_tCons, ap_tTup, ap_tLst, ap_tCall, ap_tMeth, ap_tMake, ap_tCallK, ap_tCB, ap_tNoPart, ap_tPart, ap_tSl, ap_rSlT, ap_rLtT, ap_rCatT, ap_rIxL, ap_rIxT, ap_rIxS, ap_rIx, ap_rSetL, ap_rSlL, ap_rIn, ap_tBM0, ap_tBM, ap_rAppend, ap_rExtend, ap_rPop, ap_rPopAt, ap_rReverse, ap_rClear, ap_rCat, ap_rRep, ap_rSum, ap_rMax, ap_rMin, ap_rSorted, ap_rSortedS, ap_rSort, ap_rIndex, ap_rAny, ap_rAll, ap_tYes, ap_tDGet, ap_tDIn, ap_tDNotIn, ap_sDPut, ap_sDAug, ap_sDDel, ap_tDNewK, ap_tDNewT, ap_tDisp, ap_tDGet1, ap_tDGet2, ap_tDPop1, ap_tDPop2, ap_tLock, ap_tLockE, ap_iRng3, ap_iRev, ap_iStr, ap_iKeys, ap_iVals, ap_iItems, ap_iKeysM, ap_iEnum, ap_iZip, ap_rNewStrs, ap_tM0, ap_tM1, ap_rSlS, ap_gUnl, ap_rIsB,  ap_tFor, ap_tLc, if_true, if_false, Bool.false_eq_true, Bool.true_eq_false, Bool.not_true, Bool.not_false, not_true_eq_false, not_false_eq_true, cx_K, nox_K, blk_K, List.getElem?_cons_succ, List.getElem?_cons_zero, Option.some.injEq, exists_eq_left', exists_eq_left, exists_eq, exists_eq', V.int.injEq, V.bl.injEq, V.str.injEq, V.ref.injEq, V.ty.injEq, List.cons.injEq, and_true, true_and, exists_and_left, List.set_cons_succ, List.set_cons_zero, List.append_nil, List.nil_append, and_assoc, decide_eq_true_eq, Bool.not_eq_true', decide_eq_false_iff_not, scal, List.length_cons, List.length_nil, Nat.zero_add, Nat.reduceAdd, ap_tCs, ap_tDcB, ap_tLam, ap_tSortK, ap_tDNotIn, ap_tDIn, ap_sDPut, ap_tSetDefF, ap_rLenOf, ap_rTupOf, ap_rNeE, ap_rMaxD, ap_tSortedK, ap_rSortedD, ap_tLockV, ap_rMulS, ap_iEnumS, ap_rRange, ap_rListR, ap_rListD, ap_rDictOf, ap_rNeDs, ap_rEqDs, ap_rListOf, ap_rIsO, ap_rSortedSet, ap_rSortedSA, ap_rDClear, ap_rDUpd, ap_tSl3, ap_rSameL, ap_iItemsL]
    exact rng_if (Q := fun b => Q (.bl b) H) (lo := 97) (hi := 122) rfl rfl q
theorem c_figure (D : Def K mg "is_figure" s_is_figure) : Cal P w K mg base 1 "is_figure" ["sign"] (sp_sign isFig) := by
  refine D.cal sc_is_figure (fun _ _ _ _ _ _ us hl => match us, hl with | [_], _ => rfl) (fun vs H Q E h => ?_) (fun f cdv A outer s H vs Q E hr h => ?_)
  · obtain ⟨c, rfl, _⟩ := h; rfl
  · obtain ⟨c, rfl, q⟩ := h
    refine ⟨_, (pss_one (ps_ret (pe_chain op_le_str op_le_str pe_str (pv 0) pe_str))), ?_⟩
    have es : start N_is_figure [V.str ⟨#[c]⟩] = [some (.str ⟨#[c]⟩)] := rfl
    rw [es]
    simp only [ap_tVar, ap_tC, ap_t2I, ap_tAdd, ap_tSub, ap_tMul, ap_tCmp, ap_tIsN, ap_tNotN, ap_tB, ap_tAnd, ap_tOr, ap_tNot, ap_tAndV, ap_tOrV, ap_tNotV, ap_tIf, ap_tNext, ap_tSeq, ap_tBreak, ap_tCont, ap_tDrop, ap_tRet, ap_tRetN, ap_tIfS, ap_tNever, ap_gName, ap_gNil, ap_gCons, ap_gTup, ap_gSub, ap_tAsg, ap_tPar, ap_tAug, ap_tAugS, ap_ipI, ap_iList, ap_iTup, ap_iRng1, ap_iRng2, ap_tOp, ap_tUn, ap_rI, ap_rI0, ap_rU, ap_rEq, ap_rNe, ap_tTest, ap_tChain, ap_tFld, ap_tCon, ap_sFld, ap_sFldAug, ap_rAdd, ap_rSub, ap_tNil, ap_tCons, ap_tTup, ap_tLst, ap_tCall, ap_tMeth, ap_tMake, ap_tCallK, ap_tCB, ap_tNoPart, ap_tPart, ap_tSl, ap_rSlT, ap_rLtT, ap_rCatT, ap_rIxL, ap_rIxT, ap_rIxS, ap_rIx, ap_rSetL, ap_rSlL, ap_rIn, ap_tBM0, ap_tBM, ap_rAppend, ap_rExtend, ap_rPop, ap_rPopAt, ap_rReverse, ap_rClear, ap_rCat, ap_rRep, ap_rSum, ap_rMax, ap_rMin, ap_rSorted, ap_rSortedS, ap_rSort, ap_rIndex, ap_rAny, ap_rAll, ap_tYes, ap_tDGet, ap_tDIn, ap_tDNotIn, ap_sDPut, ap_sDAug, ap_sDDel, ap_tDNewK, ap_tDNewT, ap_tDisp, ap_tDGet1, ap_tDGet2, ap_tDPop1, ap_tDPop2, ap_tLock, ap_tLockE, ap_iRng3, ap_iRev, ap_iStr, ap_iKeys, ap_iVals, ap_iItems, ap_iKeysM, ap_iEnum, ap_iZip, ap_rNewStrs, ap_tM0, ap_tM1, ap_rSlS, ap_gUnl, ap_rIsB,  ap_tFor, ap_tLc, if_true, if_false, Bool.false_eq_true, Bool.true_eq_false, Bool.not_true, Bool.not_false, not_true_eq_false, not_false_eq_true, cx_K, nox_K, blk_K, List.getElem?_cons_succ, List.getElem?_cons_zero, Option.some.injEq, exists_eq_left', exists_eq_left, exists_eq, exists_eq', V.int.injEq, V.bl.injEq, V.str.injEq, V.ref.injEq, V.ty.injEq, List.cons.injEq, and_true, true_and, exists_and_left, List.set_cons_succ, List.set_cons_zero, List.append_nil, List.nil_append, and_assoc, decide_eq_true_eq, Bool.not_eq_true', decide_eq_false_iff_not, scal, List.length_cons, List.length_nil, Nat.zero_add, Nat.reduceAdd, ap_tCs, ap_tDcB, ap_tLam, ap_tSortK, ap_tDNotIn, ap_tDIn, ap_sDPut, ap_tSetDefF, ap_rLenOf, ap_rTupOf, ap_rNeE, ap_rMaxD, ap_tSortedK, ap_rSortedD, ap_tLockV, ap_rMulS, ap_iEnumS, ap_rRange, ap_rListR, ap_rListD, ap_rDictOf, ap_rNeDs, ap_rEqDs, ap_rListOf, ap_rIsO, ap_rSortedSet, ap_rSortedSA, ap_rDClear, ap_rDUpd, ap_tSl3, ap_rSameL, ap_iItemsL]
    exact rng_if (Q := fun b => Q (.bl b) H) (lo := 48) (hi := 57) rfl rfl q
abbrev s_are_small_letters : Stmt := top 12
abbrev N_are_small_letters : List Str := ["text", "least", "most", "sign"]
theorem sc_are_small_letters : FnScope N_are_small_letters ["text", "least", "most"] (defScope s_are_small_letters) := ⟨rfl, rfl, rfl, by decide +kernel, rfl, by decide +kernel, by decide +kernel⟩
def smlB (x : Str) (a b : Int) : Bool := decide (a ≤ x.length) && decide ((x.length : Int) ≤ b) && x.cps.toList.all isSmall
def sp_sml : Sp := fun vs H Q _ => ∃ (x : Str) (a b : Int), vs = [.str x, .int a, .int b] ∧ x.length ≤ 1000 ∧ ∀ H', Same H H' → Q (.bl (smlB x a b)) H'
theorem all_map (f : Nat → Bool) (l : List Nat) : (l.map f).all id = l.all f := by rw [List.all_map]; rfl
theorem c_sml (T : Txt mg) (D : Def K mg "are_small_letters" s_are_small_letters) (C_is_small_letter : Cal P w K mg base 1 "is_small_letter" ["sign"] (sp_sign isSmall)) : Cal P w K mg base 2 "are_small_letters" ["text", "least", "most"] sp_sml := by
  refine D.cal sc_are_small_letters (fun _ _ _ _ _ _ us hl => match us, hl with | [_, _, _], _ => rfl) (fun vs H Q E h => ?_) (fun f cdv A outer s H vs Q E hr h => ?_)
  · obtain ⟨x, a, b, rfl, _⟩ := h; rfl
  · obtain ⟨x, a, b, rfl, hx, q⟩ := h
    refine ⟨_, (pss_one (ps_ret (pe_and (pe_chain op_le op_le (pv 1) (pe_callB call_len_str (by rfl) T.n_len (by decide +kernel) (pa_cons (pv 0) pa_nil)) (pv 2)) (pe_one (pe_callB (cr_all rfl) (by rfl) T.n_all (by decide +kernel) (pa_cons (pe_lc (own := [("sign", 3)]) (g := (gName 3)) (by rfl) sc_are_small_letters.nd (pi_str (pv 0)) (blkOk_by (own := [("sign", 3)]) (N := N_are_small_letters) (sc := defScope s_are_small_letters) (by decide +kernel)) (fun _ _ _ _ _ => (pg_name (i := 3) sc_are_small_letters.nd rfl (by first | exact Or.inl rfl | exact Or.inr rfl))) (fun _ _ _ _ _ => pts_nil) (fun _ _ _ _ _ => (pe_callC C_is_small_letter (hr.mono (by decide)) (pa_cons (pv 3) pa_nil)))) pa_nil)))))), ?_⟩
    have es : start N_are_small_letters [V.str x, V.int a, V.int b] = [some (.str x), some (.int a), some (.int b), none] := rfl
    rw [es]
    simp only [ap_tVar, ap_tC, ap_t2I, ap_tAdd, ap_tSub, ap_tMul, ap_tCmp, ap_tIsN, ap_tNotN, ap_tB, ap_tAnd, ap_tOr, ap_tNot, ap_tAndV, ap_tOrV, ap_tNotV, ap_tIf, ap_tNext, ap_tSeq, ap_tBreak, ap_tCont, ap_tDrop, ap_tRet, ap_tRetN, ap_tIfS, ap_tNever, ap_gName, ap_gNil, ap_gCons, ap_gTup, ap_gSub, ap_tAsg, ap_tPar, ap_tAug, ap_tAugS, ap_ipI, ap_iList, ap_iTup, ap_iRng1, ap_iRng2, ap_tOp, ap_tUn, ap_rI, ap_rI0, ap_rU, ap_rEq, ap_rNe, ap_tTest, ap_tChain, ap_tFld, ap_tCon, ap_sFld, ap_sFldAug, ap_rAdd, ap_rSub, ap_tNil, ap_tCons, ap_tTup, ap_tLst, ap_tCall, ap_tMeth, ap_tMake, ap_tCallK, ap_tCB, ap_tNoPart, ap_tPart, ap_tSl, ap_rSlT, ap_rLtT, ap_rCatT, ap_rIxL, ap_rIxT, ap_rIxS, ap_rIx, ap_rSetL, ap_rSlL, ap_rIn, ap_tBM0, ap_tBM, ap_rAppend, ap_rExtend, ap_rPop, ap_rPopAt, ap_rReverse, ap_rClear, ap_rCat, ap_rRep, ap_rSum, ap_rMax, ap_rMin, ap_rSorted, ap_rSortedS, ap_rSort, ap_rIndex, ap_rAny, ap_rAll, ap_tYes, ap_tDGet, ap_tDIn, ap_tDNotIn, ap_sDPut, ap_sDAug, ap_sDDel, ap_tDNewK, ap_tDNewT, ap_tDisp, ap_tDGet1, ap_tDGet2, ap_tDPop1, ap_tDPop2, ap_tLock, ap_tLockE, ap_iRng3, ap_iRev, ap_iStr, ap_iKeys, ap_iVals, ap_iItems, ap_iKeysM, ap_iEnum, ap_iZip, ap_rNewStrs, ap_tM0, ap_tM1, ap_rSlS, ap_gUnl, ap_rIsB,  ap_tFor, ap_tLc, if_true, if_false, Bool.false_eq_true, Bool.true_eq_false, Bool.not_true, Bool.not_false, not_true_eq_false, not_false_eq_true, cx_K, nox_K, blk_K, List.getElem?_cons_succ, List.getElem?_cons_zero, Option.some.injEq, exists_eq_left', exists_eq_left, exists_eq, exists_eq', V.int.injEq, V.bl.injEq, V.str.injEq, V.ref.injEq, V.ty.injEq, List.cons.injEq, and_true, true_and, exists_and_left, List.set_cons_succ, List.set_cons_zero, List.append_nil, List.nil_append, and_assoc, decide_eq_true_eq, Bool.not_eq_true', decide_eq_false_iff_not, scal, List.length_cons, List.length_nil, Nat.zero_add, Nat.reduceAdd, ap_tCs, ap_tDcB, ap_tLam, ap_tSortK, ap_tDNotIn, ap_tDIn, ap_sDPut, ap_tSetDefF, ap_rLenOf, ap_rTupOf, ap_rNeE, ap_rMaxD, ap_tSortedK, ap_rSortedD, ap_tLockV, ap_rMulS, ap_iEnumS, ap_rRange, ap_rListR, ap_rListD, ap_rDictOf, ap_rNeDs, ap_rEqDs, ap_rListOf, ap_rIsO, ap_rSortedSet, ap_rSortedSA, ap_rDClear, ap_rDUpd, ap_tSl3, ap_rSameL, ap_iItemsL]
    refine ⟨Nat.le_of_lt (small1000 hx), ite2 (fun h1 => ite2 (fun h2 D0 hD => ?_) (fun h2 => ?_)) (fun h1 => ?_)⟩
    · refine lc_signs (f := isSmall) (fun c H Q h => ⟨.str ⟨#[c]⟩, rfl, c, rfl, h⟩) hD hx fun H' hH s => ⟨_, .of hH, ?_⟩
      rw [all_map]
      have e : smlB x a b = x.cps.toList.all isSmall := by unfold smlB; simp [h1, h2]
      rw [← e]
      exact q _ s
    · have e : smlB x a b = false := by unfold smlB; simp [h2]
      rw [← e]; exact q _ (Same.refl _)
    · have e : smlB x a b = false := by unfold smlB; simp [h1]
      rw [← e]; exact q _ (Same.refl _)
abbrev s_is_plain_sign : Stmt := top 11
abbrev N_is_plain_sign : List Str := ["sign"]
theorem sc_is_plain_sign : FnScope N_is_plain_sign ["sign"] (defScope s_is_plain_sign) := ⟨rfl, rfl, rfl, by decide +kernel, rfl, by decide +kernel, by decide +kernel⟩
def isPl (c : Nat) : Bool := isSmall c || isFig c
theorem c_psign (D : Def K mg "is_plain_sign" s_is_plain_sign) (C_is_small_letter : Cal P w K mg base 1 "is_small_letter" ["sign"] (sp_sign isSmall)) (C_is_figure : Cal P w K mg base 1 "is_figure" ["sign"] (sp_sign isFig)) : Cal P w K mg base 2 "is_plain_sign" ["sign"] (sp_sign isPl) := by
  refine D.cal sc_is_plain_sign (fun _ _ _ _ _ _ us hl => match us, hl with | [_], _ => rfl) (fun vs H Q E h => ?_) (fun f cdv A outer s H vs Q E hr h => ?_)
  · obtain ⟨c, rfl, _⟩ := h; rfl
  · obtain ⟨c, rfl, q⟩ := h
    refine ⟨_, (pss_one (ps_ret (pe_or (pe_callC C_is_small_letter (hr.mono (by decide)) (pa_cons (pv 0) pa_nil)) (pe_one (pe_callC C_is_figure (hr.mono (by decide)) (pa_cons (pv 0) pa_nil)))))), ?_⟩
    have es : start N_is_plain_sign [V.str ⟨#[c]⟩] = [some (.str ⟨#[c]⟩)] := rfl
    rw [es]
    simp only [ap_tVar, ap_tC, ap_t2I, ap_tAdd, ap_tSub, ap_tMul, ap_tCmp, ap_tIsN, ap_tNotN, ap_tB, ap_tAnd, ap_tOr, ap_tNot, ap_tAndV, ap_tOrV, ap_tNotV, ap_tIf, ap_tNext, ap_tSeq, ap_tBreak, ap_tCont, ap_tDrop, ap_tRet, ap_tRetN, ap_tIfS, ap_tNever, ap_gName, ap_gNil, ap_gCons, ap_gTup, ap_gSub, ap_tAsg, ap_tPar, ap_tAug, ap_tAugS, ap_ipI, ap_iList, ap_iTup, ap_iRng1, ap_iRng2, ap_tOp, ap_tUn, ap_rI, ap_rI0, ap_rU, ap_rEq, ap_rNe, ap_tTest, ap_tChain, ap_tFld, ap_tCon, ap_sFld, ap_sFldAug, ap_rAdd, ap_rSub, ap_tNil, ap_tCons, ap_tTup, ap_tLst, ap_tCall, ap_tMeth, ap_tMake, ap_tCallK, ap_tCB, ap_tNoPart, ap_tPart, ap_tSl, ap_rSlT, ap_rLtT, ap_rCatT, ap_rIxL, ap_rIxT, ap_rIxS, ap_rIx, ap_rSetL, ap_rSlL, ap_rIn, ap_tBM0, ap_tBM, ap_rAppend, ap_rExtend, ap_rPop, ap_rPopAt, ap_rReverse, ap_rClear, ap_rCat, ap_rRep, ap_rSum, ap_rMax, ap_rMin, ap_rSorted, ap_rSortedS, ap_rSort, ap_rIndex, ap_rAny, ap_rAll, ap_tYes, ap_tDGet, ap_tDIn, ap_tDNotIn, ap_sDPut, ap_sDAug, ap_sDDel, ap_tDNewK, ap_tDNewT, ap_tDisp, ap_tDGet1, ap_tDGet2, ap_tDPop1, ap_tDPop2, ap_tLock, ap_tLockE, ap_iRng3, ap_iRev, ap_iStr, ap_iKeys, ap_iVals, ap_iItems, ap_iKeysM, ap_iEnum, ap_iZip, ap_rNewStrs, ap_tM0, ap_tM1, ap_rSlS, ap_gUnl, ap_rIsB,  ap_tFor, ap_tLc, if_true, if_false, Bool.false_eq_true, Bool.true_eq_false, Bool.not_true, Bool.not_false, not_true_eq_false, not_false_eq_true, cx_K, nox_K, blk_K, List.getElem?_cons_succ, List.getElem?_cons_zero, Option.some.injEq, exists_eq_left', exists_eq_left, exists_eq, exists_eq', V.int.injEq, V.bl.injEq, V.str.injEq, V.ref.injEq, V.ty.injEq, List.cons.injEq, and_true, true_and, exists_and_left, List.set_cons_succ, List.set_cons_zero, List.append_nil, List.nil_append, and_assoc, decide_eq_true_eq, Bool.not_eq_true', decide_eq_false_iff_not, scal, List.length_cons, List.length_nil, Nat.zero_add, Nat.reduceAdd, ap_tCs, ap_tDcB, ap_tLam, ap_tSortK, ap_tDNotIn, ap_tDIn, ap_sDPut, ap_tSetDefF, ap_rLenOf, ap_rTupOf, ap_rNeE, ap_rMaxD, ap_tSortedK, ap_rSortedD, ap_tLockV, ap_rMulS, ap_iEnumS, ap_rRange, ap_rListR, ap_rListD, ap_rDictOf, ap_rNeDs, ap_rEqDs, ap_rListOf, ap_rIsO, ap_rSortedSet, ap_rSortedSA, ap_rDClear, ap_rDUpd, ap_tSl3, ap_rSameL, ap_iItemsL]
    refine ⟨c, rfl, isSmall c, rfl, ?_⟩
    have h : Q (.bl (isSmall c || isFig c)) H := q
    refine ite2 (fun hc => ?_) (fun hc => ?_)
    · rw [hc] at h; exact h
    · rw [Bool.eq_false_iff.mpr hc] at h
      exact ⟨c, rfl, h⟩
abbrev s_is_plain_word : Stmt := top 13
abbrev N_is_plain_word : List Str := ["text", "sign"]
theorem sc_is_plain_word : FnScope N_is_plain_word ["text"] (defScope s_is_plain_word) := ⟨rfl, rfl, rfl, by decide +kernel, rfl, by decide +kernel, by decide +kernel⟩
def plB (x : Str) : Bool := decide (1 ≤ x.length) && decide (x.length ≤ 20) && x.cps.toList.all isPl
def sp_pl : Sp := fun vs H Q _ => ∃ (x : Str), vs = [.str x] ∧ x.length ≤ 1000 ∧ ∀ H', Same H H' → Q (.bl (plB x)) H'
theorem c_pl (T : Txt mg) (D : Def K mg "is_plain_word" s_is_plain_word) (C_is_plain_sign : Cal P w K mg base 2 "is_plain_sign" ["sign"] (sp_sign isPl)) : Cal P w K mg base 3 "is_plain_word" ["text"] sp_pl := by
  refine D.cal sc_is_plain_word (fun _ _ _ _ _ _ us hl => match us, hl with | [_], _ => rfl) (fun vs H Q E h => ?_) (fun f cdv A outer s H vs Q E hr h => ?_)
  · obtain ⟨x, rfl, _⟩ := h; rfl
  · obtain ⟨x, rfl, hx, q⟩ := h
    refine ⟨_, (pss_one (ps_ret (pe_and (pe_chain op_le op_le pe_int (pe_callB call_len_str (by rfl) T.n_len (by decide +kernel) (pa_cons (pv 0) pa_nil)) pe_int) (pe_one (pe_callB (cr_all rfl) (by rfl) T.n_all (by decide +kernel) (pa_cons (pe_lc (own := [("sign", 1)]) (g := (gName 1)) (by rfl) sc_is_plain_word.nd (pi_str (pv 0)) (blkOk_by (own := [("sign", 1)]) (N := N_is_plain_word) (sc := defScope s_is_plain_word) (by decide +kernel)) (fun _ _ _ _ _ => (pg_name (i := 1) sc_is_plain_word.nd rfl (by first | exact Or.inl rfl | exact Or.inr rfl))) (fun _ _ _ _ _ => pts_nil) (fun _ _ _ _ _ => (pe_callC C_is_plain_sign (hr.mono (by decide)) (pa_cons (pv 1) pa_nil)))) pa_nil)))))), ?_⟩
    have es : start N_is_plain_word [V.str x] = [some (.str x), none] := rfl
    rw [es]
    simp only [ap_tVar, ap_tC, ap_t2I, ap_tAdd, ap_tSub, ap_tMul, ap_tCmp, ap_tIsN, ap_tNotN, ap_tB, ap_tAnd, ap_tOr, ap_tNot, ap_tAndV, ap_tOrV, ap_tNotV, ap_tIf, ap_tNext, ap_tSeq, ap_tBreak, ap_tCont, ap_tDrop, ap_tRet, ap_tRetN, ap_tIfS, ap_tNever, ap_gName, ap_gNil, ap_gCons, ap_gTup, ap_gSub, ap_tAsg, ap_tPar, ap_tAug, ap_tAugS, ap_ipI, ap_iList, ap_iTup, ap_iRng1, ap_iRng2, ap_tOp, ap_tUn, ap_rI, ap_rI0, ap_rU, ap_rEq, ap_rNe, ap_tTest, ap_tChain, ap_tFld, ap_tCon, ap_sFld, ap_sFldAug, ap_rAdd, ap_rSub, ap_tNil, ap_tCons, ap_tTup, ap_tLst, ap_tCall, ap_tMeth, ap_tMake, ap_tCallK, ap_tCB, ap_tNoPart, ap_tPart, ap_tSl, ap_rSlT, ap_rLtT, ap_rCatT, ap_rIxL, ap_rIxT, ap_rIxS, ap_rIx, ap_rSetL, ap_rSlL, ap_rIn, ap_tBM0, ap_tBM, ap_rAppend, ap_rExtend, ap_rPop, ap_rPopAt, ap_rReverse, ap_rClear, ap_rCat, ap_rRep, ap_rSum, ap_rMax, ap_rMin, ap_rSorted, ap_rSortedS, ap_rSort, ap_rIndex, ap_rAny, ap_rAll, ap_tYes, ap_tDGet, ap_tDIn, ap_tDNotIn, ap_sDPut, ap_sDAug, ap_sDDel, ap_tDNewK, ap_tDNewT, ap_tDisp, ap_tDGet1, ap_tDGet2, ap_tDPop1, ap_tDPop2, ap_tLock, ap_tLockE, ap_iRng3, ap_iRev, ap_iStr, ap_iKeys, ap_iVals, ap_iItems, ap_iKeysM, ap_iEnum, ap_iZip, ap_rNewStrs, ap_tM0, ap_tM1, ap_rSlS, ap_gUnl, ap_rIsB,  ap_tFor, ap_tLc, if_true, if_false, Bool.false_eq_true, Bool.true_eq_false, Bool.not_true, Bool.not_false, not_true_eq_false, not_false_eq_true, cx_K, nox_K, blk_K, List.getElem?_cons_succ, List.getElem?_cons_zero, Option.some.injEq, exists_eq_left', exists_eq_left, exists_eq, exists_eq', V.int.injEq, V.bl.injEq, V.str.injEq, V.ref.injEq, V.ty.injEq, List.cons.injEq, and_true, true_and, exists_and_left, List.set_cons_succ, List.set_cons_zero, List.append_nil, List.nil_append, and_assoc, decide_eq_true_eq, Bool.not_eq_true', decide_eq_false_iff_not, scal, List.length_cons, List.length_nil, Nat.zero_add, Nat.reduceAdd, ap_tCs, ap_tDcB, ap_tLam, ap_tSortK, ap_tDNotIn, ap_tDIn, ap_sDPut, ap_tSetDefF, ap_rLenOf, ap_rTupOf, ap_rNeE, ap_rMaxD, ap_tSortedK, ap_rSortedD, ap_tLockV, ap_rMulS, ap_iEnumS, ap_rRange, ap_rListR, ap_rListD, ap_rDictOf, ap_rNeDs, ap_rEqDs, ap_rListOf, ap_rIsO, ap_rSortedSet, ap_rSortedSA, ap_rDClear, ap_rDUpd, ap_tSl3, ap_rSameL, ap_iItemsL]
    refine ⟨Nat.le_of_lt (small1000 hx), ite2 (fun h1 => ite2 (fun h2 D0 hD => ?_) (fun h2 => ?_)) (fun h1 => ?_)⟩
    · refine lc_signs (f := isPl) (fun c H Q h => ⟨.str ⟨#[c]⟩, rfl, c, rfl, h⟩) hD hx fun H' hH s => ⟨_, .of hH, ?_⟩
      rw [all_map]
      have e : plB x = x.cps.toList.all isPl := by unfold plB; simp [show 1 ≤ x.length by omega, show x.length ≤ 20 by omega]
      rw [← e]
      exact q _ s
    · have e : plB x = false := by unfold plB; simp [show ¬ x.length ≤ 20 by omega]
      rw [← e]; exact q _ (Same.refl _)
    · have e : plB x = false := by unfold plB; simp [show ¬ 1 ≤ x.length by omega]
      rw [← e]; exact q _ (Same.refl _)
abbrev s_check_ending : Stmt := top 15
abbrev N_check_ending : List Str := ["ending", "instead", "least"]
theorem sc_check_ending : FnScope N_check_ending ["ending", "instead", "least"] (defScope s_check_ending) := ⟨rfl, rfl, rfl, by decide +kernel, rfl, by decide +kernel, by decide +kernel⟩
def sp_chkE : Sp := fun vs H Q _ => ∃ e : En, vs = enV e ∧ GoodEn e ∧ ∀ H', Same H H' → Q .non H'
theorem sml_of {x : Str} {a b : Int} (h : Sm x) (h1 : a ≤ x.length) (h2 : (x.length : Int) ≤ b) : smlB x a b = true := by
  unfold smlB
  simp only [h1, h2, decide_true, Bool.true_and]
  exact List.all_eq_true.mpr h
theorem c_chkE (T : Txt mg) (D : Def K mg "check_ending" s_check_ending) (C_are_small_letters : Cal P w K mg base 2 "are_small_letters" ["text", "least", "most"] sp_sml) : Cal P w K mg base 3 "check_ending" ["ending", "instead", "least"] sp_chkE := by
  refine D.cal sc_check_ending (fun _ _ _ _ _ _ us hl => match us, hl with | [_, _, _], _ => rfl) (fun vs H Q E h => ?_) (fun f cdv A outer s H vs Q E hr h => ?_)
  · obtain ⟨e, rfl, _⟩ := h; rfl
  · obtain ⟨⟨x, y, n⟩, rfl, g, q⟩ := h
    obtain ⟨g1, g2, g3, g4, g5, g6, g7⟩ := g
    dsimp only at g1 g2 g3 g4 g5 g6 g7
    refine ⟨_, (pss_cons (ps_if (pt_not (pt_val (pe_callC C_are_small_letters (hr.mono (by decide)) (pa_cons (pv 0) (pa_cons pe_int (pa_cons pe_int pa_nil)))))) (pss_one ps_never) pss_nil)
        (pss_cons (ps_if (pt_not (pt_val (pe_callC C_are_small_letters (hr.mono (by decide)) (pa_cons (pv 1) (pa_cons pe_int (pa_cons (pe_callB call_len_str (by rfl) T.n_len (by decide +kernel) (pa_cons (pv 0) pa_nil)) pa_nil)))))) (pss_one ps_never) pss_nil)
        (pss_one (ps_if (pt_not (pt_chain op_le op_le pe_int (pv 2) pe_int)) (pss_one ps_never) pss_nil)))), ?_⟩
    have es : start N_check_ending (enV (x, y, n)) = [some (.str x), some (.str y), some (.int n)] := rfl
    rw [es]
    simp only [ap_tVar, ap_tC, ap_t2I, ap_tAdd, ap_tSub, ap_tMul, ap_tCmp, ap_tIsN, ap_tNotN, ap_tB, ap_tAnd, ap_tOr, ap_tNot, ap_tAndV, ap_tOrV, ap_tNotV, ap_tIf, ap_tNext, ap_tSeq, ap_tBreak, ap_tCont, ap_tDrop, ap_tRet, ap_tRetN, ap_tIfS, ap_tNever, ap_gName, ap_gNil, ap_gCons, ap_gTup, ap_gSub, ap_tAsg, ap_tPar, ap_tAug, ap_tAugS, ap_ipI, ap_iList, ap_iTup, ap_iRng1, ap_iRng2, ap_tOp, ap_tUn, ap_rI, ap_rI0, ap_rU, ap_rEq, ap_rNe, ap_tTest, ap_tChain, ap_tFld, ap_tCon, ap_sFld, ap_sFldAug, ap_rAdd, ap_rSub, ap_tNil, ap_tCons, ap_tTup, ap_tLst, ap_tCall, ap_tMeth, ap_tMake, ap_tCallK, ap_tCB, ap_tNoPart, ap_tPart, ap_tSl, ap_rSlT, ap_rLtT, ap_rCatT, ap_rIxL, ap_rIxT, ap_rIxS, ap_rIx, ap_rSetL, ap_rSlL, ap_rIn, ap_tBM0, ap_tBM, ap_rAppend, ap_rExtend, ap_rPop, ap_rPopAt, ap_rReverse, ap_rClear, ap_rCat, ap_rRep, ap_rSum, ap_rMax, ap_rMin, ap_rSorted, ap_rSortedS, ap_rSort, ap_rIndex, ap_rAny, ap_rAll, ap_tYes, ap_tDGet, ap_tDIn, ap_tDNotIn, ap_sDPut, ap_sDAug, ap_sDDel, ap_tDNewK, ap_tDNewT, ap_tDisp, ap_tDGet1, ap_tDGet2, ap_tDPop1, ap_tDPop2, ap_tLock, ap_tLockE, ap_iRng3, ap_iRev, ap_iStr, ap_iKeys, ap_iVals, ap_iItems, ap_iKeysM, ap_iEnum, ap_iZip, ap_rNewStrs, ap_tM0, ap_tM1, ap_rSlS, ap_gUnl, ap_rIsB,  ap_tFor, ap_tLc, if_true, if_false, Bool.false_eq_true, Bool.true_eq_false, Bool.not_true, Bool.not_false, not_true_eq_false, not_false_eq_true, cx_K, nox_K, blk_K, List.getElem?_cons_succ, List.getElem?_cons_zero, Option.some.injEq, exists_eq_left', exists_eq_left, exists_eq, exists_eq', V.int.injEq, V.bl.injEq, V.str.injEq, V.ref.injEq, V.ty.injEq, List.cons.injEq, and_true, true_and, exists_and_left, List.set_cons_succ, List.set_cons_zero, List.append_nil, List.nil_append, and_assoc, decide_eq_true_eq, Bool.not_eq_true', decide_eq_false_iff_not, scal, List.length_cons, List.length_nil, Nat.zero_add, Nat.reduceAdd, ap_tCs, ap_tDcB, ap_tLam, ap_tSortK, ap_tDNotIn, ap_tDIn, ap_sDPut, ap_tSetDefF, ap_rLenOf, ap_rTupOf, ap_rNeE, ap_rMaxD, ap_tSortedK, ap_rSortedD, ap_tLockV, ap_rMulS, ap_iEnumS, ap_rRange, ap_rListR, ap_rListD, ap_rDictOf, ap_rNeDs, ap_rEqDs, ap_rListOf, ap_rIsO, ap_rSortedSet, ap_rSortedSA, ap_rDClear, ap_rDUpd, ap_tSl3, ap_rSameL, ap_iItemsL, sp_sml]
    refine ⟨by omega, fun H1 s1 => ?_⟩
    rw [sml_of g1 (by omega) (by omega), if_neg (by decide)]
    refine ⟨Nat.le_of_lt (small1000 (by omega)), by omega, fun H2 s2 => ?_⟩
    rw [sml_of g4 (by omega) (by omega), if_neg (by decide), if_pos g6, if_neg (by omega)]
    exact q _ (s1.trans s2)
abbrev s_check_silent_word : Stmt := top 16
abbrev N_check_silent_word : List Str := ["word"]
theorem sc_check_silent_word : FnScope N_check_silent_word ["word"] (defScope s_check_silent_word) := ⟨rfl, rfl, rfl, by decide +kernel, rfl, by decide +kernel, by decide +kernel⟩
def sp_chkS : Sp := fun vs H Q _ => ∃ x : Str, vs = [.str x] ∧ Plain x ∧ ∀ H', Same H H' → Q .non H'
theorem pl_of {x : Str} (h : Plain x) : plB x = true := by
  unfold plB
  simp only [h.2.1, h.2.2, decide_true, Bool.true_and]
  exact List.all_eq_true.mpr h.1
theorem c_chkS (T : Txt mg) (D : Def K mg "check_silent_word" s_check_silent_word) (C_is_plain_word : Cal P w K mg base 3 "is_plain_word" ["text"] sp_pl) : Cal P w K mg base 4 "check_silent_word" ["word"] sp_chkS := by
  refine D.cal sc_check_silent_word (fun _ _ _ _ _ _ us hl => match us, hl with | [_], _ => rfl) (fun vs H Q E h => ?_) (fun f cdv A outer s H vs Q E hr h => ?_)
  · obtain ⟨e, rfl, _⟩ := h; rfl
  · obtain ⟨x, rfl, g, q⟩ := h
    refine ⟨_, (pss_one (ps_if (pt_not (pt_val (pe_callC C_is_plain_word (hr.mono (by decide)) (pa_cons (pv 0) pa_nil)))) (pss_one ps_never) pss_nil)), ?_⟩
    have es : start N_check_silent_word [V.str x] = [some (.str x)] := rfl
    rw [es]
    simp only [ap_tVar, ap_tC, ap_t2I, ap_tAdd, ap_tSub, ap_tMul, ap_tCmp, ap_tIsN, ap_tNotN, ap_tB, ap_tAnd, ap_tOr, ap_tNot, ap_tAndV, ap_tOrV, ap_tNotV, ap_tIf, ap_tNext, ap_tSeq, ap_tBreak, ap_tCont, ap_tDrop, ap_tRet, ap_tRetN, ap_tIfS, ap_tNever, ap_gName, ap_gNil, ap_gCons, ap_gTup, ap_gSub, ap_tAsg, ap_tPar, ap_tAug, ap_tAugS, ap_ipI, ap_iList, ap_iTup, ap_iRng1, ap_iRng2, ap_tOp, ap_tUn, ap_rI, ap_rI0, ap_rU, ap_rEq, ap_rNe, ap_tTest, ap_tChain, ap_tFld, ap_tCon, ap_sFld, ap_sFldAug, ap_rAdd, ap_rSub, ap_tNil, ap_tCons, ap_tTup, ap_tLst, ap_tCall, ap_tMeth, ap_tMake, ap_tCallK, ap_tCB, ap_tNoPart, ap_tPart, ap_tSl, ap_rSlT, ap_rLtT, ap_rCatT, ap_rIxL, ap_rIxT, ap_rIxS, ap_rIx, ap_rSetL, ap_rSlL, ap_rIn, ap_tBM0, ap_tBM, ap_rAppend, ap_rExtend, ap_rPop, ap_rPopAt, ap_rReverse, ap_rClear, ap_rCat, ap_rRep, ap_rSum, ap_rMax, ap_rMin, ap_rSorted, ap_rSortedS, ap_rSort, ap_rIndex, ap_rAny, ap_rAll, ap_tYes, ap_tDGet, ap_tDIn, ap_tDNotIn, ap_sDPut, ap_sDAug, ap_sDDel, ap_tDNewK, ap_tDNewT, ap_tDisp, ap_tDGet1, ap_tDGet2, ap_tDPop1, ap_tDPop2, ap_tLock, ap_tLockE, ap_iRng3, ap_iRev, ap_iStr, ap_iKeys, ap_iVals, ap_iItems, ap_iKeysM, ap_iEnum, ap_iZip, ap_rNewStrs, ap_tM0, ap_tM1, ap_rSlS, ap_gUnl, ap_rIsB,  ap_tFor, ap_tLc, if_true, if_false, Bool.false_eq_true, Bool.true_eq_false, Bool.not_true, Bool.not_false, not_true_eq_false, not_false_eq_true, cx_K, nox_K, blk_K, List.getElem?_cons_succ, List.getElem?_cons_zero, Option.some.injEq, exists_eq_left', exists_eq_left, exists_eq, exists_eq', V.int.injEq, V.bl.injEq, V.str.injEq, V.ref.injEq, V.ty.injEq, List.cons.injEq, and_true, true_and, exists_and_left, List.set_cons_succ, List.set_cons_zero, List.append_nil, List.nil_append, and_assoc, decide_eq_true_eq, Bool.not_eq_true', decide_eq_false_iff_not, scal, List.length_cons, List.length_nil, Nat.zero_add, Nat.reduceAdd, ap_tCs, ap_tDcB, ap_tLam, ap_tSortK, ap_tDNotIn, ap_tDIn, ap_sDPut, ap_tSetDefF, ap_rLenOf, ap_rTupOf, ap_rNeE, ap_rMaxD, ap_tSortedK, ap_rSortedD, ap_tLockV, ap_rMulS, ap_iEnumS, ap_rRange, ap_rListR, ap_rListD, ap_rDictOf, ap_rNeDs, ap_rEqDs, ap_rListOf, ap_rIsO, ap_rSortedSet, ap_rSortedSA, ap_rDClear, ap_rDUpd, ap_tSl3, ap_rSameL, ap_iItemsL, sp_pl]
    have hx : x.length ≤ 1000 := by have := g.2.2; omega
    refine ⟨hx, fun H' s => ?_⟩
    rw [pl_of g]
    exact q _ s
abbrev s_check_no_twice : Stmt := top 17
abbrev N_check_no_twice : List Str := ["texts"]
theorem sc_check_no_twice : FnScope N_check_no_twice ["texts"] (defScope s_check_no_twice) := ⟨rfl, rfl, rfl, by decide +kernel, rfl, by decide +kernel, by decide +kernel⟩
def sp_chkT (K : PySem.W.Frag) : Sp := fun vs H Q _ => ∃ (a : Addr) (zs : List Str), vs = [.ref a] ∧ SqL K H a (zs.map V.str) ∧ zs.Nodup ∧ zs.length ≤ 100 ∧ ∀ H', Same H H' → Q .non H'
theorem c_chkT (T : Txt mg) (D : Def K mg "check_no_twice" s_check_no_twice) : Cal P w K mg base 1 "check_no_twice" ["texts"] (sp_chkT K) := by
  refine D.cal sc_check_no_twice (fun _ _ _ _ _ _ us hl => match us, hl with | [_], _ => rfl) (fun vs H Q E h => ?_) (fun f cdv A outer s H vs Q E hr h => ?_)
  · obtain ⟨a, zs, rfl, _⟩ := h; rfl
  · obtain ⟨a, zs, rfl, ha, hn, hz, q⟩ := h
    refine ⟨_, (pss_one (ps_if (pt_cmpR op_ne (pe_callB call_lenSet (by rfl) T.n_len (by decide +kernel) (pa_cons (pe_callTy (call_setL rfl) (by rfl) T.n_set (by decide +kernel) (pa_cons (pv 0) pa_nil)) pa_nil)) (pe_callB call_len_seq (by rfl) T.n_len (by decide +kernel) (pa_cons (pv 0) pa_nil)) (nomark _)) (pss_one ps_never) pss_nil)), ?_⟩
    have es : start N_check_no_twice [V.ref a] = [some (.ref a)] := rfl
    rw [es]
    simp only [ap_tVar, ap_tC, ap_t2I, ap_tAdd, ap_tSub, ap_tMul, ap_tCmp, ap_tIsN, ap_tNotN, ap_tB, ap_tAnd, ap_tOr, ap_tNot, ap_tAndV, ap_tOrV, ap_tNotV, ap_tIf, ap_tNext, ap_tSeq, ap_tBreak, ap_tCont, ap_tDrop, ap_tRet, ap_tRetN, ap_tIfS, ap_tNever, ap_gName, ap_gNil, ap_gCons, ap_gTup, ap_gSub, ap_tAsg, ap_tPar, ap_tAug, ap_tAugS, ap_ipI, ap_iList, ap_iTup, ap_iRng1, ap_iRng2, ap_tOp, ap_tUn, ap_rI, ap_rI0, ap_rU, ap_rEq, ap_rNe, ap_tTest, ap_tChain, ap_tFld, ap_tCon, ap_sFld, ap_sFldAug, ap_rAdd, ap_rSub, ap_tNil, ap_tCons, ap_tTup, ap_tLst, ap_tCall, ap_tMeth, ap_tMake, ap_tCallK, ap_tCB, ap_tNoPart, ap_tPart, ap_tSl, ap_rSlT, ap_rLtT, ap_rCatT, ap_rIxL, ap_rIxT, ap_rIxS, ap_rIx, ap_rSetL, ap_rSlL, ap_rIn, ap_tBM0, ap_tBM, ap_rAppend, ap_rExtend, ap_rPop, ap_rPopAt, ap_rReverse, ap_rClear, ap_rCat, ap_rRep, ap_rSum, ap_rMax, ap_rMin, ap_rSorted, ap_rSortedS, ap_rSort, ap_rIndex, ap_rAny, ap_rAll, ap_tYes, ap_tDGet, ap_tDIn, ap_tDNotIn, ap_sDPut, ap_sDAug, ap_sDDel, ap_tDNewK, ap_tDNewT, ap_tDisp, ap_tDGet1, ap_tDGet2, ap_tDPop1, ap_tDPop2, ap_tLock, ap_tLockE, ap_iRng3, ap_iRev, ap_iStr, ap_iKeys, ap_iVals, ap_iItems, ap_iKeysM, ap_iEnum, ap_iZip, ap_rNewStrs, ap_tM0, ap_tM1, ap_rSlS, ap_gUnl, ap_rIsB,  ap_tFor, ap_tLc, if_true, if_false, Bool.false_eq_true, Bool.true_eq_false, Bool.not_true, Bool.not_false, not_true_eq_false, not_false_eq_true, cx_K, nox_K, blk_K, List.getElem?_cons_succ, List.getElem?_cons_zero, Option.some.injEq, exists_eq_left', exists_eq_left, exists_eq, exists_eq', V.int.injEq, V.bl.injEq, V.str.injEq, V.ref.injEq, V.ty.injEq, List.cons.injEq, and_true, true_and, exists_and_left, List.set_cons_succ, List.set_cons_zero, List.append_nil, List.nil_append, and_assoc, decide_eq_true_eq, Bool.not_eq_true', decide_eq_false_iff_not, scal, List.length_cons, List.length_nil, Nat.zero_add, Nat.reduceAdd, ap_tCs, ap_tDcB, ap_tLam, ap_tSortK, ap_tDNotIn, ap_tDIn, ap_sDPut, ap_tSetDefF, ap_rLenOf, ap_rTupOf, ap_rNeE, ap_rMaxD, ap_tSortedK, ap_rSortedD, ap_tLockV, ap_rMulS, ap_iEnumS, ap_rRange, ap_rListR, ap_rListD, ap_rDictOf, ap_rNeDs, ap_rEqDs, ap_rListOf, ap_rIsO, ap_rSortedSet, ap_rSortedSA, ap_rDClear, ap_rDUpd, ap_tSl3, ap_rSameL, ap_iItemsL]
    refine ⟨a, zs, rfl, ha, by omega, fun p hp => ⟨p, zs, rfl, upd_same, by omega, zs.map V.str, .inl ((Same.new hp).sqL ha), rfl, ?_⟩⟩
    rw [dedS_id hn, List.length_map, if_neg (by simp)]
    exact q _ (Same.new hp)
end
end My
set_option maxHeartbeats 4000000

namespace My
open PySem L2
section
variable {P : Program} {w : World} {K : PySem.W.Frag} {mg : Str → Option Value} {base : Heap}
theorem none_of {H H' : Hp} {b : Addr} (s : Same H H') (h : H' b = none) : H b = none := s.free h
abbrev s_Rulebook_init : Stmt := inClass (top 18) 0
abbrev N_Rulebook_init : List Str := ["self", "endings", "silent", "ending", "instead", "least", "word", "row"]
theorem sc_Rulebook_init : FnScope N_Rulebook_init ["self", "endings", "silent"] (defScope s_Rulebook_init) := ⟨rfl, rfl, rfl, by decide +kernel, rfl, by decide +kernel, by decide +kernel⟩
abbrev lamQ : Str := ("Rulebook.__init__" : Str) ++ ".<locals>." ++ "<lambda>"
abbrev lamPos : Pos := ⟨69, 49, 69, 73⟩
def silK (zs : List Str) : List (Key × V) := zs.map fun z => (.inr z, .bl true)
/-- a rulebook: its object x, its list D, its dict d -/
structure RbAt (C : Addr) (H : Hp) (x D d : Addr) (es : List En) (zs : List Str) : Prop where
  at_ : ∃ dx, H x = some (.ins C dx [("longest_first", .ref D), ("silent_words", .ref d)])
  lst : ∃ (ps : List Addr) (es' : List En), H D = some (.lst (ps.map V.ref)) ∧ EnAt H ps es' ∧ es'.Perm es ∧ es'.Pairwise (fun a b => b.1.length ≤ a.1.length)
  dct : H d = some (.dK (silK zs))
  good : ∀ e ∈ es, GoodEn e
  nd : (es.map (·.1)).Nodup
  few : es.length ≤ 12
  pl : ∀ z ∈ zs, Plain z
  few2 : zs.length ≤ 40
theorem RbAt.same {C : Addr} {H H' : Hp} {x D d : Addr} {es : List En} {zs : List Str} (R : RbAt C H x D d es zs) (s : Same H H') : RbAt C H' x D d es zs := by
  obtain ⟨dx, h1⟩ := R.at_
  obtain ⟨ps, es', h2, h3, h4⟩ := R.lst
  exact ⟨⟨dx, s _ _ h1⟩, ⟨ps, es', s _ _ h2, h3.same s, h4⟩, s _ _ R.dct, R.good, R.nd, R.few, R.pl, R.few2⟩
theorem RbAt.off {C : Addr} {H : Hp} {x D d a : Addr} {es : List En} {zs : List Str} {o u : HO} (R : RbAt C H x D d es zs) (ha : H a = some u) (n1 : a ≠ x) (n2 : a ≠ D) (n3 : a ≠ d) (hu : ∀ xs, u ≠ .tup xs) : RbAt C (upd H a o) x D d es zs := by
  obtain ⟨dx, h1⟩ := R.at_
  obtain ⟨ps, es', h2, h3, h4⟩ := R.lst
  exact ⟨⟨dx, by rw [upd_ne (Ne.symm n1)]; exact h1⟩, ⟨ps, es', by rw [upd_ne (Ne.symm n2)]; exact h2, h3.off ha hu, h4⟩, by rw [upd_ne (Ne.symm n3)]; exact R.dct, R.good, R.nd, R.few, R.pl, R.few2⟩
def sp_rb (K : PySem.W.Frag) (C Pt : Addr) : Sp := fun vs H Q _ => ∃ (x l m dx : Addr) (ps : List Addr) (es : List En) (zs : List Str), vs = [.ref x, .ref l, .ref m] ∧ H x = some (.ins C dx []) ∧ SqL K H l (ps.map V.ref) ∧ EnAt H ps es ∧ (∀ e ∈ es, GoodEn e) ∧ (es.map (·.1)).Nodup ∧ es.length ≤ 12 ∧
  SqL K H m (zs.map V.str) ∧ (∀ z ∈ zs, Plain z) ∧ zs.Nodup ∧ zs.length ≤ 40 ∧ TabOk Pt lamPos lamQ H ∧ ∀ D d H', H D = none → H d = none → RbAt C H' x D d es zs → (∀ a o, H a = some o → a ≠ Pt → a ≠ x → H' a = some o) → TabOk Pt lamPos lamQ H' → Q .non H'
def R1 (H : Hp) (x l m : Addr) (i : Nat) (σ : St) (H' : Hp) : Prop := ∃ (v3 v4 v5 : Option V), σ = [some (.ref x), some (.ref l), some (.ref m), v3, v4, v5, none, none] ∧ Same H H'
def R2' (H : Hp) (x l m : Addr) (i : Nat) (σ : St) (H' : Hp) : Prop := ∃ (v3 v4 v5 v6 : Option V), σ = [some (.ref x), some (.ref l), some (.ref m), v3, v4, v5, v6, none] ∧ Same H H'
theorem EnAt.nth {H : Hp} {ps : List Addr} {es : List En} {i : Nat} {v : V} (h : EnAt H ps es) (hv : (ps.map V.ref)[i]? = some v) : ∃ p e, ps[i]? = some p ∧ es[i]? = some e ∧ v = .ref p ∧ H p = some (.tup (enV e)) := by
  rw [List.getElem?_map] at hv
  cases e : ps[i]? with
  | none => rw [e] at hv; cases hv
  | some p =>
    rw [e] at hv
    have hi : i < es.length := by rw [← h.1]; exact (List.getElem?_eq_some_iff.mp e).1
    exact ⟨p, es[i], rfl, List.getElem?_eq_getElem hi, (Option.some.inj hv).symm, h.2 i p _ e (List.getElem?_eq_getElem hi)⟩
theorem strs_nth {zs : List Str} {i : Nat} {v : V} (hv : (zs.map V.str)[i]? = some v) : ∃ z, zs[i]? = some z ∧ v = .str z := by
  rw [List.getElem?_map] at hv
  cases e : zs[i]? with
  | none => rw [e] at hv; cases hv
  | some p => rw [e] at hv; exact ⟨p, rfl, (Option.some.inj hv).symm⟩
/-- all but the table stays -/
def SameX (P : Addr) (H H' : Hp) : Prop := ∀ a o, H a = some o → a ≠ P → H' a = some o
theorem SameX.sqL {P : Addr} {H H' : Hp} {ps : Array Value} {a : Addr} {xs : List V} (k : SameX P H H') (hP : H P = some (.tbl ps)) (h : SqL K H a xs) : SqL K H' a xs := by
  rcases h with (h | ⟨o, h⟩) | h
  · exact .inl (.inl (k _ _ h fun z => by rw [z, hP] at h; cases h))
  · exact .inl (.inr ⟨o, k _ _ h fun z => by rw [z, hP] at h; cases h⟩)
  · exact .inr h
theorem SameX.enAt {P : Addr} {H H' : Hp} {tb : Array Value} {ps : List Addr} {es : List En} (k : SameX P H H') (hP : H P = some (.tbl tb)) (h : EnAt H ps es) : EnAt H' ps es := ⟨h.1, fun i p e h1 h2 => by
  have h3 := h.2 i p e h1 h2
  exact k _ _ h3 fun z => by rw [z, hP] at h3; cases h3⟩
theorem tab_same {P : Addr} {pos : Pos} {q : Str} {H H' : Hp} (h : TabOk P pos q H) (s : Same H H') : TabOk P pos q H' := by
  obtain ⟨ps, h1, h2, h3⟩ := h
  refine ⟨ps, s _ _ h1, h2, ?_⟩
  rcases h3 with h3 | ⟨c, h3, h4⟩
  · exact .inl h3
  · exact .inr ⟨c, h3, s _ _ h4⟩
theorem paired_map {α β : Type} (f : α → β) : ∀ l : List α, Paired (fun a b => b = f a) l (l.map f)
  | [] => .nil
  | _ :: l => .cons rfl (paired_map f l)
theorem of_paired_map {α β : Type} {f : α → β} : ∀ {l : List α} {m : List β}, Paired (fun a b => b = f a) l m → m = l.map f
  | _, _, .nil => rfl
  | _, _, .cons r t => by rw [r, of_paired_map t]; rfl
def negL (e : En) : Int := -(e.1.length : Int)
theorem zip_en {ps : List Addr} {es : List En} (h : ps.length = es.length) : (es.map negL).zip (ps.map V.ref) = (es.zip ps).map fun q => (negL q.1, V.ref q.2) := by
  rw [List.zip_map]; rfl
theorem sortedEn {H : Hp} {ps : List Addr} {es : List En} {ys : List V} (hE : EnAt H ps es) (h : SortedBy (es.map negL) (ps.map V.ref) ys) : ∃ (ps' : List Addr) (es' : List En), ys = ps'.map V.ref ∧ EnAt H ps' es' ∧ es'.Perm es ∧ es'.Pairwise (fun a b => b.1.length ≤ a.1.length) := by
  obtain ⟨qs, hp, rfl, hs⟩ := h
  rw [zip_en hE.1] at hp
  obtain ⟨m, hm, hr⟩ := perm_paired hp (paired_map _ _)
  have e := of_paired_map hr
  subst e
  have at_ : ∀ q ∈ es.zip ps, H q.2 = some (.tup (enV q.1)) := fun q hq => by
    obtain ⟨i, hi⟩ := List.mem_iff_getElem?.mp hq
    rw [List.getElem?_zip_eq_some] at hi
    exact hE.2 i _ _ hi.2 hi.1
  refine ⟨m.map (·.2), m.map (·.1), ?_, ⟨by simp, fun i p e h1 h2 => ?_⟩, ?_, ?_⟩
  · rw [List.map_map, List.map_map]; rfl
  · rw [List.getElem?_map] at h1 h2
    cases hq : m[i]? with
    | none => rw [hq] at h1; cases h1
    | some q =>
      rw [hq] at h1 h2
      cases h1; cases h2
      exact at_ q (hm.subset (List.mem_of_getElem? hq))
  · have := hm.map (·.1)
    rwa [List.map_fst_zip (by rw [hE.1]; exact Nat.le_refl _)] at this
  · rw [List.map_map] at hs
    rw [List.pairwise_map] at hs ⊢
    exact hs.imp fun {a b} h => by
      have h : negL a.1 ≤ negL b.1 := h
      unfold negL at h
      omega
theorem sil_put {zs : List Str} {x : Str} (h : x ∉ zs) : putK (silK zs) (.inr x) (.bl true) = silK (zs ++ [x]) := by
  unfold putK
  rw [if_neg]
  · simp [silK]
  · intro z
    obtain ⟨kv, hm, e⟩ := List.any_eq_true.mp z
    obtain ⟨e', he', rfl⟩ := List.mem_map.mp hm
    have : (Sum.inr e' : Key) = .inr x := of_decide_eq_true e
    injection this with this
    exact h (this ▸ he')
theorem sqL_off {H : Hp} {x a C dx : Addr} {fs : List (Str × V)} {xs : List V} {o : HO} (h : SqL K H a xs) (hx : H x = some (.ins C dx fs)) : SqL K (upd H x o) a xs := by
  rcases h with (h | ⟨o', h⟩) | h
  · exact .inl (.inl (by rw [upd_ne (ne_of h hx (by intro z; cases z))]; exact h))
  · exact .inl (.inr ⟨o', by rw [upd_ne (ne_of h hx (by intro z; cases z))]; exact h⟩)
  · exact .inr h
theorem tab_off {P x C dx : Addr} {fs : List (Str × V)} {pos : Pos} {q : Str} {H : Hp} {o : HO} (h : TabOk P pos q H) (hx : H x = some (.ins C dx fs)) : TabOk P pos q (upd H x o) := by
  obtain ⟨ps, h1, h2, h3⟩ := h
  refine ⟨ps, by rw [upd_ne (ne_of h1 hx (by intro z; cases z))]; exact h1, h2, ?_⟩
  rcases h3 with h3 | ⟨c, h3, h4⟩
  · exact .inl h3
  · exact .inr ⟨c, h3, by rw [upd_ne (ne_of h4 hx (by intro z; cases z))]; exact h4⟩
theorem c_rb (T : Txt mg) {C Pt f c : Addr} (F : FunV K "__init__" "Rulebook.__init__" s_Rulebook_init f (.ref c)) (M : Mk K C f) (hm : mg "Rulebook" = some (.ref C)) (cls : Cls K C) (na1 : NoAttr K C "longest_first") (na2 : NoAttr K C "silent_words") (hCd : PySem.W.CodeHd base c Pt) (hBm : Bm mg base)
    (C_check_ending : Cal P w K mg base 3 "check_ending" ["ending", "instead", "least"] sp_chkE) (C_check_silent_word : Cal P w K mg base 4 "check_silent_word" ["word"] sp_chkS) (C_check_no_twice : Cal P w K mg base 1 "check_no_twice" ["texts"] (sp_chkT K)) :
    MCal P w K mg base 5 "Rulebook" C ["self", "endings", "silent"] (sp_rb K C Pt) := by
  refine F.init M hm sc_Rulebook_init (fun vs H Q E h => ?_) (fun _ _ _ _ _ _ us hl => match us, hl with | [_, _, _], _ => rfl) (fun A outer s H vs Q E hr h => ?_)
  · obtain ⟨x, l, m, dx, ps, es, zs, rfl, _⟩ := h; rfl
  · obtain ⟨x, l, m, dx, ps, es, zs, rfl, hx, hl, hE, hG, hN, hlen, hm', hP, hzn, hzl, hT, q⟩ := h
    refine ⟨_, (pss_cons (ps_for PassesOwn.never rfl (pi_list (pv 1)) (pg_tup (n := 3) rfl (pgs_cons (pg_name (i := 3) sc_Rulebook_init.nd rfl (by first | exact Or.inl rfl | exact Or.inr rfl)) (pgs_cons (pg_name (i := 4) sc_Rulebook_init.nd rfl (by first | exact Or.inl rfl | exact Or.inr rfl)) (pgs_cons (pg_name (i := 5) sc_Rulebook_init.nd rfl (by first | exact Or.inl rfl | exact Or.inr rfl)) pgs_nil)))) (pss_one (ps_expr (pe_callC C_check_ending (hr.mono (by decide)) (pa_cons (pv 3) (pa_cons (pv 4) (pa_cons (pv 5) pa_nil)))))))
        (pss_cons (ps_for PassesOwn.never rfl (pi_list (pv 2)) (pg_name (i := 6) sc_Rulebook_init.nd rfl (by first | exact Or.inl rfl | exact Or.inr rfl)) (pss_one (ps_expr (pe_callC C_check_silent_word (hr.mono (by decide)) (pa_cons (pv 6) pa_nil)))))
        (pss_cons (ps_expr (pe_callC C_check_no_twice (hr.mono (by decide)) (pa_cons (pe_lc (own := [("row", 7)]) (g := (gName 7)) (by rfl) sc_Rulebook_init.nd (pi_list (pv 1)) (blkOk_by (own := [("row", 7)]) (N := N_Rulebook_init) (sc := defScope s_Rulebook_init) (by decide +kernel)) (fun _ _ _ _ _ => (pg_name (i := 7) sc_Rulebook_init.nd rfl (by first | exact Or.inl rfl | exact Or.inr rfl))) (fun _ _ _ _ _ => pts_nil) (fun _ _ _ _ _ => (pe_ix (r := rIxT K) ix_tup (pv 7) pe_int (fun _ _ => rfl)))) pa_nil)))
        (pss_cons (ps_expr (pe_callC C_check_no_twice (hr.mono (by decide)) (pa_cons (pv 2) pa_nil)))
        (pss_cons (ps_fld (pv 0) (pe_sortNeg hr rfl (by rfl) T.n_sorted T.n_len (pv 1) rfl hCd hBm rfl rfl rfl (fun _ _ _ _ => rfl) rfl rfl (by decide +kernel) rfl rfl rfl) rfl)
        (pss_one (ps_fld (pv 0) (pe_dc (own := [("word", 6)]) (g := (gName 6)) (by rfl) sc_Rulebook_init.nd (pi_list (pv 2)) (blkOk_by (own := [("word", 6)]) (N := N_Rulebook_init) (sc := defScope s_Rulebook_init) (by decide +kernel)) (fun _ _ _ _ _ => (pg_name (i := 6) sc_Rulebook_init.nd rfl (by first | exact Or.inl rfl | exact Or.inr rfl))) (fun _ _ _ _ _ => pts_nil) (fun _ _ _ _ _ => (pv 6)) (fun _ _ _ _ _ => pe_bl)) rfl))))))), ?_⟩
    have es0 : start N_Rulebook_init [V.ref x, V.ref l, V.ref m] = [some (.ref x), some (.ref l), some (.ref m), none, none, none, none, none] := rfl
    rw [es0, ap_tSeq]
    simp only [ap_tVar, ap_tC, ap_t2I, ap_tAdd, ap_tSub, ap_tMul, ap_tCmp, ap_tIsN, ap_tNotN, ap_tB, ap_tAnd, ap_tOr, ap_tNot, ap_tAndV, ap_tOrV, ap_tNotV, ap_tIf, ap_tNext, ap_tBreak, ap_tCont, ap_tDrop, ap_tRet, ap_tRetN, ap_tIfS, ap_tNever, ap_gName, ap_gNil, ap_gCons, ap_gTup, ap_gSub, ap_tAsg, ap_tPar, ap_tAug, ap_tAugS, ap_ipI, ap_iList, ap_iTup, ap_iRng1, ap_iRng2, ap_tOp, ap_tUn, ap_rI, ap_rI0, ap_rU, ap_rEq, ap_rNe, ap_tTest, ap_tChain, ap_tFld, ap_tCon, ap_sFld, ap_sFldAug, ap_rAdd, ap_rSub, ap_tNil, ap_tCons, ap_tTup, ap_tLst, ap_tCall, ap_tMeth, ap_tMake, ap_tCallK, ap_tCB, ap_tNoPart, ap_tPart, ap_tSl, ap_rSlT, ap_rLtT, ap_rCatT, ap_rIxL, ap_rIxT, ap_rIxS, ap_rIx, ap_rSetL, ap_rSlL, ap_rIn, ap_tBM0, ap_tBM, ap_rAppend, ap_rExtend, ap_rPop, ap_rPopAt, ap_rReverse, ap_rClear, ap_rCat, ap_rRep, ap_rSum, ap_rMax, ap_rMin, ap_rSorted, ap_rSortedS, ap_rSort, ap_rIndex, ap_rAny, ap_rAll, ap_tYes, ap_tDGet, ap_tDIn, ap_tDNotIn, ap_sDPut, ap_sDAug, ap_sDDel, ap_tDNewK, ap_tDNewT, ap_tDisp, ap_tDGet1, ap_tDGet2, ap_tDPop1, ap_tDPop2, ap_tLock, ap_tLockE, ap_iRng3, ap_iRev, ap_iStr, ap_iKeys, ap_iVals, ap_iItems, ap_iKeysM, ap_iEnum, ap_iZip, ap_rNewStrs, ap_tM0, ap_tM1, ap_rSlS, ap_gUnl, ap_rIsB,  ap_tFor, ap_tLc, if_true, if_false, Bool.false_eq_true, Bool.true_eq_false, Bool.not_true, Bool.not_false, not_true_eq_false, not_false_eq_true, cx_K, nox_K, blk_K, List.getElem?_cons_succ, List.getElem?_cons_zero, Option.some.injEq, exists_eq_left', exists_eq_left, exists_eq, exists_eq', V.int.injEq, V.bl.injEq, V.str.injEq, V.ref.injEq, V.ty.injEq, List.cons.injEq, and_true, true_and, exists_and_left, List.set_cons_succ, List.set_cons_zero, List.append_nil, List.nil_append, and_assoc, decide_eq_true_eq, Bool.not_eq_true', decide_eq_false_iff_not, scal, List.length_cons, List.length_nil, Nat.zero_add, Nat.reduceAdd, ap_tCs, ap_tDcB, ap_tLam, ap_tSortK, ap_tDNotIn, ap_tDIn, ap_sDPut, ap_tSetDefF, ap_rLenOf, ap_rTupOf, ap_rNeE, ap_rMaxD, ap_tSortedK, ap_rSortedD, ap_tLockV, ap_rMulS, ap_iEnumS, ap_rRange, ap_rListR, ap_rListD, ap_rDictOf, ap_rNeDs, ap_rEqDs, ap_rListOf, ap_rIsO, ap_rSortedSet, ap_rSortedSA, ap_rDClear, ap_rDUpd, ap_tSl3, ap_rSameL, ap_iItemsL]
    refine ⟨⟨_, hl⟩, ?_⟩
    refine forB_list (xs := ps.map V.ref) (R1 H x l m) ⟨none, none, none, rfl, Same.refl _⟩ (fun _ _ _ _ ⟨_, _, _, _, s1⟩ => s1.sqL hl) ?_ ?_
    · rintro i v σ H1 hv ⟨v3, v4, v5, rfl, s1⟩
      obtain ⟨p, e, h1, h2, rfl, h3⟩ := hE.nth hv
      simp only [ap_tVar, ap_tC, ap_t2I, ap_tAdd, ap_tSub, ap_tMul, ap_tCmp, ap_tIsN, ap_tNotN, ap_tB, ap_tAnd, ap_tOr, ap_tNot, ap_tAndV, ap_tOrV, ap_tNotV, ap_tIf, ap_tNext, ap_tBreak, ap_tCont, ap_tDrop, ap_tRet, ap_tRetN, ap_tIfS, ap_tNever, ap_gName, ap_gNil, ap_gCons, ap_gTup, ap_gSub, ap_tAsg, ap_tPar, ap_tAug, ap_tAugS, ap_ipI, ap_iList, ap_iTup, ap_iRng1, ap_iRng2, ap_tOp, ap_tUn, ap_rI, ap_rI0, ap_rU, ap_rEq, ap_rNe, ap_tTest, ap_tChain, ap_tFld, ap_tCon, ap_sFld, ap_sFldAug, ap_rAdd, ap_rSub, ap_tNil, ap_tCons, ap_tTup, ap_tLst, ap_tCall, ap_tMeth, ap_tMake, ap_tCallK, ap_tCB, ap_tNoPart, ap_tPart, ap_tSl, ap_rSlT, ap_rLtT, ap_rCatT, ap_rIxL, ap_rIxT, ap_rIxS, ap_rIx, ap_rSetL, ap_rSlL, ap_rIn, ap_tBM0, ap_tBM, ap_rAppend, ap_rExtend, ap_rPop, ap_rPopAt, ap_rReverse, ap_rClear, ap_rCat, ap_rRep, ap_rSum, ap_rMax, ap_rMin, ap_rSorted, ap_rSortedS, ap_rSort, ap_rIndex, ap_rAny, ap_rAll, ap_tYes, ap_tDGet, ap_tDIn, ap_tDNotIn, ap_sDPut, ap_sDAug, ap_sDDel, ap_tDNewK, ap_tDNewT, ap_tDisp, ap_tDGet1, ap_tDGet2, ap_tDPop1, ap_tDPop2, ap_tLock, ap_tLockE, ap_iRng3, ap_iRev, ap_iStr, ap_iKeys, ap_iVals, ap_iItems, ap_iKeysM, ap_iEnum, ap_iZip, ap_rNewStrs, ap_tM0, ap_tM1, ap_rSlS, ap_gUnl, ap_rIsB,  ap_tFor, ap_tLc, if_true, if_false, Bool.false_eq_true, Bool.true_eq_false, Bool.not_true, Bool.not_false, not_true_eq_false, not_false_eq_true, cx_K, nox_K, blk_K, List.getElem?_cons_succ, List.getElem?_cons_zero, Option.some.injEq, exists_eq_left', exists_eq_left, exists_eq, exists_eq', V.int.injEq, V.bl.injEq, V.str.injEq, V.ref.injEq, V.ty.injEq, List.cons.injEq, and_true, true_and, exists_and_left, List.set_cons_succ, List.set_cons_zero, List.append_nil, List.nil_append, and_assoc, decide_eq_true_eq, Bool.not_eq_true', decide_eq_false_iff_not, scal, List.length_cons, List.length_nil, Nat.zero_add, Nat.reduceAdd, ap_tCs, ap_tDcB, ap_tLam, ap_tSortK, ap_tDNotIn, ap_tDIn, ap_sDPut, ap_tSetDefF, ap_rLenOf, ap_rTupOf, ap_rNeE, ap_rMaxD, ap_tSortedK, ap_rSortedD, ap_tLockV, ap_rMulS, ap_iEnumS, ap_rRange, ap_rListR, ap_rListD, ap_rDictOf, ap_rNeDs, ap_rEqDs, ap_rListOf, ap_rIsO, ap_rSortedSet, ap_rSortedSA, ap_rDClear, ap_rDUpd, ap_tSl3, ap_rSameL, ap_iItemsL, sp_chkE]
      refine ⟨_, .of (s1 _ _ h3), rfl, ?_⟩
      simp only [enV, ap_tVar, ap_tC, ap_t2I, ap_tAdd, ap_tSub, ap_tMul, ap_tCmp, ap_tIsN, ap_tNotN, ap_tB, ap_tAnd, ap_tOr, ap_tNot, ap_tAndV, ap_tOrV, ap_tNotV, ap_tIf, ap_tNext, ap_tBreak, ap_tCont, ap_tDrop, ap_tRet, ap_tRetN, ap_tIfS, ap_tNever, ap_gName, ap_gNil, ap_gCons, ap_gTup, ap_gSub, ap_tAsg, ap_tPar, ap_tAug, ap_tAugS, ap_ipI, ap_iList, ap_iTup, ap_iRng1, ap_iRng2, ap_tOp, ap_tUn, ap_rI, ap_rI0, ap_rU, ap_rEq, ap_rNe, ap_tTest, ap_tChain, ap_tFld, ap_tCon, ap_sFld, ap_sFldAug, ap_rAdd, ap_rSub, ap_tNil, ap_tCons, ap_tTup, ap_tLst, ap_tCall, ap_tMeth, ap_tMake, ap_tCallK, ap_tCB, ap_tNoPart, ap_tPart, ap_tSl, ap_rSlT, ap_rLtT, ap_rCatT, ap_rIxL, ap_rIxT, ap_rIxS, ap_rIx, ap_rSetL, ap_rSlL, ap_rIn, ap_tBM0, ap_tBM, ap_rAppend, ap_rExtend, ap_rPop, ap_rPopAt, ap_rReverse, ap_rClear, ap_rCat, ap_rRep, ap_rSum, ap_rMax, ap_rMin, ap_rSorted, ap_rSortedS, ap_rSort, ap_rIndex, ap_rAny, ap_rAll, ap_tYes, ap_tDGet, ap_tDIn, ap_tDNotIn, ap_sDPut, ap_sDAug, ap_sDDel, ap_tDNewK, ap_tDNewT, ap_tDisp, ap_tDGet1, ap_tDGet2, ap_tDPop1, ap_tDPop2, ap_tLock, ap_tLockE, ap_iRng3, ap_iRev, ap_iStr, ap_iKeys, ap_iVals, ap_iItems, ap_iKeysM, ap_iEnum, ap_iZip, ap_rNewStrs, ap_tM0, ap_tM1, ap_rSlS, ap_gUnl, ap_rIsB,  ap_tFor, ap_tLc, if_true, if_false, Bool.false_eq_true, Bool.true_eq_false, Bool.not_true, Bool.not_false, not_true_eq_false, not_false_eq_true, cx_K, nox_K, blk_K, List.getElem?_cons_succ, List.getElem?_cons_zero, Option.some.injEq, exists_eq_left', exists_eq_left, exists_eq, exists_eq', V.int.injEq, V.bl.injEq, V.str.injEq, V.ref.injEq, V.ty.injEq, List.cons.injEq, and_true, true_and, exists_and_left, List.set_cons_succ, List.set_cons_zero, List.append_nil, List.nil_append, and_assoc, decide_eq_true_eq, Bool.not_eq_true', decide_eq_false_iff_not, scal, List.length_cons, List.length_nil, Nat.zero_add, Nat.reduceAdd, ap_tCs, ap_tDcB, ap_tLam, ap_tSortK, ap_tDNotIn, ap_tDIn, ap_sDPut, ap_tSetDefF, ap_rLenOf, ap_rTupOf, ap_rNeE, ap_rMaxD, ap_tSortedK, ap_rSortedD, ap_tLockV, ap_rMulS, ap_iEnumS, ap_rRange, ap_rListR, ap_rListD, ap_rDictOf, ap_rNeDs, ap_rEqDs, ap_rListOf, ap_rIsO, ap_rSortedSet, ap_rSortedSA, ap_rDClear, ap_rDUpd, ap_tSl3, ap_rSameL, ap_iItemsL]
      exact ⟨e, rfl, rfl, rfl, hG e (List.mem_of_getElem? h2), fun H2 s2 => ⟨_, _, _, rfl, s1.trans s2⟩⟩
    rintro σ H1 ⟨v3, v4, v5, rfl, s1⟩
    dsimp only
    rw [ap_tSeq]
    simp only [ap_tVar, ap_tC, ap_t2I, ap_tAdd, ap_tSub, ap_tMul, ap_tCmp, ap_tIsN, ap_tNotN, ap_tB, ap_tAnd, ap_tOr, ap_tNot, ap_tAndV, ap_tOrV, ap_tNotV, ap_tIf, ap_tNext, ap_tBreak, ap_tCont, ap_tDrop, ap_tRet, ap_tRetN, ap_tIfS, ap_tNever, ap_gName, ap_gNil, ap_gCons, ap_gTup, ap_gSub, ap_tAsg, ap_tPar, ap_tAug, ap_tAugS, ap_ipI, ap_iList, ap_iTup, ap_iRng1, ap_iRng2, ap_tOp, ap_tUn, ap_rI, ap_rI0, ap_rU, ap_rEq, ap_rNe, ap_tTest, ap_tChain, ap_tFld, ap_tCon, ap_sFld, ap_sFldAug, ap_rAdd, ap_rSub, ap_tNil, ap_tCons, ap_tTup, ap_tLst, ap_tCall, ap_tMeth, ap_tMake, ap_tCallK, ap_tCB, ap_tNoPart, ap_tPart, ap_tSl, ap_rSlT, ap_rLtT, ap_rCatT, ap_rIxL, ap_rIxT, ap_rIxS, ap_rIx, ap_rSetL, ap_rSlL, ap_rIn, ap_tBM0, ap_tBM, ap_rAppend, ap_rExtend, ap_rPop, ap_rPopAt, ap_rReverse, ap_rClear, ap_rCat, ap_rRep, ap_rSum, ap_rMax, ap_rMin, ap_rSorted, ap_rSortedS, ap_rSort, ap_rIndex, ap_rAny, ap_rAll, ap_tYes, ap_tDGet, ap_tDIn, ap_tDNotIn, ap_sDPut, ap_sDAug, ap_sDDel, ap_tDNewK, ap_tDNewT, ap_tDisp, ap_tDGet1, ap_tDGet2, ap_tDPop1, ap_tDPop2, ap_tLock, ap_tLockE, ap_iRng3, ap_iRev, ap_iStr, ap_iKeys, ap_iVals, ap_iItems, ap_iKeysM, ap_iEnum, ap_iZip, ap_rNewStrs, ap_tM0, ap_tM1, ap_rSlS, ap_gUnl, ap_rIsB,  ap_tFor, ap_tLc, if_true, if_false, Bool.false_eq_true, Bool.true_eq_false, Bool.not_true, Bool.not_false, not_true_eq_false, not_false_eq_true, cx_K, nox_K, blk_K, List.getElem?_cons_succ, List.getElem?_cons_zero, Option.some.injEq, exists_eq_left', exists_eq_left, exists_eq, exists_eq', V.int.injEq, V.bl.injEq, V.str.injEq, V.ref.injEq, V.ty.injEq, List.cons.injEq, and_true, true_and, exists_and_left, List.set_cons_succ, List.set_cons_zero, List.append_nil, List.nil_append, and_assoc, decide_eq_true_eq, Bool.not_eq_true', decide_eq_false_iff_not, scal, List.length_cons, List.length_nil, Nat.zero_add, Nat.reduceAdd, ap_tCs, ap_tDcB, ap_tLam, ap_tSortK, ap_tDNotIn, ap_tDIn, ap_sDPut, ap_tSetDefF, ap_rLenOf, ap_rTupOf, ap_rNeE, ap_rMaxD, ap_tSortedK, ap_rSortedD, ap_tLockV, ap_rMulS, ap_iEnumS, ap_rRange, ap_rListR, ap_rListD, ap_rDictOf, ap_rNeDs, ap_rEqDs, ap_rListOf, ap_rIsO, ap_rSortedSet, ap_rSortedSA, ap_rDClear, ap_rDUpd, ap_tSl3, ap_rSameL, ap_iItemsL]
    refine ⟨⟨_, s1.sqL hm'⟩, ?_⟩
    refine forB_list (xs := zs.map V.str) (R2' H x l m) ⟨_, _, _, none, rfl, s1⟩ (fun _ _ _ _ ⟨_, _, _, _, _, s1⟩ => s1.sqL hm') ?_ ?_
    · rintro i v σ H1 hv ⟨v3, v4, v5, v6, rfl, s1⟩
      obtain ⟨z, h1, rfl⟩ := strs_nth hv
      simp only [ap_tVar, ap_tC, ap_t2I, ap_tAdd, ap_tSub, ap_tMul, ap_tCmp, ap_tIsN, ap_tNotN, ap_tB, ap_tAnd, ap_tOr, ap_tNot, ap_tAndV, ap_tOrV, ap_tNotV, ap_tIf, ap_tNext, ap_tBreak, ap_tCont, ap_tDrop, ap_tRet, ap_tRetN, ap_tIfS, ap_tNever, ap_gName, ap_gNil, ap_gCons, ap_gTup, ap_gSub, ap_tAsg, ap_tPar, ap_tAug, ap_tAugS, ap_ipI, ap_iList, ap_iTup, ap_iRng1, ap_iRng2, ap_tOp, ap_tUn, ap_rI, ap_rI0, ap_rU, ap_rEq, ap_rNe, ap_tTest, ap_tChain, ap_tFld, ap_tCon, ap_sFld, ap_sFldAug, ap_rAdd, ap_rSub, ap_tNil, ap_tCons, ap_tTup, ap_tLst, ap_tCall, ap_tMeth, ap_tMake, ap_tCallK, ap_tCB, ap_tNoPart, ap_tPart, ap_tSl, ap_rSlT, ap_rLtT, ap_rCatT, ap_rIxL, ap_rIxT, ap_rIxS, ap_rIx, ap_rSetL, ap_rSlL, ap_rIn, ap_tBM0, ap_tBM, ap_rAppend, ap_rExtend, ap_rPop, ap_rPopAt, ap_rReverse, ap_rClear, ap_rCat, ap_rRep, ap_rSum, ap_rMax, ap_rMin, ap_rSorted, ap_rSortedS, ap_rSort, ap_rIndex, ap_rAny, ap_rAll, ap_tYes, ap_tDGet, ap_tDIn, ap_tDNotIn, ap_sDPut, ap_sDAug, ap_sDDel, ap_tDNewK, ap_tDNewT, ap_tDisp, ap_tDGet1, ap_tDGet2, ap_tDPop1, ap_tDPop2, ap_tLock, ap_tLockE, ap_iRng3, ap_iRev, ap_iStr, ap_iKeys, ap_iVals, ap_iItems, ap_iKeysM, ap_iEnum, ap_iZip, ap_rNewStrs, ap_tM0, ap_tM1, ap_rSlS, ap_gUnl, ap_rIsB,  ap_tFor, ap_tLc, if_true, if_false, Bool.false_eq_true, Bool.true_eq_false, Bool.not_true, Bool.not_false, not_true_eq_false, not_false_eq_true, cx_K, nox_K, blk_K, List.getElem?_cons_succ, List.getElem?_cons_zero, Option.some.injEq, exists_eq_left', exists_eq_left, exists_eq, exists_eq', V.int.injEq, V.bl.injEq, V.str.injEq, V.ref.injEq, V.ty.injEq, List.cons.injEq, and_true, true_and, exists_and_left, List.set_cons_succ, List.set_cons_zero, List.append_nil, List.nil_append, and_assoc, decide_eq_true_eq, Bool.not_eq_true', decide_eq_false_iff_not, scal, List.length_cons, List.length_nil, Nat.zero_add, Nat.reduceAdd, ap_tCs, ap_tDcB, ap_tLam, ap_tSortK, ap_tDNotIn, ap_tDIn, ap_sDPut, ap_tSetDefF, ap_rLenOf, ap_rTupOf, ap_rNeE, ap_rMaxD, ap_tSortedK, ap_rSortedD, ap_tLockV, ap_rMulS, ap_iEnumS, ap_rRange, ap_rListR, ap_rListD, ap_rDictOf, ap_rNeDs, ap_rEqDs, ap_rListOf, ap_rIsO, ap_rSortedSet, ap_rSortedSA, ap_rDClear, ap_rDUpd, ap_tSl3, ap_rSameL, ap_iItemsL, sp_chkS]
      exact ⟨hP z (List.mem_of_getElem? h1), fun H2 s2 => ⟨_, _, _, _, rfl, s1.trans s2⟩⟩
    rintro σ H1 ⟨v3, v4, v5, v6, rfl, s1⟩
    dsimp only
    rw [ap_tSeq]
    simp only [ap_tVar, ap_tC, ap_t2I, ap_tAdd, ap_tSub, ap_tMul, ap_tCmp, ap_tIsN, ap_tNotN, ap_tB, ap_tAnd, ap_tOr, ap_tNot, ap_tAndV, ap_tOrV, ap_tNotV, ap_tIf, ap_tNext, ap_tBreak, ap_tCont, ap_tDrop, ap_tRet, ap_tRetN, ap_tIfS, ap_tNever, ap_gName, ap_gNil, ap_gCons, ap_gTup, ap_gSub, ap_tAsg, ap_tPar, ap_tAug, ap_tAugS, ap_ipI, ap_iList, ap_iTup, ap_iRng1, ap_iRng2, ap_tOp, ap_tUn, ap_rI, ap_rI0, ap_rU, ap_rEq, ap_rNe, ap_tTest, ap_tChain, ap_tFld, ap_tCon, ap_sFld, ap_sFldAug, ap_rAdd, ap_rSub, ap_tNil, ap_tCons, ap_tTup, ap_tLst, ap_tCall, ap_tMeth, ap_tMake, ap_tCallK, ap_tCB, ap_tNoPart, ap_tPart, ap_tSl, ap_rSlT, ap_rLtT, ap_rCatT, ap_rIxL, ap_rIxT, ap_rIxS, ap_rIx, ap_rSetL, ap_rSlL, ap_rIn, ap_tBM0, ap_tBM, ap_rAppend, ap_rExtend, ap_rPop, ap_rPopAt, ap_rReverse, ap_rClear, ap_rCat, ap_rRep, ap_rSum, ap_rMax, ap_rMin, ap_rSorted, ap_rSortedS, ap_rSort, ap_rIndex, ap_rAny, ap_rAll, ap_tYes, ap_tDGet, ap_tDIn, ap_tDNotIn, ap_sDPut, ap_sDAug, ap_sDDel, ap_tDNewK, ap_tDNewT, ap_tDisp, ap_tDGet1, ap_tDGet2, ap_tDPop1, ap_tDPop2, ap_tLock, ap_tLockE, ap_iRng3, ap_iRev, ap_iStr, ap_iKeys, ap_iVals, ap_iItems, ap_iKeysM, ap_iEnum, ap_iZip, ap_rNewStrs, ap_tM0, ap_tM1, ap_rSlS, ap_gUnl, ap_rIsB,  ap_tFor, ap_tLc, if_true, if_false, Bool.false_eq_true, Bool.true_eq_false, Bool.not_true, Bool.not_false, not_true_eq_false, not_false_eq_true, cx_K, nox_K, blk_K, List.getElem?_cons_succ, List.getElem?_cons_zero, Option.some.injEq, exists_eq_left', exists_eq_left, exists_eq, exists_eq', V.int.injEq, V.bl.injEq, V.str.injEq, V.ref.injEq, V.ty.injEq, List.cons.injEq, and_true, true_and, exists_and_left, List.set_cons_succ, List.set_cons_zero, List.append_nil, List.nil_append, and_assoc, decide_eq_true_eq, Bool.not_eq_true', decide_eq_false_iff_not, scal, List.length_cons, List.length_nil, Nat.zero_add, Nat.reduceAdd, ap_tCs, ap_tDcB, ap_tLam, ap_tSortK, ap_tDNotIn, ap_tDIn, ap_sDPut, ap_tSetDefF, ap_rLenOf, ap_rTupOf, ap_rNeE, ap_rMaxD, ap_tSortedK, ap_rSortedD, ap_tLockV, ap_rMulS, ap_iEnumS, ap_rRange, ap_rListR, ap_rListD, ap_rDictOf, ap_rNeDs, ap_rEqDs, ap_rListOf, ap_rIsO, ap_rSortedSet, ap_rSortedSA, ap_rDClear, ap_rDUpd, ap_tSl3, ap_rSameL, ap_iItemsL, sp_chkT]
    refine ⟨⟨_, s1.sqL hl⟩, fun D1 hD1 => ?_⟩
    refine lcM_list hD1 (s1.sqL hl) (fun ys H => ys = (es.take ys.length).map fun e => .str e.1) rfl ?_ ?_
    · intro i v ys H2 hv hi I
      obtain ⟨p, e, h1, h2, rfl, h3⟩ := hE.nth hv
      simp only [ap_tVar, ap_tC, ap_t2I, ap_tAdd, ap_tSub, ap_tMul, ap_tCmp, ap_tIsN, ap_tNotN, ap_tB, ap_tAnd, ap_tOr, ap_tNot, ap_tAndV, ap_tOrV, ap_tNotV, ap_tIf, ap_tNext, ap_tBreak, ap_tCont, ap_tDrop, ap_tRet, ap_tRetN, ap_tIfS, ap_tNever, ap_gName, ap_gNil, ap_gCons, ap_gTup, ap_gSub, ap_tAsg, ap_tPar, ap_tAug, ap_tAugS, ap_ipI, ap_iList, ap_iTup, ap_iRng1, ap_iRng2, ap_tOp, ap_tUn, ap_rI, ap_rI0, ap_rU, ap_rEq, ap_rNe, ap_tTest, ap_tChain, ap_tFld, ap_tCon, ap_sFld, ap_sFldAug, ap_rAdd, ap_rSub, ap_tNil, ap_tCons, ap_tTup, ap_tLst, ap_tCall, ap_tMeth, ap_tMake, ap_tCallK, ap_tCB, ap_tNoPart, ap_tPart, ap_tSl, ap_rSlT, ap_rLtT, ap_rCatT, ap_rIxL, ap_rIxT, ap_rIxS, ap_rIx, ap_rSetL, ap_rSlL, ap_rIn, ap_tBM0, ap_tBM, ap_rAppend, ap_rExtend, ap_rPop, ap_rPopAt, ap_rReverse, ap_rClear, ap_rCat, ap_rRep, ap_rSum, ap_rMax, ap_rMin, ap_rSorted, ap_rSortedS, ap_rSort, ap_rIndex, ap_rAny, ap_rAll, ap_tYes, ap_tDGet, ap_tDIn, ap_tDNotIn, ap_sDPut, ap_sDAug, ap_sDDel, ap_tDNewK, ap_tDNewT, ap_tDisp, ap_tDGet1, ap_tDGet2, ap_tDPop1, ap_tDPop2, ap_tLock, ap_tLockE, ap_iRng3, ap_iRev, ap_iStr, ap_iKeys, ap_iVals, ap_iItems, ap_iKeysM, ap_iEnum, ap_iZip, ap_rNewStrs, ap_tM0, ap_tM1, ap_rSlS, ap_gUnl, ap_rIsB,  ap_tFor, ap_tLc, if_true, if_false, Bool.false_eq_true, Bool.true_eq_false, Bool.not_true, Bool.not_false, not_true_eq_false, not_false_eq_true, cx_K, nox_K, blk_K, List.getElem?_cons_succ, List.getElem?_cons_zero, Option.some.injEq, exists_eq_left', exists_eq_left, exists_eq, exists_eq', V.int.injEq, V.bl.injEq, V.str.injEq, V.ref.injEq, V.ty.injEq, List.cons.injEq, and_true, true_and, exists_and_left, List.set_cons_succ, List.set_cons_zero, List.append_nil, List.nil_append, and_assoc, decide_eq_true_eq, Bool.not_eq_true', decide_eq_false_iff_not, scal, List.length_cons, List.length_nil, Nat.zero_add, Nat.reduceAdd, ap_tCs, ap_tDcB, ap_tLam, ap_tSortK, ap_tDNotIn, ap_tDIn, ap_sDPut, ap_tSetDefF, ap_rLenOf, ap_rTupOf, ap_rNeE, ap_rMaxD, ap_tSortedK, ap_rSortedD, ap_tLockV, ap_rMulS, ap_iEnumS, ap_rRange, ap_rListR, ap_rListD, ap_rDictOf, ap_rNeDs, ap_rEqDs, ap_rListOf, ap_rIsO, ap_rSortedSet, ap_rSortedSA, ap_rDClear, ap_rDUpd, ap_tSl3, ap_rSameL, ap_iItemsL]
      refine ⟨rfl, _, rfl, _, rfl, _, .of (I.same _ _ (s1 _ _ h3)), .str e.1, rfl, LcNext.mk hD1 I hi (Same.refl _) (small1000 (by have := (List.getElem?_eq_some_iff.mp h2).1; omega)) ?_⟩
      have e0 := I.pv
      obtain ⟨hil, rfl⟩ := List.getElem?_eq_some_iff.mp h2
      rw [hi] at e0
      rw [List.length_append, List.length_singleton, hi, ← List.take_append_getElem hil, List.map_append, ← e0]
      rfl
    intro ys H2 hys I
    have e0 := I.pv
    rw [hys, List.length_map, hE.1, List.take_length] at e0
    refine ⟨es.map (·.1), ?_, hN, by rw [List.length_map]; omega, fun H3 s3 => ?_⟩
    · have := I.at_
      rw [e0] at this
      rw [List.map_map]
      exact .of this
    rw [ap_tSeq]
    simp only [ap_tVar, ap_tC, ap_t2I, ap_tAdd, ap_tSub, ap_tMul, ap_tCmp, ap_tIsN, ap_tNotN, ap_tB, ap_tAnd, ap_tOr, ap_tNot, ap_tAndV, ap_tOrV, ap_tNotV, ap_tIf, ap_tNext, ap_tBreak, ap_tCont, ap_tDrop, ap_tRet, ap_tRetN, ap_tIfS, ap_tNever, ap_gName, ap_gNil, ap_gCons, ap_gTup, ap_gSub, ap_tAsg, ap_tPar, ap_tAug, ap_tAugS, ap_ipI, ap_iList, ap_iTup, ap_iRng1, ap_iRng2, ap_tOp, ap_tUn, ap_rI, ap_rI0, ap_rU, ap_rEq, ap_rNe, ap_tTest, ap_tChain, ap_tFld, ap_tCon, ap_sFld, ap_sFldAug, ap_rAdd, ap_rSub, ap_tNil, ap_tCons, ap_tTup, ap_tLst, ap_tCall, ap_tMeth, ap_tMake, ap_tCallK, ap_tCB, ap_tNoPart, ap_tPart, ap_tSl, ap_rSlT, ap_rLtT, ap_rCatT, ap_rIxL, ap_rIxT, ap_rIxS, ap_rIx, ap_rSetL, ap_rSlL, ap_rIn, ap_tBM0, ap_tBM, ap_rAppend, ap_rExtend, ap_rPop, ap_rPopAt, ap_rReverse, ap_rClear, ap_rCat, ap_rRep, ap_rSum, ap_rMax, ap_rMin, ap_rSorted, ap_rSortedS, ap_rSort, ap_rIndex, ap_rAny, ap_rAll, ap_tYes, ap_tDGet, ap_tDIn, ap_tDNotIn, ap_sDPut, ap_sDAug, ap_sDDel, ap_tDNewK, ap_tDNewT, ap_tDisp, ap_tDGet1, ap_tDGet2, ap_tDPop1, ap_tDPop2, ap_tLock, ap_tLockE, ap_iRng3, ap_iRev, ap_iStr, ap_iKeys, ap_iVals, ap_iItems, ap_iKeysM, ap_iEnum, ap_iZip, ap_rNewStrs, ap_tM0, ap_tM1, ap_rSlS, ap_gUnl, ap_rIsB,  ap_tFor, ap_tLc, if_true, if_false, Bool.false_eq_true, Bool.true_eq_false, Bool.not_true, Bool.not_false, not_true_eq_false, not_false_eq_true, cx_K, nox_K, blk_K, List.getElem?_cons_succ, List.getElem?_cons_zero, Option.some.injEq, exists_eq_left', exists_eq_left, exists_eq, exists_eq', V.int.injEq, V.bl.injEq, V.str.injEq, V.ref.injEq, V.ty.injEq, List.cons.injEq, and_true, true_and, exists_and_left, List.set_cons_succ, List.set_cons_zero, List.append_nil, List.nil_append, and_assoc, decide_eq_true_eq, Bool.not_eq_true', decide_eq_false_iff_not, scal, List.length_cons, List.length_nil, Nat.zero_add, Nat.reduceAdd, ap_tCs, ap_tDcB, ap_tLam, ap_tSortK, ap_tDNotIn, ap_tDIn, ap_sDPut, ap_tSetDefF, ap_rLenOf, ap_rTupOf, ap_rNeE, ap_rMaxD, ap_tSortedK, ap_rSortedD, ap_tLockV, ap_rMulS, ap_iEnumS, ap_rRange, ap_rListR, ap_rListD, ap_rDictOf, ap_rNeDs, ap_rEqDs, ap_rListOf, ap_rIsO, ap_rSortedSet, ap_rSortedSA, ap_rDClear, ap_rDUpd, ap_tSl3, ap_rSameL, ap_iItemsL, sp_chkT]
    have s13 : Same H H3 := (s1.trans I.same).trans s3
    refine ⟨zs, s13.sqL hm', hzn, by omega, fun H4 s4 => ?_⟩
    have s14 : Same H H4 := s13.trans s4
    rw [ap_tSeq]
    simp only [ap_tVar, ap_tC, ap_t2I, ap_tAdd, ap_tSub, ap_tMul, ap_tCmp, ap_tIsN, ap_tNotN, ap_tB, ap_tAnd, ap_tOr, ap_tNot, ap_tAndV, ap_tOrV, ap_tNotV, ap_tIf, ap_tNext, ap_tBreak, ap_tCont, ap_tDrop, ap_tRet, ap_tRetN, ap_tIfS, ap_tNever, ap_gName, ap_gNil, ap_gCons, ap_gTup, ap_gSub, ap_tAsg, ap_tPar, ap_tAug, ap_tAugS, ap_ipI, ap_iList, ap_iTup, ap_iRng1, ap_iRng2, ap_tOp, ap_tUn, ap_rI, ap_rI0, ap_rU, ap_rEq, ap_rNe, ap_tTest, ap_tChain, ap_tFld, ap_tCon, ap_sFld, ap_sFldAug, ap_rAdd, ap_rSub, ap_tNil, ap_tCons, ap_tTup, ap_tLst, ap_tCall, ap_tMeth, ap_tMake, ap_tCallK, ap_tCB, ap_tNoPart, ap_tPart, ap_tSl, ap_rSlT, ap_rLtT, ap_rCatT, ap_rIxL, ap_rIxT, ap_rIxS, ap_rIx, ap_rSetL, ap_rSlL, ap_rIn, ap_tBM0, ap_tBM, ap_rAppend, ap_rExtend, ap_rPop, ap_rPopAt, ap_rReverse, ap_rClear, ap_rCat, ap_rRep, ap_rSum, ap_rMax, ap_rMin, ap_rSorted, ap_rSortedS, ap_rSort, ap_rIndex, ap_rAny, ap_rAll, ap_tYes, ap_tDGet, ap_tDIn, ap_tDNotIn, ap_sDPut, ap_sDAug, ap_sDDel, ap_tDNewK, ap_tDNewT, ap_tDisp, ap_tDGet1, ap_tDGet2, ap_tDPop1, ap_tDPop2, ap_tLock, ap_tLockE, ap_iRng3, ap_iRev, ap_iStr, ap_iKeys, ap_iVals, ap_iItems, ap_iKeysM, ap_iEnum, ap_iZip, ap_rNewStrs, ap_tM0, ap_tM1, ap_rSlS, ap_gUnl, ap_rIsB,  ap_tFor, ap_tLc, if_true, if_false, Bool.false_eq_true, Bool.true_eq_false, Bool.not_true, Bool.not_false, not_true_eq_false, not_false_eq_true, cx_K, nox_K, blk_K, List.getElem?_cons_succ, List.getElem?_cons_zero, Option.some.injEq, exists_eq_left', exists_eq_left, exists_eq, exists_eq', V.int.injEq, V.bl.injEq, V.str.injEq, V.ref.injEq, V.ty.injEq, List.cons.injEq, and_true, true_and, exists_and_left, List.set_cons_succ, List.set_cons_zero, List.append_nil, List.nil_append, and_assoc, decide_eq_true_eq, Bool.not_eq_true', decide_eq_false_iff_not, scal, List.length_cons, List.length_nil, Nat.zero_add, Nat.reduceAdd, ap_tCs, ap_tDcB, ap_tLam, ap_tSortK, ap_tDNotIn, ap_tDIn, ap_sDPut, ap_tSetDefF, ap_rLenOf, ap_rTupOf, ap_rNeE, ap_rMaxD, ap_tSortedK, ap_rSortedD, ap_tLockV, ap_rMulS, ap_iEnumS, ap_rRange, ap_rListR, ap_rListD, ap_rDictOf, ap_rNeDs, ap_rEqDs, ap_rListOf, ap_rIsO, ap_rSortedSet, ap_rSortedSA, ap_rDClear, ap_rDUpd, ap_tSl3, ap_rSameL, ap_iItemsL]
    refine ⟨tab_same hT s14, fun fl cl pm ctv H5 hf5 k5 hT5 hL hC => ?_⟩
    have k5 : SameX Pt H4 H5 := k5
    obtain ⟨tb, hPt, _⟩ := tab_same hT s14
    have hE5 : EnAt H5 ps es := k5.enAt hPt (hE.same s14)
    have hx4 := s14 _ _ hx
    have hx5 : H5 x = some (.ins C dx []) := k5 _ _ hx4 fun z => by rw [z, hPt] at hx4; cases hx4
    refine ⟨l, fl, ps.map V.ref, es.map negL, cl, pm, ctv, rfl, rfl, k5.sqL hPt (s14.sqL hl), hL, hC, by simp [hE.1], by rw [List.length_map, hE.1]; omega, fun i v kk hv hk => ?_, fun D2 ys hD2 hys => ?_⟩
    · obtain ⟨p, e, h1, h2, rfl, h3⟩ := hE5.nth hv
      rw [List.getElem?_map, h2] at hk
      cases hk
      refine ⟨p, e.1, _, rfl, .of h3, Nat.le_of_lt (small1000 ?_), rfl⟩
      have := (hG e (List.mem_of_getElem? h2)).2.2.1
      omega
    obtain ⟨ps', es', rfl, hE', hpm, hpw⟩ := sortedEn hE5 hys
    have hxD : x ≠ D2 := ne_of_none hx5 hD2
    have hx6 : (upd H5 D2 (.lst (ps'.map V.ref))) x = some (.ins C dx []) := by rw [upd_ne hxD]; exact hx5
    refine ⟨C, dx, _, hx6, cls, na1, by decide, ?_⟩
    have hm7 := sqL_off (o := .ins C dx [("longest_first", V.ref D2)]) ((Same.new hD2 (o := .lst (ps'.map V.ref))).sqL (k5.sqL hPt (s14.sqL hm'))) hx6
    have hE7 := (hE'.same (Same.new hD2 (o := .lst (ps'.map V.ref)))).off (o := .ins C dx [("longest_first", V.ref D2)]) hx6 (by intro xs z; cases z)
    have hT7 := tab_off (o := .ins C dx [("longest_first", V.ref D2)]) (tab_same hT5 (Same.new hD2 (o := .lst (ps'.map V.ref)))) hx6
    have hx7 : upd (upd H5 D2 (.lst (ps'.map V.ref))) x (.ins C dx [("longest_first", V.ref D2)]) x = some (.ins C dx [("longest_first", V.ref D2)]) := upd_same
    have hD7 : upd (upd H5 D2 (.lst (ps'.map V.ref))) x (.ins C dx [("longest_first", V.ref D2)]) D2 = some (.lst (ps'.map V.ref)) := by rw [upd_ne (Ne.symm hxD), upd_same]
    have k7 : ∀ a o, H a = some o → a ≠ Pt → a ≠ x → upd (upd H5 D2 (.lst (ps'.map V.ref))) x (.ins C dx [("longest_first", V.ref D2)]) a = some o := fun a o e n1 n2 => by
      have e5 := k5 _ _ (s14 _ _ e) n1
      rw [upd_ne n2, upd_ne (ne_of_none e5 hD2)]
      exact e5
    show (∃ xs, SqL K (upd (upd H5 D2 (.lst (ps'.map V.ref))) x (.ins C dx [("longest_first", V.ref D2)])) m xs) ∧ _
    change _ ∧ ∀ D, upd (upd H5 D2 (.lst (ps'.map V.ref))) x (.ins C dx [("longest_first", V.ref D2)]) D = none → DcB _ _ _ _ _ _ _ (upd (upd H5 D2 (.lst (ps'.map V.ref))) x (.ins C dx [("longest_first", V.ref D2)])) D _
    generalize upd (upd H5 D2 (.lst (ps'.map V.ref))) x (.ins C dx [("longest_first", V.ref D2)]) = H7 at *
    refine ⟨⟨_, hm7⟩, fun D3 hD3 => ?_⟩
    refine dcM_list hD3 hm7 (fun i kvs H => kvs = silK (zs.take i)) rfl ?_ ?_
    · intro i v kvs H8 hv I
      obtain ⟨z, h1, rfl⟩ := strs_nth hv
      obtain ⟨hi, rfl⟩ := List.getElem?_eq_some_iff.mp h1
      have e0 := I.pv
      simp only [ap_tVar, ap_tC, ap_t2I, ap_tAdd, ap_tSub, ap_tMul, ap_tCmp, ap_tIsN, ap_tNotN, ap_tB, ap_tAnd, ap_tOr, ap_tNot, ap_tAndV, ap_tOrV, ap_tNotV, ap_tIf, ap_tNext, ap_tBreak, ap_tCont, ap_tDrop, ap_tRet, ap_tRetN, ap_tIfS, ap_tNever, ap_gName, ap_gNil, ap_gCons, ap_gTup, ap_gSub, ap_tAsg, ap_tPar, ap_tAug, ap_tAugS, ap_ipI, ap_iList, ap_iTup, ap_iRng1, ap_iRng2, ap_tOp, ap_tUn, ap_rI, ap_rI0, ap_rU, ap_rEq, ap_rNe, ap_tTest, ap_tChain, ap_tFld, ap_tCon, ap_sFld, ap_sFldAug, ap_rAdd, ap_rSub, ap_tNil, ap_tCons, ap_tTup, ap_tLst, ap_tCall, ap_tMeth, ap_tMake, ap_tCallK, ap_tCB, ap_tNoPart, ap_tPart, ap_tSl, ap_rSlT, ap_rLtT, ap_rCatT, ap_rIxL, ap_rIxT, ap_rIxS, ap_rIx, ap_rSetL, ap_rSlL, ap_rIn, ap_tBM0, ap_tBM, ap_rAppend, ap_rExtend, ap_rPop, ap_rPopAt, ap_rReverse, ap_rClear, ap_rCat, ap_rRep, ap_rSum, ap_rMax, ap_rMin, ap_rSorted, ap_rSortedS, ap_rSort, ap_rIndex, ap_rAny, ap_rAll, ap_tYes, ap_tDGet, ap_tDIn, ap_tDNotIn, ap_sDPut, ap_sDAug, ap_sDDel, ap_tDNewK, ap_tDNewT, ap_tDisp, ap_tDGet1, ap_tDGet2, ap_tDPop1, ap_tDPop2, ap_tLock, ap_tLockE, ap_iRng3, ap_iRev, ap_iStr, ap_iKeys, ap_iVals, ap_iItems, ap_iKeysM, ap_iEnum, ap_iZip, ap_rNewStrs, ap_tM0, ap_tM1, ap_rSlS, ap_gUnl, ap_rIsB,  ap_tFor, ap_tLc, if_true, if_false, Bool.false_eq_true, Bool.true_eq_false, Bool.not_true, Bool.not_false, not_true_eq_false, not_false_eq_true, cx_K, nox_K, blk_K, List.getElem?_cons_succ, List.getElem?_cons_zero, Option.some.injEq, exists_eq_left', exists_eq_left, exists_eq, exists_eq', V.int.injEq, V.bl.injEq, V.str.injEq, V.ref.injEq, V.ty.injEq, List.cons.injEq, and_true, true_and, exists_and_left, List.set_cons_succ, List.set_cons_zero, List.append_nil, List.nil_append, and_assoc, decide_eq_true_eq, Bool.not_eq_true', decide_eq_false_iff_not, scal, List.length_cons, List.length_nil, Nat.zero_add, Nat.reduceAdd, ap_tCs, ap_tDcB, ap_tLam, ap_tSortK, ap_tDNotIn, ap_tDIn, ap_sDPut, ap_tSetDefF, ap_rLenOf, ap_rTupOf, ap_rNeE, ap_rMaxD, ap_tSortedK, ap_rSortedD, ap_tLockV, ap_rMulS, ap_iEnumS, ap_rRange, ap_rListR, ap_rListD, ap_rDictOf, ap_rNeDs, ap_rEqDs, ap_rListOf, ap_rIsO, ap_rSortedSet, ap_rSortedSA, ap_rDClear, ap_rDUpd, ap_tSl3, ap_rSameL, ap_iItemsL]
      refine ⟨rfl, _, rfl, ?_⟩
      refine DcNext.mk (k := .inr zs[i]) hD3 I (Same.refl _) ?_ ?_
      · rw [e0, silK, List.length_map, List.length_take]; exact small1000 (by omega)
      · rw [e0, sil_put ?_, List.take_append_getElem hi]
        intro hmem
        obtain ⟨j, hj⟩ := List.mem_iff_getElem?.mp hmem
        rw [List.getElem?_take] at hj
        split at hj
        · rename_i hji
          obtain ⟨hj1, hj2⟩ := List.getElem?_eq_some_iff.mp hj
          exact List.pairwise_iff_getElem.mp hzn j i hj1 hi hji hj2
        · cases hj
    intro kvs H8 I
    have e0 := I.pv
    rw [List.length_map, List.take_length] at e0
    subst e0
    refine ⟨C, dx, _, I.same _ _ hx7, cls, na2, by simp, ?_⟩
    have hx8 := I.same _ _ hx7
    have hxD3 : D3 ≠ x := fun z => by rw [z, hx7] at hD3; cases hD3
    have fr2 : H D2 = none := by
      cases e : H D2 with
      | none => rfl
      | some o =>
        have z := k5 _ _ (s14 _ _ e) fun z => by
          obtain ⟨tb5, hP5, _⟩ := hT5
          rw [z, hP5] at hD2; cases hD2
        rw [hD2] at z; cases z
    have fr3 : H D3 = none := by
      cases e : H D3 with
      | none => rfl
      | some o =>
        have z := k7 _ _ e (fun z => by
          obtain ⟨tb5, hP5, _⟩ := hT7
          rw [z, hP5] at hD3; cases hD3) hxD3
        rw [hD3] at z; cases z
    refine q D2 D3 _ fr2 fr3 ⟨⟨dx, upd_same⟩, ⟨ps', es', ?_, ?_, hpm, hpw⟩, ?_, hG, hN, hlen, hP, hzl⟩ (fun a o e n1 n2 => ?_) ?_
    · rw [upd_ne (Ne.symm hxD)]; exact I.same _ _ hD7
    · exact (hE7.same I.same).off hx8 (by intro xs z; cases z)
    · rw [upd_ne hxD3]; exact I.at_
    · rw [upd_ne n2]; exact I.same _ _ (k7 a o e n1 n2)
    · exact tab_off (tab_same hT7 I.same) hx8
/-! a rulebook made -/
theorem SameX.trans {P : Addr} {H H1 H2 : Hp} {tb : Array Value} (a : SameX P H H1) (b : SameX P H1 H2) : SameX P H H2 := fun x o e n => b x o (a x o e n) n
theorem _root_.L2.Same.x {P : Addr} {H H1 : Hp} (s : Same H H1) : SameX P H H1 := fun x o e _ => s x o e
theorem SameX.at_ {P : Addr} {H H1 : Hp} {tb : Array Value} {b : Addr} {o : HO} (k : SameX P H H1) (hP : H P = some (.tbl tb)) (h : H b = some o) (ho : ∀ u, o ≠ .tbl u) : H1 b = some o := k _ _ h fun z => by rw [z, hP] at h; exact ho _ (Option.some.inj h).symm
theorem SameX.tups {P : Addr} {H H' : Hp} {tb : Array Value} {ps : List Addr} {vss : List (List V)} (k : SameX P H H') (hP : H P = some (.tbl tb)) (h : TupsAt H ps vss) : TupsAt H' ps vss := ⟨h.1, fun i p e h1 h2 => k.at_ hP (h.2 i p e h1 h2) (by intro u z; cases z)⟩
theorem SameX.rb {P C : Addr} {H H' : Hp} {tb : Array Value} {x D d : Addr} {es : List En} {zs : List Str} (k : SameX P H H') (hP : H P = some (.tbl tb)) (R : RbAt C H x D d es zs) : RbAt C H' x D d es zs := by
  obtain ⟨dx, h1⟩ := R.at_
  obtain ⟨ps, es', h2, h3, h4⟩ := R.lst
  exact ⟨⟨dx, k.at_ hP h1 (by intro u z; cases z)⟩, ⟨ps, es', k.at_ hP h2 (by intro u z; cases z), k.enAt hP h3, h4⟩, k.at_ hP R.dct (by intro u z; cases z), R.good, R.nd, R.few, R.pl, R.few2⟩
theorem mk_rb {C Pt l m : Addr} {H : Hp} {ps : List Addr} {es : List En} {zs : List Str} {Q : Addr → Hp → Prop} (hl : SqL K H l (ps.map V.ref)) (hE : EnAt H ps es) (hG : ∀ e ∈ es, GoodEn e) (hN : (es.map (·.1)).Nodup) (hlen : es.length ≤ 12) (hm : SqL K H m (zs.map V.str)) (hP : ∀ z ∈ zs, Plain z) (hzn : zs.Nodup) (hzl : zs.length ≤ 40)
    (hT : TabOk Pt lamPos lamQ H) (q : ∀ x D d H', H x = none → H D = none → H d = none → RbAt C H' x D d es zs → SameX Pt H H' → TabOk Pt lamPos lamQ H' → Q x H') :
    ∀ x dx, H x = none → H dx = none → dx ≠ x → sp_rb K C Pt [.ref x, .ref l, .ref m] (upd (upd H dx (.own x)) x (.ins C dx [])) (fun v H2 => v = .non ∧ Q x H2) E0 := by
  intro x dx hx hdx hne
  have t5 : Same H (upd (upd H dx (.own x)) x (.ins C dx [])) := Same.put (Same.put (Same.refl _) hdx) hx
  refine ⟨x, l, m, dx, ps, es, zs, rfl, upd_same, t5.sqL hl, hE.same t5, hG, hN, hlen, t5.sqL hm, hP, hzn, hzl, tab_same hT t5, fun D d H' hD hd R k T' => ⟨rfl, q x D d H' hx (none_of t5 hD) (none_of t5 hd) R (fun a o e n => k a o (t5 _ _ e) n (ne_of_none e hx)) T'⟩⟩
end
end My
set_option maxHeartbeats 4000000

namespace My
open PySem L2
section
variable {P : Program} {w : World} {K : PySem.W.Frag} {mg : Str → Option Value} {base : Heap}
theorem take_next {α : Type} {rs : List α} {i : Nat} {r : α} (h : rs[i]? = some r) : rs.take (i + 1) = rs.take i ++ [r] := by
  rw [List.take_succ, h]; rfl
theorem mem_putK {kvs : List (Key × V)} {k : Key} {v : V} {q : Key × V} (h : q ∈ putK kvs k v) : (q ∈ kvs ∧ q.1 ≠ k) ∨ q = (k, v) := by
  unfold putK at h
  split at h
  · obtain ⟨a, ha, e⟩ := List.mem_map.mp h
    split at e
    · rename_i e2
      exact .inr (by rw [← e, e2])
    · rename_i e2
      exact .inl ⟨by rw [← e]; exact ha, by rw [← e]; exact e2⟩
  · rename_i hn
    rcases List.mem_append.mp h with h | h
    · refine .inl ⟨h, fun z => hn ?_⟩
      exact List.any_eq_true.mpr ⟨q, h, by simpa using z⟩
    · exact .inr (List.mem_singleton.mp h)
theorem putK_keys {kvs : List (Key × V)} {k : Key} {v : V} : (k ∈ kvs.map (·.1) ∧ (putK kvs k v).map (·.1) = kvs.map (·.1)) ∨ (k ∉ kvs.map (·.1) ∧ putK kvs k v = kvs ++ [(k, v)]) := by
  unfold putK
  by_cases h : (kvs.any fun kv => decide (kv.1 = k)) = true
  · rw [if_pos h]
    refine .inl ⟨?_, ?_⟩
    · obtain ⟨q, hq, e⟩ := List.any_eq_true.mp h
      exact List.mem_map.mpr ⟨q, hq, of_decide_eq_true e⟩
    · rw [List.map_map]
      refine List.map_congr_left fun q _ => ?_
      show (if q.1 = k then (q.1, v) else q).1 = q.1
      split <;> rfl
  · rw [if_neg h]
    refine .inr ⟨fun hm => h ?_, rfl⟩
    obtain ⟨q, hq, e⟩ := List.mem_map.mp hm
    exact List.any_eq_true.mpr ⟨q, hq, by simpa using e⟩
theorem valV_mem {kvs : List (Key × V)} {k : Key} (h : k ∈ kvs.map (·.1)) : ∃ v, valV kvs k = some v ∧ (k, v) ∈ kvs := by
  obtain ⟨q, hq, e⟩ := List.mem_map.mp h
  unfold valV
  cases hf : kvs.find? fun kv => decide (kv.1 = k) with
  | none => exact absurd (List.find?_eq_none.mp hf q hq) (by simp [e])
  | some r =>
    have h1 : r.1 = k := by simpa using List.find?_some hf
    exact ⟨r.2, rfl, by rw [← h1]; exact List.mem_of_find?_eq_some hf⟩
theorem valV_not {kvs : List (Key × V)} {k : Key} (h : k ∉ kvs.map (·.1)) : valV kvs k = none := by
  unfold valV
  rw [Option.map_eq_none_iff, List.find?_eq_none]
  intro q hq
  simp
  exact fun z => h (List.mem_map.mpr ⟨q, hq, z⟩)
/-! dicts of texts by names -/
def rTx (tx : Str → List Str) (n : Str) (v : V) (H : Hp) : Prop := ∃ p : Addr, v = .ref p ∧ H p = some (.tup ((tx n).map V.str))
structure TxO (ns : List Str) (tx : Str → List Str) : Prop where
  nd : ns.Nodup
  ok : ∀ n ∈ ns, NmOk n ∧ (tx n).length = 3 ∧ ∀ x ∈ tx n, TxS x
/-- the entries of a dict of texts -/
structure TK (H : Hp) (ns : List Str) (tx : Str → List Str) (kvs : List (Key × V)) : Prop where
  key : kvs.map (·.1) = ns.map Sum.inr
  ent : ∀ q ∈ kvs, ∃ n v, q = (.inr n, v) ∧ rTx tx n v H
def TD (H : Hp) (d : Addr) (ns : List Str) (tx : Str → List Str) : Prop := ∃ kvs, H d = some (.dK kvs) ∧ TK H ns tx kvs
/-- tuples are kept -/
def Tk (H H' : Hp) : Prop := ∀ p xs, H p = some (.tup xs) → H' p = some (.tup xs)
theorem Tk.of {H H' : Hp} (s : Same H H') : Tk H H' := fun _ _ e => s _ _ e
theorem Tk.trans {H H1 H2 : Hp} (a : Tk H H1) (b : Tk H1 H2) : Tk H H2 := fun p xs e => b p xs (a p xs e)
theorem Tk.upd {H : Hp} {d : Addr} {u o : HO} (h : H d = some u) (hu : ∀ xs, u ≠ .tup xs) : Tk H (upd H d o) := fun p xs e => by
  rw [upd_ne (ne_of e h fun z => hu _ z.symm)]; exact e
theorem Tk.but {p : Addr} {H H' : Hp} {u : HO} (h : H p = some u) (hu : ∀ xs, u ≠ .tup xs) (b : But1 p H H') : Tk H H' := fun q xs e => b _ _ e (ne_of e h fun z => hu _ z.symm)
theorem TK.tk {H H' : Hp} {ns : List Str} {tx : Str → List Str} {kvs : List (Key × V)} (h : TK H ns tx kvs) (s : Tk H H') : TK H' ns tx kvs :=
  ⟨h.key, fun q hq => by obtain ⟨n, v, e, p, e1, e2⟩ := h.ent q hq; exact ⟨n, v, e, p, e1, s _ _ e2⟩⟩
theorem TD.same {H H' : Hp} {d : Addr} {ns : List Str} {tx : Str → List Str} (h : TD H d ns tx) (s : Same H H') : TD H' d ns tx := by
  obtain ⟨kvs, e, k⟩ := h
  exact ⟨kvs, s _ _ e, k.tk (.of s)⟩
theorem TD.but {H H' : Hp} {d p : Addr} {ns : List Str} {tx : Str → List Str} {u : HO} (h : TD H d ns tx) (hp : H p = some u) (hu : ∀ xs, u ≠ .tup xs) (hn : d ≠ p) (b : But1 p H H') : TD H' d ns tx := by
  obtain ⟨kvs, e, k⟩ := h
  exact ⟨kvs, b _ _ e hn, k.tk (.but hp hu b)⟩
theorem TK.len {H : Hp} {ns : List Str} {tx : Str → List Str} {kvs : List (Key × V)} (h : TK H ns tx kvs) : kvs.length = ns.length := by
  have := congrArg List.length h.key
  simpa using this
theorem TK.mem {H : Hp} {ns : List Str} {tx : Str → List Str} {kvs : List (Key × V)} (h : TK H ns tx kvs) (n : Str) : (Sum.inr n : Key) ∈ kvs.map (·.1) ↔ n ∈ ns := by
  rw [h.key, List.mem_map]
  exact ⟨fun ⟨m, hm, e⟩ => by cases e; exact hm, fun h => ⟨n, h, rfl⟩⟩
theorem TK.get {H : Hp} {ns : List Str} {tx : Str → List Str} {kvs : List (Key × V)} (h : TK H ns tx kvs) {n : Str} (hn : n ∈ ns) : ∃ p : Addr, valV kvs (.inr n) = some (.ref p) ∧ H p = some (.tup ((tx n).map V.str)) := by
  obtain ⟨v, e, hm⟩ := valV_mem ((h.mem n).mpr hn)
  obtain ⟨m, v', e', p, e1, e2⟩ := h.ent _ hm
  cases e'
  exact ⟨p, by rw [e, e1], e2⟩
theorem TK.lack {H : Hp} {ns : List Str} {tx : Str → List Str} {kvs : List (Key × V)} (h : TK H ns tx kvs) {n : Str} (hn : n ∉ ns) : valV kvs (.inr n) = none := valV_not fun z => hn ((h.mem n).mp z)
theorem TK.keys {H : Hp} {ns : List Str} {tx : Str → List Str} {kvs : List (Key × V)} (h : TK H ns tx kvs) : (kvs.map fun q => kV q.1) = ns.map V.str := by
  have : (kvs.map fun q => kV q.1) = (kvs.map (·.1)).map kV := by rw [List.map_map]; rfl
  rw [this, h.key, List.map_map]; rfl
theorem TK.nil {H : Hp} {tx : Str → List Str} : TK H [] tx [] := ⟨rfl, by simp⟩
/-- the function with one more text -/
def txPut (tx : Str → List Str) (n : Str) (ts : List Str) : Str → List Str := fun m => if m = n then ts else tx m
theorem TK.put {H : Hp} {ns : List Str} {tx : Str → List Str} {kvs : List (Key × V)} {n : Str} {p : Addr} {ts : List Str} (h : TK H ns tx kvs) (hp : H p = some (.tup (ts.map V.str))) :
    TK H (if n ∈ ns then ns else ns ++ [n]) (txPut tx n ts) (putK kvs (.inr n) (.ref p)) := by
  constructor
  · rcases putK_keys (kvs := kvs) (k := .inr n) (v := .ref p) with ⟨hm, e⟩ | ⟨hn, e⟩
    · rw [e, if_pos ((h.mem n).mp hm)]; exact h.key
    · rw [e, if_neg fun z => hn ((h.mem n).mpr z), List.map_append, h.key, List.map_append]; rfl
  · intro q hq
    rcases mem_putK hq with ⟨hq, hne⟩ | rfl
    · obtain ⟨m, v, e, p', e1, e2⟩ := h.ent q hq
      refine ⟨m, v, e, p', e1, ?_⟩
      have hmn : m ≠ n := fun z => hne (by rw [e, z])
      show H p' = some (.tup ((txPut tx n ts m).map V.str))
      unfold txPut
      rw [if_neg hmn]; exact e2
    · refine ⟨n, _, rfl, p, rfl, ?_⟩
      unfold txPut
      rw [if_pos rfl]; exact hp
theorem TxO.put {ns : List Str} {tx : Str → List Str} {n : Str} {ts : List Str} (h : TxO ns tx) (hn : NmOk n) (h3 : ts.length = 3) (hg : ∀ x ∈ ts, TxS x) : TxO (if n ∈ ns then ns else ns ++ [n]) (txPut tx n ts) := by
  constructor
  · split
    · exact h.nd
    · rename_i z
      exact nd_snoc h.nd z
  · intro m hm
    unfold txPut
    by_cases e : m = n
    · rw [if_pos e, e]; exact ⟨hn, h3, hg⟩
    · rw [if_neg e]
      have : m ∈ ns := by
        split at hm
        · exact hm
        · rcases List.mem_append.mp hm with z | z
          · exact z
          · exact absurd (List.mem_singleton.mp z) e
      exact h.ok m this
abbrev s_l_entries : Stmt := top 26
abbrev N_l_entries : List Str := ["_law_cells", "_law_plain", "_law_old", "_law_texts", "_law_gone", "_law_cell", "_law_tape_here", "_law_way", "_law_name_here"]
theorem sc_l_entries : FnScope N_l_entries ["_law_cells", "_law_plain", "_law_old"] (defScope s_l_entries) := ⟨rfl, rfl, rfl, by decide +kernel, rfl, by decide +kernel, by decide +kernel⟩
/-- what the entries of a layer are -/
structure EnO (ns gs : List Str) (tx : Str → List Str) (k : Nat) : Prop where
  tx : TxO ns tx
  gn : gs.Nodup
  go : ∀ n ∈ gs, NmOk n
  ap : ∀ n ∈ gs, n ∉ ns
  le : ns.length + gs.length ≤ k
def sp_entries (K : PySem.W.Frag) : Sp := fun vs H Q _ => ∃ (c a : Addr) (b : Bool) (ms : List Int) (os : List Str), vs = [.ref c, .bl b, .ref a] ∧ SqL K H c (ms.map V.int) ∧ (∀ z ∈ ms, bits z ≤ 1048576) ∧ ms.length ≤ 63 ∧ H a = some (.lst (os.map V.str)) ∧ (∀ n ∈ os, NmOk n) ∧ os.length ≤ 100 ∧ c ≠ a ∧
  ∀ (t d g : Addr) (ns gs os' : List Str) (tx : Str → List Str) H', But1 a H H' → H' t = some (.tup [.ref d, .ref g]) → TD H' d ns tx → EnO ns gs tx ms.length → H' g = some (.lst (gs.map V.str)) → H' a = some (.lst (os'.map V.str)) → (∀ n ∈ os', NmOk n) → os'.length ≤ os.length + ms.length → H d = none → H g = none → Q (.ref t) H'
def EnI (H : Hp) (c a d g : Addr) (b : Bool) (os : List Str) (i : Nat) (σ : St) (H' : Hp) : Prop := ∃ (ns gs os' : List Str) (tx : Str → List Str) (v5 v6 v7 v8 : Option V), σ = [some (.ref c), some (.bl b), some (.ref a), some (.ref d), some (.ref g), v5, v6, v7, v8] ∧ But1 a H H' ∧ TD H' d ns tx ∧ EnO ns gs tx i ∧ H' g = some (.lst (gs.map V.str)) ∧ H' a = some (.lst (os'.map V.str)) ∧ (∀ n ∈ os', NmOk n) ∧ os'.length ≤ os.length + i
theorem c_entries (T : Txt mg) (D : Def K mg "_law_entries" s_l_entries) (C_l_tape : Cal P w K mg base 1 "_law_tape" ["_law_cell", "_law_plain"] sp_tape) (C_l_digit : Cal P w K mg base 1 "_law_digit" ["_law_tape_here", "_law_many"] sp_digit) (C_l_name : Cal P w K mg base 2 "_law_name" ["_law_tape_here", "_law_old", "_law_most"] (sp_name K)) (C_l_parts : Cal P w K mg base 3 "_law_parts" ["_law_tape_here", "_law_plain"] sp_parts3) : Cal P w K mg base 4 "_law_entries" ["_law_cells", "_law_plain", "_law_old"] (sp_entries K) := by
  refine D.cal sc_l_entries (fun _ _ _ _ _ _ us hl => match us, hl with | [_, _, _], _ => rfl) (fun vs H Q E h => ?_) (fun f cdv A outer s H vs Q E hr h => ?_)
  · obtain ⟨c, a, b, ms, os, rfl, _⟩ := h; rfl
  · obtain ⟨c, a, b, ms, os, rfl, hc, hbs, hml, ha, ho, hol, hca, q⟩ := h
    have hu := hu_of hr
    refine ⟨_, (pss_cons (ps_set (i := 3) sc_l_entries.nd rfl (by first | exact Or.inl rfl | exact Or.inr rfl) pe_dnewK)
        (pss_cons (ps_set (i := 4) sc_l_entries.nd rfl (by first | exact Or.inl rfl | exact Or.inr rfl) (pe_lst (pa_nil)))
        (pss_cons (ps_for PassesOwn.never rfl (pi_list (pv 0)) (pg_name (i := 5) sc_l_entries.nd rfl (by first | exact Or.inl rfl | exact Or.inr rfl)) (pss_cons (ps_set (i := 6) sc_l_entries.nd rfl (by first | exact Or.inl rfl | exact Or.inr rfl) (pe_callC C_l_tape (hr.mono (by decide)) (pa_cons (pv 5) (pa_cons (pv 1) pa_nil))))
        (pss_cons (ps_set (i := 7) sc_l_entries.nd rfl (by first | exact Or.inl rfl | exact Or.inr rfl) (pe_callC C_l_digit (hr.mono (by decide)) (pa_cons (pv 6) (pa_cons pe_int pa_nil))))
        (pss_cons (ps_set (i := 8) sc_l_entries.nd rfl (by first | exact Or.inl rfl | exact Or.inr rfl) (pe_callC C_l_name (hr.mono (by decide)) (pa_cons (pv 6) (pa_cons (pv 2) (pa_cons pe_int pa_nil)))))
        (pss_cons (ps_if (pt_cmpR (r := rIn K true) op_notIn_seq (pv 8) (pv 2) rfl) (pss_one (ps_expr (pe_bm PySem.F.plainAttrs_list PySem.F.slot_list_append PySem.F.type_list_append mt_append (pv 2) (pa_cons (pv 8) pa_nil)))) pss_nil)
        (pss_one (ps_if (PW.pt (pw_and (pt_cmp (pc_dnotin hu (pv 8) (pv 3))) (pw_and1 (pt_cmpR (r := rIn K true) op_notIn_seq (pv 8) (pv 4) rfl)))) (pss_one (ps_if (pt_cmpR op_eq (pv 7) pe_int (nomark _)) (pss_one (ps_expr (pe_bm PySem.F.plainAttrs_list PySem.F.slot_list_append PySem.F.type_list_append mt_append (pv 4) (pa_cons (pv 8) pa_nil)))) (pss_one (ps_dput hu (pv 3) (pv 8) (pe_callC C_l_parts (hr.mono (by decide)) (pa_cons (pv 6) (pa_cons (pv 1) pa_nil))) rfl)))) pss_nil)))))))
        (pss_one (ps_ret (pe_tup (pa_cons (pv 3) (pa_cons (pv 4) pa_nil)))))))), ?_⟩
    have es0 : start N_l_entries [V.ref c, V.bl b, V.ref a] = [some (.ref c), some (.bl b), some (.ref a), none, none, none, none, none, none] := rfl
    rw [es0, ap_tSeq]
    simp only [ap_tVar, ap_tC, ap_t2I, ap_tAdd, ap_tSub, ap_tMul, ap_tCmp, ap_tIsN, ap_tNotN, ap_tB, ap_tAnd, ap_tOr, ap_tNot, ap_tAndV, ap_tOrV, ap_tNotV, ap_tIf, ap_tNext, ap_tBreak, ap_tCont, ap_tDrop, ap_tRet, ap_tRetN, ap_tIfS, ap_tNever, ap_gName, ap_gNil, ap_gCons, ap_gTup, ap_gSub, ap_tAsg, ap_tPar, ap_tAug, ap_tAugS, ap_ipI, ap_iList, ap_iTup, ap_iRng1, ap_iRng2, ap_tOp, ap_tUn, ap_rI, ap_rI0, ap_rU, ap_rEq, ap_rNe, ap_tTest, ap_tChain, ap_tFld, ap_tCon, ap_sFld, ap_sFldAug, ap_rAdd, ap_rSub, ap_tNil, ap_tCons, ap_tTup, ap_tLst, ap_tCall, ap_tMeth, ap_tMake, ap_tCallK, ap_tCB, ap_tNoPart, ap_tPart, ap_tSl, ap_rSlT, ap_rLtT, ap_rCatT, ap_rIxL, ap_rIxT, ap_rIxS, ap_rIx, ap_rSetL, ap_rSlL, ap_rIn, ap_tBM0, ap_tBM, ap_rAppend, ap_rExtend, ap_rPop, ap_rPopAt, ap_rReverse, ap_rClear, ap_rCat, ap_rRep, ap_rSum, ap_rMax, ap_rMin, ap_rSorted, ap_rSortedS, ap_rSort, ap_rIndex, ap_rAny, ap_rAll, ap_tYes, ap_tDGet, ap_tDIn, ap_tDNotIn, ap_sDPut, ap_sDAug, ap_sDDel, ap_tDNewK, ap_tDNewT, ap_tDisp, ap_tDGet1, ap_tDGet2, ap_tDPop1, ap_tDPop2, ap_tLock, ap_tLockE, ap_iRng3, ap_iRev, ap_iStr, ap_iKeys, ap_iVals, ap_iItems, ap_iKeysM, ap_iEnum, ap_iZip, ap_rNewStrs, ap_tM0, ap_tM1, ap_rSlS, ap_gUnl, ap_rIsB,  ap_tFor, ap_tLc, if_true, if_false, Bool.false_eq_true, Bool.true_eq_false, Bool.not_true, Bool.not_false, not_true_eq_false, not_false_eq_true, cx_K, nox_K, blk_K, List.getElem?_cons_succ, List.getElem?_cons_zero, Option.some.injEq, exists_eq_left', exists_eq_left, exists_eq, exists_eq', V.int.injEq, V.bl.injEq, V.str.injEq, V.ref.injEq, V.ty.injEq, List.cons.injEq, and_true, true_and, exists_and_left, List.set_cons_succ, List.set_cons_zero, List.append_nil, List.nil_append, and_assoc, decide_eq_true_eq, Bool.not_eq_true', decide_eq_false_iff_not, scal, List.length_cons, List.length_nil, Nat.zero_add, Nat.reduceAdd, ap_tCs, ap_tDcB, ap_tLam, ap_tSortK, ap_tDNotIn, ap_tDIn, ap_sDPut, ap_tSetDefF, ap_rLenOf, ap_rTupOf, ap_rNeE, ap_rMaxD, ap_tSortedK, ap_rSortedD, ap_tLockV, ap_rMulS, ap_iEnumS, ap_rRange, ap_rListR, ap_rListD, ap_rDictOf, ap_rNeDs, ap_rEqDs, ap_rListOf, ap_rIsO, ap_rSortedSet, ap_rSortedSA, ap_rDClear, ap_rDUpd, ap_tSl3, ap_rSameL, ap_iItemsL]
    intro d hd
    have s1 := Same.new hd (o := .dK [])
    have hd1 := upd_same (H := H) (a := d) (o := .dK [])
    generalize upd H d (.dK []) = H1 at *
    rw [ap_tSeq]
    simp only [ap_tVar, ap_tC, ap_t2I, ap_tAdd, ap_tSub, ap_tMul, ap_tCmp, ap_tIsN, ap_tNotN, ap_tB, ap_tAnd, ap_tOr, ap_tNot, ap_tAndV, ap_tOrV, ap_tNotV, ap_tIf, ap_tNext, ap_tBreak, ap_tCont, ap_tDrop, ap_tRet, ap_tRetN, ap_tIfS, ap_tNever, ap_gName, ap_gNil, ap_gCons, ap_gTup, ap_gSub, ap_tAsg, ap_tPar, ap_tAug, ap_tAugS, ap_ipI, ap_iList, ap_iTup, ap_iRng1, ap_iRng2, ap_tOp, ap_tUn, ap_rI, ap_rI0, ap_rU, ap_rEq, ap_rNe, ap_tTest, ap_tChain, ap_tFld, ap_tCon, ap_sFld, ap_sFldAug, ap_rAdd, ap_rSub, ap_tNil, ap_tCons, ap_tTup, ap_tLst, ap_tCall, ap_tMeth, ap_tMake, ap_tCallK, ap_tCB, ap_tNoPart, ap_tPart, ap_tSl, ap_rSlT, ap_rLtT, ap_rCatT, ap_rIxL, ap_rIxT, ap_rIxS, ap_rIx, ap_rSetL, ap_rSlL, ap_rIn, ap_tBM0, ap_tBM, ap_rAppend, ap_rExtend, ap_rPop, ap_rPopAt, ap_rReverse, ap_rClear, ap_rCat, ap_rRep, ap_rSum, ap_rMax, ap_rMin, ap_rSorted, ap_rSortedS, ap_rSort, ap_rIndex, ap_rAny, ap_rAll, ap_tYes, ap_tDGet, ap_tDIn, ap_tDNotIn, ap_sDPut, ap_sDAug, ap_sDDel, ap_tDNewK, ap_tDNewT, ap_tDisp, ap_tDGet1, ap_tDGet2, ap_tDPop1, ap_tDPop2, ap_tLock, ap_tLockE, ap_iRng3, ap_iRev, ap_iStr, ap_iKeys, ap_iVals, ap_iItems, ap_iKeysM, ap_iEnum, ap_iZip, ap_rNewStrs, ap_tM0, ap_tM1, ap_rSlS, ap_gUnl, ap_rIsB,  ap_tFor, ap_tLc, if_true, if_false, Bool.false_eq_true, Bool.true_eq_false, Bool.not_true, Bool.not_false, not_true_eq_false, not_false_eq_true, cx_K, nox_K, blk_K, List.getElem?_cons_succ, List.getElem?_cons_zero, Option.some.injEq, exists_eq_left', exists_eq_left, exists_eq, exists_eq', V.int.injEq, V.bl.injEq, V.str.injEq, V.ref.injEq, V.ty.injEq, List.cons.injEq, and_true, true_and, exists_and_left, List.set_cons_succ, List.set_cons_zero, List.append_nil, List.nil_append, and_assoc, decide_eq_true_eq, Bool.not_eq_true', decide_eq_false_iff_not, scal, List.length_cons, List.length_nil, Nat.zero_add, Nat.reduceAdd, ap_tCs, ap_tDcB, ap_tLam, ap_tSortK, ap_tDNotIn, ap_tDIn, ap_sDPut, ap_tSetDefF, ap_rLenOf, ap_rTupOf, ap_rNeE, ap_rMaxD, ap_tSortedK, ap_rSortedD, ap_tLockV, ap_rMulS, ap_iEnumS, ap_rRange, ap_rListR, ap_rListD, ap_rDictOf, ap_rNeDs, ap_rEqDs, ap_rListOf, ap_rIsO, ap_rSortedSet, ap_rSortedSA, ap_rDClear, ap_rDUpd, ap_tSl3, ap_rSameL, ap_iItemsL]
    refine ⟨by decide, fun g hg => ?_⟩
    have s2 := Same.new hg (o := .lst [])
    have hg2 := upd_same (H := H1) (a := g) (o := .lst [])
    have hgH := s1.free hg
    generalize upd H1 g (.lst []) = H2 at *
    have s02 := s1.trans s2
    have nad : d ≠ a := (ne_of_none ha hd).symm
    have nag : g ≠ a := (ne_of_none ha hgH).symm
    have ngd : g ≠ d := (ne_of_none hd1 hg).symm
    rw [ap_tSeq]
    simp only [ap_tVar, ap_tC, ap_t2I, ap_tAdd, ap_tSub, ap_tMul, ap_tCmp, ap_tIsN, ap_tNotN, ap_tB, ap_tAnd, ap_tOr, ap_tNot, ap_tAndV, ap_tOrV, ap_tNotV, ap_tIf, ap_tNext, ap_tBreak, ap_tCont, ap_tDrop, ap_tRet, ap_tRetN, ap_tIfS, ap_tNever, ap_gName, ap_gNil, ap_gCons, ap_gTup, ap_gSub, ap_tAsg, ap_tPar, ap_tAug, ap_tAugS, ap_ipI, ap_iList, ap_iTup, ap_iRng1, ap_iRng2, ap_tOp, ap_tUn, ap_rI, ap_rI0, ap_rU, ap_rEq, ap_rNe, ap_tTest, ap_tChain, ap_tFld, ap_tCon, ap_sFld, ap_sFldAug, ap_rAdd, ap_rSub, ap_tNil, ap_tCons, ap_tTup, ap_tLst, ap_tCall, ap_tMeth, ap_tMake, ap_tCallK, ap_tCB, ap_tNoPart, ap_tPart, ap_tSl, ap_rSlT, ap_rLtT, ap_rCatT, ap_rIxL, ap_rIxT, ap_rIxS, ap_rIx, ap_rSetL, ap_rSlL, ap_rIn, ap_tBM0, ap_tBM, ap_rAppend, ap_rExtend, ap_rPop, ap_rPopAt, ap_rReverse, ap_rClear, ap_rCat, ap_rRep, ap_rSum, ap_rMax, ap_rMin, ap_rSorted, ap_rSortedS, ap_rSort, ap_rIndex, ap_rAny, ap_rAll, ap_tYes, ap_tDGet, ap_tDIn, ap_tDNotIn, ap_sDPut, ap_sDAug, ap_sDDel, ap_tDNewK, ap_tDNewT, ap_tDisp, ap_tDGet1, ap_tDGet2, ap_tDPop1, ap_tDPop2, ap_tLock, ap_tLockE, ap_iRng3, ap_iRev, ap_iStr, ap_iKeys, ap_iVals, ap_iItems, ap_iKeysM, ap_iEnum, ap_iZip, ap_rNewStrs, ap_tM0, ap_tM1, ap_rSlS, ap_gUnl, ap_rIsB,  ap_tFor, ap_tLc, if_true, if_false, Bool.false_eq_true, Bool.true_eq_false, Bool.not_true, Bool.not_false, not_true_eq_false, not_false_eq_true, cx_K, nox_K, blk_K, List.getElem?_cons_succ, List.getElem?_cons_zero, Option.some.injEq, exists_eq_left', exists_eq_left, exists_eq, exists_eq', V.int.injEq, V.bl.injEq, V.str.injEq, V.ref.injEq, V.ty.injEq, List.cons.injEq, and_true, true_and, exists_and_left, List.set_cons_succ, List.set_cons_zero, List.append_nil, List.nil_append, and_assoc, decide_eq_true_eq, Bool.not_eq_true', decide_eq_false_iff_not, scal, List.length_cons, List.length_nil, Nat.zero_add, Nat.reduceAdd, ap_tCs, ap_tDcB, ap_tLam, ap_tSortK, ap_tDNotIn, ap_tDIn, ap_sDPut, ap_tSetDefF, ap_rLenOf, ap_rTupOf, ap_rNeE, ap_rMaxD, ap_tSortedK, ap_rSortedD, ap_tLockV, ap_rMulS, ap_iEnumS, ap_rRange, ap_rListR, ap_rListD, ap_rDictOf, ap_rNeDs, ap_rEqDs, ap_rListOf, ap_rIsO, ap_rSortedSet, ap_rSortedSA, ap_rDClear, ap_rDUpd, ap_tSl3, ap_rSameL, ap_iItemsL]
    refine ⟨⟨_, s02.sqL hc⟩, ?_⟩
    refine forB_list (xs := ms.map V.int) (EnI H c a d g b os) ⟨[], [], os, fun _ => [], none, none, none, none, rfl, But1.of s02, ⟨[], s2 _ _ hd1, TK.nil⟩, ⟨⟨List.nodup_nil, by simp⟩, List.nodup_nil, by simp, by simp, Nat.le_refl _⟩, hg2, s02 _ _ ha, ho, Nat.le_refl _⟩ (fun i σ H' _ J => by obtain ⟨_, _, _, _, _, _, _, _, _, J, _⟩ := J; exact But1.sqL J hc hca) ?_ ?_
    · rintro i v σ H3 hv ⟨ns, gs, os', tx, v5, v6, v7, v8, rfl, b3, hD, hO, hg3, ha3, ho3, hol3⟩
      obtain ⟨z, hz, rfl⟩ : ∃ z, ms[i]? = some z ∧ v = .int z := by
        rw [List.getElem?_map] at hv
        obtain ⟨z, e1, e2⟩ := Option.map_eq_some_iff.mp hv
        exact ⟨z, e1, e2.symm⟩
      have hi : i < ms.length := (List.getElem?_eq_some_iff.mp hz).1
      rw [ap_gName]
      dsimp only
      rw [ap_tSeq]
      simp only [ap_tVar, ap_tC, ap_t2I, ap_tAdd, ap_tSub, ap_tMul, ap_tCmp, ap_tIsN, ap_tNotN, ap_tB, ap_tAnd, ap_tOr, ap_tNot, ap_tAndV, ap_tOrV, ap_tNotV, ap_tIf, ap_tNext, ap_tBreak, ap_tCont, ap_tDrop, ap_tRet, ap_tRetN, ap_tIfS, ap_tNever, ap_gName, ap_gNil, ap_gCons, ap_gTup, ap_gSub, ap_tAsg, ap_tPar, ap_tAug, ap_tAugS, ap_ipI, ap_iList, ap_iTup, ap_iRng1, ap_iRng2, ap_tOp, ap_tUn, ap_rI, ap_rI0, ap_rU, ap_rEq, ap_rNe, ap_tTest, ap_tChain, ap_tFld, ap_tCon, ap_sFld, ap_sFldAug, ap_rAdd, ap_rSub, ap_tNil, ap_tCons, ap_tTup, ap_tLst, ap_tCall, ap_tMeth, ap_tMake, ap_tCallK, ap_tCB, ap_tNoPart, ap_tPart, ap_tSl, ap_rSlT, ap_rLtT, ap_rCatT, ap_rIxL, ap_rIxT, ap_rIxS, ap_rIx, ap_rSetL, ap_rSlL, ap_rIn, ap_tBM0, ap_tBM, ap_rAppend, ap_rExtend, ap_rPop, ap_rPopAt, ap_rReverse, ap_rClear, ap_rCat, ap_rRep, ap_rSum, ap_rMax, ap_rMin, ap_rSorted, ap_rSortedS, ap_rSort, ap_rIndex, ap_rAny, ap_rAll, ap_tYes, ap_tDGet, ap_tDIn, ap_tDNotIn, ap_sDPut, ap_sDAug, ap_sDDel, ap_tDNewK, ap_tDNewT, ap_tDisp, ap_tDGet1, ap_tDGet2, ap_tDPop1, ap_tDPop2, ap_tLock, ap_tLockE, ap_iRng3, ap_iRev, ap_iStr, ap_iKeys, ap_iVals, ap_iItems, ap_iKeysM, ap_iEnum, ap_iZip, ap_rNewStrs, ap_tM0, ap_tM1, ap_rSlS, ap_gUnl, ap_rIsB,  ap_tFor, ap_tLc, if_true, if_false, Bool.false_eq_true, Bool.true_eq_false, Bool.not_true, Bool.not_false, not_true_eq_false, not_false_eq_true, cx_K, nox_K, blk_K, List.getElem?_cons_succ, List.getElem?_cons_zero, Option.some.injEq, exists_eq_left', exists_eq_left, exists_eq, exists_eq', V.int.injEq, V.bl.injEq, V.str.injEq, V.ref.injEq, V.ty.injEq, List.cons.injEq, and_true, true_and, exists_and_left, List.set_cons_succ, List.set_cons_zero, List.append_nil, List.nil_append, and_assoc, decide_eq_true_eq, Bool.not_eq_true', decide_eq_false_iff_not, scal, List.length_cons, List.length_nil, Nat.zero_add, Nat.reduceAdd, ap_tCs, ap_tDcB, ap_tLam, ap_tSortK, ap_tDNotIn, ap_tDIn, ap_sDPut, ap_tSetDefF, ap_rLenOf, ap_rTupOf, ap_rNeE, ap_rMaxD, ap_tSortedK, ap_rSortedD, ap_tLockV, ap_rMulS, ap_iEnumS, ap_rRange, ap_rListR, ap_rListD, ap_rDictOf, ap_rNeDs, ap_rEqDs, ap_rListOf, ap_rIsO, ap_rSortedSet, ap_rSortedSA, ap_rDClear, ap_rDUpd, ap_tSl3, ap_rSameL, ap_iItemsL, sp_tape]
      refine ⟨hbs z (List.mem_of_getElem? hz), fun p H4 hp0 s4 t4 => ?_⟩
      rw [ap_tSeq]
      simp only [ap_tVar, ap_tC, ap_t2I, ap_tAdd, ap_tSub, ap_tMul, ap_tCmp, ap_tIsN, ap_tNotN, ap_tB, ap_tAnd, ap_tOr, ap_tNot, ap_tAndV, ap_tOrV, ap_tNotV, ap_tIf, ap_tNext, ap_tBreak, ap_tCont, ap_tDrop, ap_tRet, ap_tRetN, ap_tIfS, ap_tNever, ap_gName, ap_gNil, ap_gCons, ap_gTup, ap_gSub, ap_tAsg, ap_tPar, ap_tAug, ap_tAugS, ap_ipI, ap_iList, ap_iTup, ap_iRng1, ap_iRng2, ap_tOp, ap_tUn, ap_rI, ap_rI0, ap_rU, ap_rEq, ap_rNe, ap_tTest, ap_tChain, ap_tFld, ap_tCon, ap_sFld, ap_sFldAug, ap_rAdd, ap_rSub, ap_tNil, ap_tCons, ap_tTup, ap_tLst, ap_tCall, ap_tMeth, ap_tMake, ap_tCallK, ap_tCB, ap_tNoPart, ap_tPart, ap_tSl, ap_rSlT, ap_rLtT, ap_rCatT, ap_rIxL, ap_rIxT, ap_rIxS, ap_rIx, ap_rSetL, ap_rSlL, ap_rIn, ap_tBM0, ap_tBM, ap_rAppend, ap_rExtend, ap_rPop, ap_rPopAt, ap_rReverse, ap_rClear, ap_rCat, ap_rRep, ap_rSum, ap_rMax, ap_rMin, ap_rSorted, ap_rSortedS, ap_rSort, ap_rIndex, ap_rAny, ap_rAll, ap_tYes, ap_tDGet, ap_tDIn, ap_tDNotIn, ap_sDPut, ap_sDAug, ap_sDDel, ap_tDNewK, ap_tDNewT, ap_tDisp, ap_tDGet1, ap_tDGet2, ap_tDPop1, ap_tDPop2, ap_tLock, ap_tLockE, ap_iRng3, ap_iRev, ap_iStr, ap_iKeys, ap_iVals, ap_iItems, ap_iKeysM, ap_iEnum, ap_iZip, ap_rNewStrs, ap_tM0, ap_tM1, ap_rSlS, ap_gUnl, ap_rIsB,  ap_tFor, ap_tLc, if_true, if_false, Bool.false_eq_true, Bool.true_eq_false, Bool.not_true, Bool.not_false, not_true_eq_false, not_false_eq_true, cx_K, nox_K, blk_K, List.getElem?_cons_succ, List.getElem?_cons_zero, Option.some.injEq, exists_eq_left', exists_eq_left, exists_eq, exists_eq', V.int.injEq, V.bl.injEq, V.str.injEq, V.ref.injEq, V.ty.injEq, List.cons.injEq, and_true, true_and, exists_and_left, List.set_cons_succ, List.set_cons_zero, List.append_nil, List.nil_append, and_assoc, decide_eq_true_eq, Bool.not_eq_true', decide_eq_false_iff_not, scal, List.length_cons, List.length_nil, Nat.zero_add, Nat.reduceAdd, ap_tCs, ap_tDcB, ap_tLam, ap_tSortK, ap_tDNotIn, ap_tDIn, ap_sDPut, ap_tSetDefF, ap_rLenOf, ap_rTupOf, ap_rNeE, ap_rMaxD, ap_tSortedK, ap_rSortedD, ap_tLockV, ap_rMulS, ap_iEnumS, ap_rRange, ap_rListR, ap_rListD, ap_rDictOf, ap_rNeDs, ap_rEqDs, ap_rListOf, ap_rIsO, ap_rSortedSet, ap_rSortedSA, ap_rDClear, ap_rDUpd, ap_tSl3, ap_rSameL, ap_iItemsL, sp_digit]
      refine ⟨by decide, by decide, t4, fun way H5 w0 w1 t5 b5 => ?_⟩
      have s35 : Same H3 H5 := But1.same s4 hp0 b5
      have npa : p ≠ a := (ne_of_none ha3 hp0).symm
      rw [ap_tSeq]
      simp only [ap_tVar, ap_tC, ap_t2I, ap_tAdd, ap_tSub, ap_tMul, ap_tCmp, ap_tIsN, ap_tNotN, ap_tB, ap_tAnd, ap_tOr, ap_tNot, ap_tAndV, ap_tOrV, ap_tNotV, ap_tIf, ap_tNext, ap_tBreak, ap_tCont, ap_tDrop, ap_tRet, ap_tRetN, ap_tIfS, ap_tNever, ap_gName, ap_gNil, ap_gCons, ap_gTup, ap_gSub, ap_tAsg, ap_tPar, ap_tAug, ap_tAugS, ap_ipI, ap_iList, ap_iTup, ap_iRng1, ap_iRng2, ap_tOp, ap_tUn, ap_rI, ap_rI0, ap_rU, ap_rEq, ap_rNe, ap_tTest, ap_tChain, ap_tFld, ap_tCon, ap_sFld, ap_sFldAug, ap_rAdd, ap_rSub, ap_tNil, ap_tCons, ap_tTup, ap_tLst, ap_tCall, ap_tMeth, ap_tMake, ap_tCallK, ap_tCB, ap_tNoPart, ap_tPart, ap_tSl, ap_rSlT, ap_rLtT, ap_rCatT, ap_rIxL, ap_rIxT, ap_rIxS, ap_rIx, ap_rSetL, ap_rSlL, ap_rIn, ap_tBM0, ap_tBM, ap_rAppend, ap_rExtend, ap_rPop, ap_rPopAt, ap_rReverse, ap_rClear, ap_rCat, ap_rRep, ap_rSum, ap_rMax, ap_rMin, ap_rSorted, ap_rSortedS, ap_rSort, ap_rIndex, ap_rAny, ap_rAll, ap_tYes, ap_tDGet, ap_tDIn, ap_tDNotIn, ap_sDPut, ap_sDAug, ap_sDDel, ap_tDNewK, ap_tDNewT, ap_tDisp, ap_tDGet1, ap_tDGet2, ap_tDPop1, ap_tDPop2, ap_tLock, ap_tLockE, ap_iRng3, ap_iRev, ap_iStr, ap_iKeys, ap_iVals, ap_iItems, ap_iKeysM, ap_iEnum, ap_iZip, ap_rNewStrs, ap_tM0, ap_tM1, ap_rSlS, ap_gUnl, ap_rIsB,  ap_tFor, ap_tLc, if_true, if_false, Bool.false_eq_true, Bool.true_eq_false, Bool.not_true, Bool.not_false, not_true_eq_false, not_false_eq_true, cx_K, nox_K, blk_K, List.getElem?_cons_succ, List.getElem?_cons_zero, Option.some.injEq, exists_eq_left', exists_eq_left, exists_eq, exists_eq', V.int.injEq, V.bl.injEq, V.str.injEq, V.ref.injEq, V.ty.injEq, List.cons.injEq, and_true, true_and, exists_and_left, List.set_cons_succ, List.set_cons_zero, List.append_nil, List.nil_append, and_assoc, decide_eq_true_eq, Bool.not_eq_true', decide_eq_false_iff_not, scal, List.length_cons, List.length_nil, Nat.zero_add, Nat.reduceAdd, ap_tCs, ap_tDcB, ap_tLam, ap_tSortK, ap_tDNotIn, ap_tDIn, ap_sDPut, ap_tSetDefF, ap_rLenOf, ap_rTupOf, ap_rNeE, ap_rMaxD, ap_tSortedK, ap_rSortedD, ap_tLockV, ap_rMulS, ap_iEnumS, ap_rRange, ap_rListR, ap_rListD, ap_rDictOf, ap_rNeDs, ap_rEqDs, ap_rListOf, ap_rIsO, ap_rSortedSet, ap_rSortedSA, ap_rDClear, ap_rDUpd, ap_tSl3, ap_rSameL, ap_iItemsL, sp_name]
      refine ⟨t5, os', .of (s35 _ _ ha3), ho3, by decide, by omega, npa, fun nm H6 hnm hfew t6 b6 => ?_⟩
      have s36 : Same H3 H6 := But1.same s35 hp0 b6
      have hD6 := hD.same s36
      have hpH : H p = none := by
        cases e : H p with
        | none => rfl
        | some o => rw [b3 p o e npa] at hp0; cases hp0
      have hg6 := s36 _ _ hg3
      have ha6 := s36 _ _ ha3
      have b06 := b3.trans (But1.of (p := a) s36)
      clear s36 s35 s4 hfew
      rw [ap_tSeq]
      refine nx_gen fun nx hnx => ?_
      have cont : ∀ (H7 : Hp) (os2 : List Str), But1 a H H7 → TpAt H7 p → TD H7 d ns tx → H7 g = some (.lst (gs.map V.str)) → H7 a = some (.lst (os2.map V.str)) → (∀ n ∈ os2, NmOk n) → os2.length ≤ os.length + (i + 1) →
          nx [some (V.ref c), some (V.bl b), some (V.ref a), some (V.ref d), some (V.ref g), some (V.int z), some (V.ref p), some (V.int way), some (V.str nm)] H7 := fun H7 os2 b7 t7 hD7 hg7 ha7 ho7 hl7 => by
        rw [hnx]
        dsimp only
        obtain ⟨kvs, hk7, k7⟩ := id hD7
        have same : EnI H c a d g b os (i + 1) [some (V.ref c), some (V.bl b), some (V.ref a), some (V.ref d), some (V.ref g), some (V.int z), some (V.ref p), some (V.int way), some (V.str nm)] H7 :=
          ⟨ns, gs, os2, tx, _, _, _, _, rfl, b7, hD7, ⟨hO.tx, hO.gn, hO.go, hO.ap, by have := hO.le; omega⟩, hg7, ha7, ho7, hl7⟩
        simp only [ap_tVar, ap_tC, ap_t2I, ap_tAdd, ap_tSub, ap_tMul, ap_tCmp, ap_tIsN, ap_tNotN, ap_tB, ap_tAnd, ap_tOr, ap_tNot, ap_tAndV, ap_tOrV, ap_tNotV, ap_tIf, ap_tNext, ap_tBreak, ap_tCont, ap_tDrop, ap_tRet, ap_tRetN, ap_tIfS, ap_tNever, ap_gName, ap_gNil, ap_gCons, ap_gTup, ap_gSub, ap_tAsg, ap_tPar, ap_tAug, ap_tAugS, ap_ipI, ap_iList, ap_iTup, ap_iRng1, ap_iRng2, ap_tOp, ap_tUn, ap_rI, ap_rI0, ap_rU, ap_rEq, ap_rNe, ap_tTest, ap_tChain, ap_tFld, ap_tCon, ap_sFld, ap_sFldAug, ap_rAdd, ap_rSub, ap_tNil, ap_tCons, ap_tTup, ap_tLst, ap_tCall, ap_tMeth, ap_tMake, ap_tCallK, ap_tCB, ap_tNoPart, ap_tPart, ap_tSl, ap_rSlT, ap_rLtT, ap_rCatT, ap_rIxL, ap_rIxT, ap_rIxS, ap_rIx, ap_rSetL, ap_rSlL, ap_rIn, ap_tBM0, ap_tBM, ap_rAppend, ap_rExtend, ap_rPop, ap_rPopAt, ap_rReverse, ap_rClear, ap_rCat, ap_rRep, ap_rSum, ap_rMax, ap_rMin, ap_rSorted, ap_rSortedS, ap_rSort, ap_rIndex, ap_rAny, ap_rAll, ap_tYes, ap_tDGet, ap_tDIn, ap_tDNotIn, ap_sDPut, ap_sDAug, ap_sDDel, ap_tDNewK, ap_tDNewT, ap_tDisp, ap_tDGet1, ap_tDGet2, ap_tDPop1, ap_tDPop2, ap_tLock, ap_tLockE, ap_iRng3, ap_iRev, ap_iStr, ap_iKeys, ap_iVals, ap_iItems, ap_iKeysM, ap_iEnum, ap_iZip, ap_rNewStrs, ap_tM0, ap_tM1, ap_rSlS, ap_gUnl, ap_rIsB,  ap_tFor, ap_tLc, if_true, if_false, Bool.false_eq_true, Bool.true_eq_false, Bool.not_true, Bool.not_false, not_true_eq_false, not_false_eq_true, cx_K, nox_K, blk_K, List.getElem?_cons_succ, List.getElem?_cons_zero, Option.some.injEq, exists_eq_left', exists_eq_left, exists_eq, exists_eq', V.int.injEq, V.bl.injEq, V.str.injEq, V.ref.injEq, V.ty.injEq, List.cons.injEq, and_true, true_and, exists_and_left, List.set_cons_succ, List.set_cons_zero, List.append_nil, List.nil_append, and_assoc, decide_eq_true_eq, Bool.not_eq_true', decide_eq_false_iff_not, scal, List.length_cons, List.length_nil, Nat.zero_add, Nat.reduceAdd, ap_tCs, ap_tDcB, ap_tLam, ap_tSortK, ap_tDNotIn, ap_tDIn, ap_sDPut, ap_tSetDefF, ap_rLenOf, ap_rTupOf, ap_rNeE, ap_rMaxD, ap_tSortedK, ap_rSortedD, ap_tLockV, ap_rMulS, ap_iEnumS, ap_rRange, ap_rListR, ap_rListD, ap_rDictOf, ap_rNeDs, ap_rEqDs, ap_rListOf, ap_rIsO, ap_rSortedSet, ap_rSortedSA, ap_rDClear, ap_rDUpd, ap_tSl3, ap_rSameL, ap_iItemsL, sp_parts3]
        refine ⟨_, .inl ⟨kvs, .inr nm, .inl hk7, rfl, rfl⟩, ite2 (fun hn => ?_) (fun _ => same)⟩
        have hns : nm ∉ ns := fun h => by
          obtain ⟨q, e, _⟩ := k7.get h
          rw [e] at hn; cases hn
        refine ⟨_, .inl (.of hg7), rfl, flat_strs _, ?_⟩
        rw [in_strs]
        refine ite2 (fun hn2 => ?_) (fun _ => same)
        have hgs : nm ∉ gs := by simpa using hn2
        have hle := hO.le
        refine ite2 (fun _ => ⟨.inl ⟨rfl, _, .of hg7⟩, _, hg7, by rw [List.length_map]; exact small1000 (by omega), ?_⟩) (fun _ => ?_)
        · refine ⟨ns, gs ++ [nm], os2, tx, _, _, _, _, rfl, fun u o e n => ?_, hD7.but hg7 (by intro xs z; cases z) ngd.symm But1.put, ⟨hO.tx, nd_snoc hO.gn hgs, fun n hn => ?_, fun n hn => ?_, by simp; omega⟩, by rw [List.map_append]; exact upd_same, by rw [upd_ne nag.symm]; exact ha7, ho7, hl7⟩
          · rw [upd_ne (ne_of_none e hgH)]; exact b7 u o e n
          · rcases List.mem_append.mp hn with h | h
            · exact hO.go n h
            · rw [List.mem_singleton.mp h]; exact hnm
          · rcases List.mem_append.mp hn with h | h
            · exact hO.ap n h
            · rw [List.mem_singleton.mp h]; exact hns
        · refine ⟨t7, fun t ts H8 h3 hts ht8 t8 b8 => ?_⟩
          obtain ⟨tx7, ty7, e7⟩ := id t7
          have npd : d ≠ p := ne_of hk7 e7 (by intro z; cases z)
          have ngp : g ≠ p := fun z => by subst z; rw [hg7] at e7; cases gs <;> simp at e7
          have hD8 := hD7.but e7 (by intro xs z; cases z) npd b8
          obtain ⟨kvs8, hk8, k8⟩ := hD8
          have hlk := k8.len
          refine ⟨_, .inl ⟨kvs8, .inr nm, hk8, rfl, small1000 (by omega), rfl⟩, ns ++ [nm], gs, os2, txPut tx nm ts, _, _, _, _, rfl, fun u o e n => ?_, ⟨_, upd_same, ?_⟩, ⟨?_, hO.gn, hO.go, fun n hn hm => ?_, by simp; omega⟩, ?_, ?_, ho7, hl7⟩
          · rw [upd_ne (ne_of_none e hd)]
            exact b8 _ _ (b7 u o e n) (ne_of_none e (hpH))
          · have := k8.put (n := nm) ht8
            rw [if_neg hns] at this
            exact this.tk (.upd hk8 (by intro xs z; cases z))
          · have := hO.tx.put hnm h3 hts
            rw [if_neg hns] at this
            exact this
          · rcases List.mem_append.mp hm with h | h
            · exact hO.ap n hn h
            · rw [List.mem_singleton.mp h] at hn; exact hgs hn
          · rw [upd_ne ngd]; exact b8 _ _ hg7 ngp
          · rw [upd_ne nad.symm]; exact b8 _ _ ha7 (ne_of_none ha3 hp0)
      simp only [ap_tVar, ap_tC, ap_t2I, ap_tAdd, ap_tSub, ap_tMul, ap_tCmp, ap_tIsN, ap_tNotN, ap_tB, ap_tAnd, ap_tOr, ap_tNot, ap_tAndV, ap_tOrV, ap_tNotV, ap_tIf, ap_tNext, ap_tBreak, ap_tCont, ap_tDrop, ap_tRet, ap_tRetN, ap_tIfS, ap_tNever, ap_gName, ap_gNil, ap_gCons, ap_gTup, ap_gSub, ap_tAsg, ap_tPar, ap_tAug, ap_tAugS, ap_ipI, ap_iList, ap_iTup, ap_iRng1, ap_iRng2, ap_tOp, ap_tUn, ap_rI, ap_rI0, ap_rU, ap_rEq, ap_rNe, ap_tTest, ap_tChain, ap_tFld, ap_tCon, ap_sFld, ap_sFldAug, ap_rAdd, ap_rSub, ap_tNil, ap_tCons, ap_tTup, ap_tLst, ap_tCall, ap_tMeth, ap_tMake, ap_tCallK, ap_tCB, ap_tNoPart, ap_tPart, ap_tSl, ap_rSlT, ap_rLtT, ap_rCatT, ap_rIxL, ap_rIxT, ap_rIxS, ap_rIx, ap_rSetL, ap_rSlL, ap_rIn, ap_tBM0, ap_tBM, ap_rAppend, ap_rExtend, ap_rPop, ap_rPopAt, ap_rReverse, ap_rClear, ap_rCat, ap_rRep, ap_rSum, ap_rMax, ap_rMin, ap_rSorted, ap_rSortedS, ap_rSort, ap_rIndex, ap_rAny, ap_rAll, ap_tYes, ap_tDGet, ap_tDIn, ap_tDNotIn, ap_sDPut, ap_sDAug, ap_sDDel, ap_tDNewK, ap_tDNewT, ap_tDisp, ap_tDGet1, ap_tDGet2, ap_tDPop1, ap_tDPop2, ap_tLock, ap_tLockE, ap_iRng3, ap_iRev, ap_iStr, ap_iKeys, ap_iVals, ap_iItems, ap_iKeysM, ap_iEnum, ap_iZip, ap_rNewStrs, ap_tM0, ap_tM1, ap_rSlS, ap_gUnl, ap_rIsB,  ap_tFor, ap_tLc, if_true, if_false, Bool.false_eq_true, Bool.true_eq_false, Bool.not_true, Bool.not_false, not_true_eq_false, not_false_eq_true, cx_K, nox_K, blk_K, List.getElem?_cons_succ, List.getElem?_cons_zero, Option.some.injEq, exists_eq_left', exists_eq_left, exists_eq, exists_eq', V.int.injEq, V.bl.injEq, V.str.injEq, V.ref.injEq, V.ty.injEq, List.cons.injEq, and_true, true_and, exists_and_left, List.set_cons_succ, List.set_cons_zero, List.append_nil, List.nil_append, and_assoc, decide_eq_true_eq, Bool.not_eq_true', decide_eq_false_iff_not, scal, List.length_cons, List.length_nil, Nat.zero_add, Nat.reduceAdd, ap_tCs, ap_tDcB, ap_tLam, ap_tSortK, ap_tDNotIn, ap_tDIn, ap_sDPut, ap_tSetDefF, ap_rLenOf, ap_rTupOf, ap_rNeE, ap_rMaxD, ap_tSortedK, ap_rSortedD, ap_tLockV, ap_rMulS, ap_iEnumS, ap_rRange, ap_rListR, ap_rListD, ap_rDictOf, ap_rNeDs, ap_rEqDs, ap_rListOf, ap_rIsO, ap_rSortedSet, ap_rSortedSA, ap_rDClear, ap_rDUpd, ap_tSl3, ap_rSameL, ap_iItemsL]
      refine ⟨_, .inl (.of ha6), rfl, flat_strs _, ?_⟩
      rw [in_strs]
      refine ite2 (fun _ => ⟨.inl ⟨rfl, _, .of ha6⟩, _, ha6, by rw [List.length_map]; exact small1000 (by omega), ?_⟩) (fun _ => cont H6 os' b06 t6 hD6 hg6 ha6 ho3 (by omega))
      obtain ⟨tx6, ty6, e6⟩ := id t6
      refine cont _ (os' ++ [nm]) (b06.trans But1.put) ⟨tx6, ty6, by rw [upd_ne npa]; exact e6⟩ (hD6.but ha6 (by intro xs z; cases z) nad But1.put) (by rw [upd_ne nag]; exact hg6) (by rw [List.map_append]; exact upd_same) (fun n hn => ?_) (by simp; omega)
      rcases List.mem_append.mp hn with h | h
      · exact ho3 n h
      · rw [List.mem_singleton.mp h]; exact hnm
    · rintro σ H3 ⟨ns, gs, os', tx, v5, v6, v7, v8, rfl, b3, hD, hO, hg3, ha3, ho3, hol3⟩
      rw [List.length_map] at hO hol3
      simp only [ap_tVar, ap_tC, ap_t2I, ap_tAdd, ap_tSub, ap_tMul, ap_tCmp, ap_tIsN, ap_tNotN, ap_tB, ap_tAnd, ap_tOr, ap_tNot, ap_tAndV, ap_tOrV, ap_tNotV, ap_tIf, ap_tNext, ap_tSeq, ap_tBreak, ap_tCont, ap_tDrop, ap_tRet, ap_tRetN, ap_tIfS, ap_tNever, ap_gName, ap_gNil, ap_gCons, ap_gTup, ap_gSub, ap_tAsg, ap_tPar, ap_tAug, ap_tAugS, ap_ipI, ap_iList, ap_iTup, ap_iRng1, ap_iRng2, ap_tOp, ap_tUn, ap_rI, ap_rI0, ap_rU, ap_rEq, ap_rNe, ap_tTest, ap_tChain, ap_tFld, ap_tCon, ap_sFld, ap_sFldAug, ap_rAdd, ap_rSub, ap_tNil, ap_tCons, ap_tTup, ap_tLst, ap_tCall, ap_tMeth, ap_tMake, ap_tCallK, ap_tCB, ap_tNoPart, ap_tPart, ap_tSl, ap_rSlT, ap_rLtT, ap_rCatT, ap_rIxL, ap_rIxT, ap_rIxS, ap_rIx, ap_rSetL, ap_rSlL, ap_rIn, ap_tBM0, ap_tBM, ap_rAppend, ap_rExtend, ap_rPop, ap_rPopAt, ap_rReverse, ap_rClear, ap_rCat, ap_rRep, ap_rSum, ap_rMax, ap_rMin, ap_rSorted, ap_rSortedS, ap_rSort, ap_rIndex, ap_rAny, ap_rAll, ap_tYes, ap_tDGet, ap_tDIn, ap_tDNotIn, ap_sDPut, ap_sDAug, ap_sDDel, ap_tDNewK, ap_tDNewT, ap_tDisp, ap_tDGet1, ap_tDGet2, ap_tDPop1, ap_tDPop2, ap_tLock, ap_tLockE, ap_iRng3, ap_iRev, ap_iStr, ap_iKeys, ap_iVals, ap_iItems, ap_iKeysM, ap_iEnum, ap_iZip, ap_rNewStrs, ap_tM0, ap_tM1, ap_rSlS, ap_gUnl, ap_rIsB,  ap_tFor, ap_tLc, if_true, if_false, Bool.false_eq_true, Bool.true_eq_false, Bool.not_true, Bool.not_false, not_true_eq_false, not_false_eq_true, cx_K, nox_K, blk_K, List.getElem?_cons_succ, List.getElem?_cons_zero, Option.some.injEq, exists_eq_left', exists_eq_left, exists_eq, exists_eq', V.int.injEq, V.bl.injEq, V.str.injEq, V.ref.injEq, V.ty.injEq, List.cons.injEq, and_true, true_and, exists_and_left, List.set_cons_succ, List.set_cons_zero, List.append_nil, List.nil_append, and_assoc, decide_eq_true_eq, Bool.not_eq_true', decide_eq_false_iff_not, scal, List.length_cons, List.length_nil, Nat.zero_add, Nat.reduceAdd, ap_tCs, ap_tDcB, ap_tLam, ap_tSortK, ap_tDNotIn, ap_tDIn, ap_sDPut, ap_tSetDefF, ap_rLenOf, ap_rTupOf, ap_rNeE, ap_rMaxD, ap_tSortedK, ap_rSortedD, ap_tLockV, ap_rMulS, ap_iEnumS, ap_rRange, ap_rListR, ap_rListD, ap_rDictOf, ap_rNeDs, ap_rEqDs, ap_rListOf, ap_rIsO, ap_rSortedSet, ap_rSortedSA, ap_rDClear, ap_rDUpd, ap_tSl3, ap_rSameL, ap_iItemsL]
      refine ⟨by decide, fun t ht => ?_⟩
      have s4 := Same.new ht (o := .tup [V.ref d, V.ref g])
      exact q t d g ns gs os' tx _ (b3.trans (But1.of s4)) upd_same (hD.same s4) hO (s4 _ _ hg3) (s4 _ _ ha3) ho3 hol3 hd hgH
end
end My
set_option maxHeartbeats 4000000

namespace My
open PySem L2
section
variable {P : Program} {w : World} {K : PySem.W.Frag} {mg : Str → Option Value} {base : Heap}
theorem txPut_self (tx : Str → List Str) (n : Str) : txPut tx n (tx n) = tx := by
  funext m
  unfold txPut
  by_cases h : m = n
  · rw [if_pos h, h]
  · rw [if_neg h]
theorem not_take {ys : List Str} {i : Nat} {n : Str} (hn : ys.Nodup) (h : ys[i]? = some n) : n ∉ ys.take i := fun hm => by
  obtain ⟨j, hj⟩ := List.mem_iff_getElem?.mp hm
  rw [List.getElem?_take] at hj
  split at hj
  · rename_i hji
    obtain ⟨hj1, hj2⟩ := List.getElem?_eq_some_iff.mp hj
    obtain ⟨hi1, hi2⟩ := List.getElem?_eq_some_iff.mp h
    exact List.pairwise_iff_getElem.mp hn j i hj1 hi1 hji (by rw [hj2, hi2])
  · cases hj
/-- a turn of a dict comprehension over names -/
theorem TK.turn {H1 H H5 : Hp} {Dd p : Addr} {ys : List Str} {tx : Str → List Str} {i : Nat} {n : Str} {acc : List (Key × V)} (hD : H1 Dd = none) (I : DcI H1 Dd (fun acc H => TK H (ys.take i) tx acc) acc H) (s : Same H H5) (nd : ys.Nodup) (hk : ys[i]? = some n) (hl : ys.length ≤ 1000) (hp : H5 p = some (.tup ((tx n).map V.str))) :
    DcNext H1 Dd (fun i acc H => TK H (ys.take i) tx acc) i (.str n) (.ref p) H5 := by
  have hi : i < ys.length := (List.getElem?_eq_some_iff.mp hk).1
  have hal := I.pv.len
  rw [List.length_take] at hal
  refine DcNext.mk (k := .inr n) hD I s (small1000 (by omega)) ?_
  have k1 := (I.pv.tk (.of s)).put (n := n) hp
  rw [txPut_self, if_neg (not_take nd hk), ← take_next hk] at k1
  exact k1.tk (.upd (s _ _ I.at_) (by intro xs z; cases z))
/-- a layer's object -/
def lyF (x kp gn : Addr) : List (Str × V) := [("rules", .ref x), ("kept_parts", .ref kp), ("gone_names", .ref gn)]
structure LyO (ns gs : List Str) (tx : Str → List Str) : Prop where
  e : EnO ns gs tx 300
  s1 : PyProof.Rows.sortedS ns = true
  s2 : PyProof.Rows.sortedS gs = true
def LyP (CL : Addr) (H : Hp) (l x kp gn : Addr) (ns gs : List Str) (tx : Str → List Str) : Prop := LyO ns gs tx ∧ ∃ dx, H l = some (.ins CL dx (lyF x kp gn)) ∧ TD H kp ns tx ∧ H gn = some (.lst (gs.map V.str))
def LyAt (CL : Addr) (H : Hp) (l x : Addr) (ns gs : List Str) (tx : Str → List Str) : Prop := LyO ns gs tx ∧ ∃ dx kp gn, H l = some (.ins CL dx (lyF x kp gn)) ∧ TD H kp ns tx ∧ H gn = some (.lst (gs.map V.str))
theorem LyP.at_ {CL : Addr} {H : Hp} {l x kp gn : Addr} {ns gs : List Str} {tx : Str → List Str} (h : LyP CL H l x kp gn ns gs tx) : LyAt CL H l x ns gs tx := by
  obtain ⟨o, dx, h1, h2, h3⟩ := h
  exact ⟨o, dx, kp, gn, h1, h2, h3⟩
theorem LyP.write {CL : Addr} {H : Hp} {l x kp gn a : Addr} {ns gs : List Str} {tx : Str → List Str} {o u : HO} (h : LyP CL H l x kp gn ns gs tx) (n1 : a ≠ l) (n2 : a ≠ kp) (n3 : a ≠ gn) (ha : H a = some u) (hu : ∀ xs, u ≠ .tup xs) : LyP CL (upd H a o) l x kp gn ns gs tx := by
  obtain ⟨ho, dx, h1, h2, h3⟩ := h
  exact ⟨ho, dx, by rw [upd_ne n1.symm]; exact h1, h2.but ha hu n2.symm But1.put, by rw [upd_ne n3.symm]; exact h3⟩
theorem LyP.same {CL : Addr} {H H' : Hp} {l x kp gn : Addr} {ns gs : List Str} {tx : Str → List Str} (h : LyP CL H l x kp gn ns gs tx) (s : Same H H') : LyP CL H' l x kp gn ns gs tx := by
  obtain ⟨ho, dx, h1, h2, h3⟩ := h
  exact ⟨ho, dx, s _ _ h1, h2.same s, s _ _ h3⟩
theorem but1_none {p q : Addr} {H H' : Hp} (b : But1 p H H') (h : H' q = none) (n : q ≠ p) : H q = none := by
  cases e : H q with
  | none => rfl
  | some o => rw [b q o e n] at h; cases h
theorem LyAt.same {CL : Addr} {H H' : Hp} {l x : Addr} {ns gs : List Str} {tx : Str → List Str} (h : LyAt CL H l x ns gs tx) (s : Same H H') : LyAt CL H' l x ns gs tx := by
  obtain ⟨o, dx, kp, gn, h1, h2, h3⟩ := h
  exact ⟨o, dx, kp, gn, s _ _ h1, h2.same s, s _ _ h3⟩
abbrev s_Layer_init : Stmt := inClass (top 2) 0
abbrev N_Layer_init : List Str := ["self", "rulebook", "texts", "gone", "name"]
theorem sc_Layer_init : FnScope N_Layer_init ["self", "rulebook", "texts", "gone"] (defScope s_Layer_init) := ⟨rfl, rfl, rfl, by decide +kernel, rfl, by decide +kernel, by decide +kernel⟩
def sp_lyI (K : PySem.W.Frag) (CL : Addr) : Sp := fun vs H Q _ => ∃ (l x d g dx : Addr) (ns gs : List Str) (tx : Str → List Str), vs = [.ref l, .ref x, .ref d, .ref g] ∧ H l = some (.ins CL dx []) ∧ TD H d ns tx ∧ TxO ns tx ∧ SqL K H g (gs.map V.str) ∧ (∀ n ∈ gs, NmOk n) ∧ (∀ n ∈ gs, n ∉ ns) ∧ ns.length + gs.length ≤ 300 ∧
  ∀ (kp gn : Addr) (ns' gs' : List Str) H', But1 l H H' → LyP CL H' l x kp gn ns' gs' tx → H kp = none → H gn = none → ns'.Perm ns → gs'.Perm (dedS gs) → Q .non H'
theorem c_lyI (T : Txt mg) {CL f : Addr} {cv : Value} (F : FunV K "__init__" "Layer.__init__" s_Layer_init f cv) (M : Mk K CL f) (hm : mg "Layer" = some (.ref CL)) (cls : Cls K CL) (na1 : NoAttr K CL "rules") (na2 : NoAttr K CL "kept_parts") (na3 : NoAttr K CL "gone_names") :
    MCal P w K mg base 1 "Layer" CL ["self", "rulebook", "texts", "gone"] (sp_lyI K CL) := by
  refine F.init M hm sc_Layer_init (fun vs H Q E h => ?_) (fun _ _ _ _ _ _ us hl => match us, hl with | [_, _, _, _], _ => rfl) (fun A outer s H vs Q E hr h => ?_)
  · obtain ⟨l, x, d, g, dx, ns, gs, tx, rfl, _⟩ := h; rfl
  · obtain ⟨l, x, d, g, dx, ns, gs, tx, rfl, hl, hd, hO, hg, hgo, hgn, hle, q⟩ := h
    have hu := hu_of hr
    refine ⟨_, (pss_cons (ps_fld (pv 0) (pv 1) rfl)
        (pss_cons (ps_fld (pv 0) (pe_dc (own := [("name", 4)]) (g := (gName 4)) (by rfl) sc_Layer_init.nd (pi_list (pe_callB (cr_sortedD rfl) (by rfl) T.n_sorted (by decide +kernel) (pa_cons (pv 2) pa_nil))) (blkOk_by (own := [("name", 4)]) (N := N_Layer_init) (sc := defScope s_Layer_init) (by decide +kernel)) (fun _ _ _ _ _ => (pg_name (i := 4) sc_Layer_init.nd rfl (by first | exact Or.inl rfl | exact Or.inr rfl))) (fun _ _ _ _ _ => pts_nil) (fun _ _ _ _ _ => (pv 4)) (fun _ _ _ _ _ => (pe_callTy (r := rTupOf K) (T := "tuple") call_tupleK (by rfl) T.n_tuple (by decide +kernel) (pa_cons (pe_dget hu (pv 2) (pv 4) (fun _ _ => rfl)) pa_nil)))) rfl)
        (pss_one (ps_fld (pv 0) (pe_callB (cr_sortedSet rfl) (by rfl) T.n_sorted (by decide +kernel) (pa_cons (pe_callTy (call_setL rfl) (by rfl) T.n_set (by decide +kernel) (pa_cons (pv 3) pa_nil)) pa_nil)) rfl)))), ?_⟩
    have es0 : start N_Layer_init [V.ref l, V.ref x, V.ref d, V.ref g] = [some (.ref l), some (.ref x), some (.ref d), some (.ref g), none] := rfl
    rw [es0, ap_tSeq]
    simp only [ap_tVar, ap_tC, ap_t2I, ap_tAdd, ap_tSub, ap_tMul, ap_tCmp, ap_tIsN, ap_tNotN, ap_tB, ap_tAnd, ap_tOr, ap_tNot, ap_tAndV, ap_tOrV, ap_tNotV, ap_tIf, ap_tNext, ap_tBreak, ap_tCont, ap_tDrop, ap_tRet, ap_tRetN, ap_tIfS, ap_tNever, ap_gName, ap_gNil, ap_gCons, ap_gTup, ap_gSub, ap_tAsg, ap_tPar, ap_tAug, ap_tAugS, ap_ipI, ap_iList, ap_iTup, ap_iRng1, ap_iRng2, ap_tOp, ap_tUn, ap_rI, ap_rI0, ap_rU, ap_rEq, ap_rNe, ap_tTest, ap_tChain, ap_tFld, ap_tCon, ap_sFld, ap_sFldAug, ap_rAdd, ap_rSub, ap_tNil, ap_tCons, ap_tTup, ap_tLst, ap_tCall, ap_tMeth, ap_tMake, ap_tCallK, ap_tCB, ap_tNoPart, ap_tPart, ap_tSl, ap_rSlT, ap_rLtT, ap_rCatT, ap_rIxL, ap_rIxT, ap_rIxS, ap_rIx, ap_rSetL, ap_rSlL, ap_rIn, ap_tBM0, ap_tBM, ap_rAppend, ap_rExtend, ap_rPop, ap_rPopAt, ap_rReverse, ap_rClear, ap_rCat, ap_rRep, ap_rSum, ap_rMax, ap_rMin, ap_rSorted, ap_rSortedS, ap_rSort, ap_rIndex, ap_rAny, ap_rAll, ap_tYes, ap_tDGet, ap_tDIn, ap_tDNotIn, ap_sDPut, ap_sDAug, ap_sDDel, ap_tDNewK, ap_tDNewT, ap_tDisp, ap_tDGet1, ap_tDGet2, ap_tDPop1, ap_tDPop2, ap_tLock, ap_tLockE, ap_iRng3, ap_iRev, ap_iStr, ap_iKeys, ap_iVals, ap_iItems, ap_iKeysM, ap_iEnum, ap_iZip, ap_rNewStrs, ap_tM0, ap_tM1, ap_rSlS, ap_gUnl, ap_rIsB,  ap_tFor, ap_tLc, if_true, if_false, Bool.false_eq_true, Bool.true_eq_false, Bool.not_true, Bool.not_false, not_true_eq_false, not_false_eq_true, cx_K, nox_K, blk_K, List.getElem?_cons_succ, List.getElem?_cons_zero, Option.some.injEq, exists_eq_left', exists_eq_left, exists_eq, exists_eq', V.int.injEq, V.bl.injEq, V.str.injEq, V.ref.injEq, V.ty.injEq, List.cons.injEq, and_true, true_and, exists_and_left, List.set_cons_succ, List.set_cons_zero, List.append_nil, List.nil_append, and_assoc, decide_eq_true_eq, Bool.not_eq_true', decide_eq_false_iff_not, scal, List.length_cons, List.length_nil, Nat.zero_add, Nat.reduceAdd, ap_tCs, ap_tDcB, ap_tLam, ap_tSortK, ap_tDNotIn, ap_tDIn, ap_sDPut, ap_tSetDefF, ap_rLenOf, ap_rTupOf, ap_rNeE, ap_rMaxD, ap_tSortedK, ap_rSortedD, ap_tLockV, ap_rMulS, ap_iEnumS, ap_rRange, ap_rListR, ap_rListD, ap_rDictOf, ap_rNeDs, ap_rEqDs, ap_rListOf, ap_rIsO, ap_rSortedSet, ap_rSortedSA, ap_rDClear, ap_rDUpd, ap_tSl3, ap_rSameL, ap_iItemsL]
    refine ⟨CL, dx, _, hl, cls, na1, by decide, ?_⟩
    have hl1 : upd H l (.ins CL dx (putF "rules" (V.ref x) [])) l = some (.ins CL dx [("rules", V.ref x)]) := upd_same
    have k1 : But1 l H (upd H l (.ins CL dx (putF "rules" (V.ref x) []))) := But1.put
    generalize upd H l (.ins CL dx (putF "rules" (V.ref x) [])) = H1 at *
    have nl : ∀ {a : Addr} {xs : List V}, SqL K H a xs → a ≠ l → SqL K H1 a xs := fun h n => But1.sqL k1 h n
    obtain ⟨kvs, hd0, kd0⟩ := id hd
    have ndl : d ≠ l := ne_of hd0 hl (by intro z; cases z)
    obtain ⟨kvs1, hd1, kd⟩ := hd.but hl (by intro xs z; cases z) ndl k1
    have hg1 : SqL K H1 g (gs.map V.str) := by
      rcases hg with (h | ⟨o, h⟩) | h
      · exact .inl (.inl (k1 _ _ h (ne_of h hl (by intro z; cases z))))
      · exact .inl (.inr ⟨o, k1 _ _ h (ne_of h hl (by intro z; cases z))⟩)
      · exact .inr h
    rw [ap_tSeq]
    simp only [ap_tVar, ap_tC, ap_t2I, ap_tAdd, ap_tSub, ap_tMul, ap_tCmp, ap_tIsN, ap_tNotN, ap_tB, ap_tAnd, ap_tOr, ap_tNot, ap_tAndV, ap_tOrV, ap_tNotV, ap_tIf, ap_tNext, ap_tBreak, ap_tCont, ap_tDrop, ap_tRet, ap_tRetN, ap_tIfS, ap_tNever, ap_gName, ap_gNil, ap_gCons, ap_gTup, ap_gSub, ap_tAsg, ap_tPar, ap_tAug, ap_tAugS, ap_ipI, ap_iList, ap_iTup, ap_iRng1, ap_iRng2, ap_tOp, ap_tUn, ap_rI, ap_rI0, ap_rU, ap_rEq, ap_rNe, ap_tTest, ap_tChain, ap_tFld, ap_tCon, ap_sFld, ap_sFldAug, ap_rAdd, ap_rSub, ap_tNil, ap_tCons, ap_tTup, ap_tLst, ap_tCall, ap_tMeth, ap_tMake, ap_tCallK, ap_tCB, ap_tNoPart, ap_tPart, ap_tSl, ap_rSlT, ap_rLtT, ap_rCatT, ap_rIxL, ap_rIxT, ap_rIxS, ap_rIx, ap_rSetL, ap_rSlL, ap_rIn, ap_tBM0, ap_tBM, ap_rAppend, ap_rExtend, ap_rPop, ap_rPopAt, ap_rReverse, ap_rClear, ap_rCat, ap_rRep, ap_rSum, ap_rMax, ap_rMin, ap_rSorted, ap_rSortedS, ap_rSort, ap_rIndex, ap_rAny, ap_rAll, ap_tYes, ap_tDGet, ap_tDIn, ap_tDNotIn, ap_sDPut, ap_sDAug, ap_sDDel, ap_tDNewK, ap_tDNewT, ap_tDisp, ap_tDGet1, ap_tDGet2, ap_tDPop1, ap_tDPop2, ap_tLock, ap_tLockE, ap_iRng3, ap_iRev, ap_iStr, ap_iKeys, ap_iVals, ap_iItems, ap_iKeysM, ap_iEnum, ap_iZip, ap_rNewStrs, ap_tM0, ap_tM1, ap_rSlS, ap_gUnl, ap_rIsB,  ap_tFor, ap_tLc, if_true, if_false, Bool.false_eq_true, Bool.true_eq_false, Bool.not_true, Bool.not_false, not_true_eq_false, not_false_eq_true, cx_K, nox_K, blk_K, List.getElem?_cons_succ, List.getElem?_cons_zero, Option.some.injEq, exists_eq_left', exists_eq_left, exists_eq, exists_eq', V.int.injEq, V.bl.injEq, V.str.injEq, V.ref.injEq, V.ty.injEq, List.cons.injEq, and_true, true_and, exists_and_left, List.set_cons_succ, List.set_cons_zero, List.append_nil, List.nil_append, and_assoc, decide_eq_true_eq, Bool.not_eq_true', decide_eq_false_iff_not, scal, List.length_cons, List.length_nil, Nat.zero_add, Nat.reduceAdd, ap_tCs, ap_tDcB, ap_tLam, ap_tSortK, ap_tDNotIn, ap_tDIn, ap_sDPut, ap_tSetDefF, ap_rLenOf, ap_rTupOf, ap_rNeE, ap_rMaxD, ap_tSortedK, ap_rSortedD, ap_tLockV, ap_rMulS, ap_iEnumS, ap_rRange, ap_rListR, ap_rListD, ap_rDictOf, ap_rNeDs, ap_rEqDs, ap_rListOf, ap_rIsO, ap_rSortedSet, ap_rSortedSA, ap_rDClear, ap_rDUpd, ap_tSl3, ap_rSameL, ap_iItemsL]
    refine ⟨kvs1, .inl hd1, ns, kd.keys, fun ys p hys hsrt hp => ?_⟩
    have hyn : ys.Nodup := hys.nodup_iff.mpr hO.nd
    have hyl : ys.length ≤ 300 := by rw [hys.length_eq]; omega
    have s2 := Same.new hp (o := .lst (ys.map V.str))
    have hp2 := upd_same (H := H1) (a := p) (o := .lst (ys.map V.str))
    generalize upd H1 p (.lst (ys.map V.str)) = H2 at *
    refine ⟨⟨_, .of hp2⟩, fun Dk hDk => ?_⟩
    refine dcM_list hDk (.of hp2) (fun i acc H => TK H (ys.take i) tx acc) TK.nil ?_ ?_
    · intro i v acc H3 hv I
      obtain ⟨n, hn, rfl⟩ : ∃ n, ys[i]? = some n ∧ v = .str n := by
        rw [List.getElem?_map] at hv
        obtain ⟨n, e1, e2⟩ := Option.map_eq_some_iff.mp hv
        exact ⟨n, e1, e2.symm⟩
      have s3 := s2.trans I.same
      obtain ⟨p0, hv0, hp0⟩ := (kd.tk (.of s3)).get (hys.mem_iff.mp (List.mem_of_getElem? hn))
      simp only [ap_tVar, ap_tC, ap_t2I, ap_tAdd, ap_tSub, ap_tMul, ap_tCmp, ap_tIsN, ap_tNotN, ap_tB, ap_tAnd, ap_tOr, ap_tNot, ap_tAndV, ap_tOrV, ap_tNotV, ap_tIf, ap_tNext, ap_tBreak, ap_tCont, ap_tDrop, ap_tRet, ap_tRetN, ap_tIfS, ap_tNever, ap_gName, ap_gNil, ap_gCons, ap_gTup, ap_gSub, ap_tAsg, ap_tPar, ap_tAug, ap_tAugS, ap_ipI, ap_iList, ap_iTup, ap_iRng1, ap_iRng2, ap_tOp, ap_tUn, ap_rI, ap_rI0, ap_rU, ap_rEq, ap_rNe, ap_tTest, ap_tChain, ap_tFld, ap_tCon, ap_sFld, ap_sFldAug, ap_rAdd, ap_rSub, ap_tNil, ap_tCons, ap_tTup, ap_tLst, ap_tCall, ap_tMeth, ap_tMake, ap_tCallK, ap_tCB, ap_tNoPart, ap_tPart, ap_tSl, ap_rSlT, ap_rLtT, ap_rCatT, ap_rIxL, ap_rIxT, ap_rIxS, ap_rIx, ap_rSetL, ap_rSlL, ap_rIn, ap_tBM0, ap_tBM, ap_rAppend, ap_rExtend, ap_rPop, ap_rPopAt, ap_rReverse, ap_rClear, ap_rCat, ap_rRep, ap_rSum, ap_rMax, ap_rMin, ap_rSorted, ap_rSortedS, ap_rSort, ap_rIndex, ap_rAny, ap_rAll, ap_tYes, ap_tDGet, ap_tDIn, ap_tDNotIn, ap_sDPut, ap_sDAug, ap_sDDel, ap_tDNewK, ap_tDNewT, ap_tDisp, ap_tDGet1, ap_tDGet2, ap_tDPop1, ap_tDPop2, ap_tLock, ap_tLockE, ap_iRng3, ap_iRev, ap_iStr, ap_iKeys, ap_iVals, ap_iItems, ap_iKeysM, ap_iEnum, ap_iZip, ap_rNewStrs, ap_tM0, ap_tM1, ap_rSlS, ap_gUnl, ap_rIsB,  ap_tFor, ap_tLc, if_true, if_false, Bool.false_eq_true, Bool.true_eq_false, Bool.not_true, Bool.not_false, not_true_eq_false, not_false_eq_true, cx_K, nox_K, blk_K, List.getElem?_cons_succ, List.getElem?_cons_zero, Option.some.injEq, exists_eq_left', exists_eq_left, exists_eq, exists_eq', V.int.injEq, V.bl.injEq, V.str.injEq, V.ref.injEq, V.ty.injEq, List.cons.injEq, and_true, true_and, exists_and_left, List.set_cons_succ, List.set_cons_zero, List.append_nil, List.nil_append, and_assoc, decide_eq_true_eq, Bool.not_eq_true', decide_eq_false_iff_not, scal, List.length_cons, List.length_nil, Nat.zero_add, Nat.reduceAdd, ap_tCs, ap_tDcB, ap_tLam, ap_tSortK, ap_tDNotIn, ap_tDIn, ap_sDPut, ap_tSetDefF, ap_rLenOf, ap_rTupOf, ap_rNeE, ap_rMaxD, ap_tSortedK, ap_rSortedD, ap_tLockV, ap_rMulS, ap_iEnumS, ap_rRange, ap_rListR, ap_rListD, ap_rDictOf, ap_rNeDs, ap_rEqDs, ap_rListOf, ap_rIsO, ap_rSortedSet, ap_rSortedSA, ap_rDClear, ap_rDUpd, ap_tSl3, ap_rSameL, ap_iItemsL]
      refine ⟨rfl, _, rfl, _, rfl, _, rfl, d, rfl, _, .inl ⟨kvs1, .inr n, .inl (s3 _ _ hd1), rfl, hv0.symm⟩, p0, rfl, _, .inr ⟨.of hp0, ?_⟩⟩
      exact TK.turn hDk I (Same.refl _) hyn hn (by omega) hp0
    intro acc H3 I
    have ka := I.pv
    rw [List.length_map, List.take_length] at ka
    have hDk3 := I.at_
    have s3 := s2.trans I.same
    have hDk0 : H1 Dk = none := s2.free hDk
    have nDl : Dk ≠ l := Ne.symm (ne_of_none hl1 hDk0)
    refine ⟨CL, dx, _, s3 _ _ hl1, cls, na2, Nat.lt_of_sub_ne_zero (by simp), ?_⟩
    have hl4 : upd H3 l (.ins CL dx (putF "kept_parts" (V.ref Dk) [("rules", V.ref x)])) l = some (.ins CL dx [("rules", V.ref x), ("kept_parts", V.ref Dk)]) := upd_same
    have k4 : But1 l H3 (upd H3 l (.ins CL dx (putF "kept_parts" (V.ref Dk) [("rules", V.ref x)]))) := But1.put
    have t4 : Tk H3 (upd H3 l (.ins CL dx (putF "kept_parts" (V.ref Dk) [("rules", V.ref x)]))) := Tk.upd (s3 _ _ hl1) (by intro xs z; cases z)
    have hg4 : SqL K (upd H3 l (.ins CL dx (putF "kept_parts" (V.ref Dk) [("rules", V.ref x)]))) g (gs.map V.str) := by
      have e := s3 _ _ hl1
      rcases s3.sqL hg1 with (h | ⟨o, h⟩) | h
      · exact .inl (.inl (k4 _ _ h (ne_of h e (by intro z; cases z))))
      · exact .inl (.inr ⟨o, k4 _ _ h (ne_of h e (by intro z; cases z))⟩)
      · exact .inr h
    generalize upd H3 l (.ins CL dx (putF "kept_parts" (V.ref Dk) [("rules", V.ref x)])) = H4 at *
    have k04 : But1 l H H4 := (k1.trans (But1.of s3)).trans k4
    have hDk4 := k4 _ _ hDk3 nDl
    have kd4 := ka.tk t4
    refine ⟨g, gs, rfl, hg4, by omega, fun p2 hp2' => ⟨p2, rfl, gs, upd_same, by omega, fun zs r hzs hzsrt hr2 => ?_⟩⟩
    have s5 := Same.new hp2' (o := setHO P w p2 gs)
    have s6 := Same.new hr2 (o := .lst (zs.map V.str))
    have hr6 : upd (upd H4 p2 (setHO P w p2 gs)) r (.lst (zs.map V.str)) r = some (.lst (zs.map V.str)) := upd_same
    have s56 := s5.trans s6
    refine ⟨CL, dx, _, s56 _ _ hl4, cls, na3, Nat.lt_of_sub_ne_zero (by simp), ?_⟩
    have e6 := s56 _ _ hl4
    have hl0 := s56 _ _ hl4
    have hDk6 := s56 _ _ hDk4
    have kd6 := kd4.tk (.of s56)
    have nrl : r ≠ l := Ne.symm (ne_of_none (s5 _ _ hl4) hr2)
    have kk : But1 l H (upd (upd (upd H4 p2 (setHO P w p2 gs)) r (.lst (zs.map V.str))) l (.ins CL dx (lyF x Dk r))) := (k04.trans (But1.of s56)).trans But1.put
    have hgmem : ∀ n ∈ zs, n ∈ gs := fun n hn => (mem_dedS gs n).mp (hzs.mem_iff.mp hn)
    have hgl : zs.length ≤ gs.length := by rw [hzs.length_eq]; exact dedS_le gs
    refine q Dk r ys zs _ kk ⟨⟨⟨⟨hyn, fun n hn => hO.ok n (hys.mem_iff.mp hn)⟩, hzs.nodup_iff.mpr (dedS_nodup gs), fun n hn => hgo n (hgmem n hn), fun n hn hm => hgn n (hgmem n hn) (hys.mem_iff.mp hm), ?_⟩, hsrt, hzsrt⟩, dx, upd_same, ⟨acc, by rw [upd_ne nDl]; exact hDk6, kd6.tk (.upd e6 (by intro xs z; cases z))⟩, by rw [upd_ne nrl]; exact hr6⟩ (but1_none k1 hDk0 nDl) (but1_none k04 (s5.free hr2) nrl) hys hzs
    rw [hys.length_eq]; omega
abbrev s_Layer_names : Stmt := inClass (top 2) 1
abbrev N_Layer_names : List Str := ["self"]
theorem sc_Layer_names : FnScope N_Layer_names ["self"] (defScope s_Layer_names) := ⟨rfl, rfl, rfl, by decide +kernel, rfl, by decide +kernel, by decide +kernel⟩
def sp_lyn (CL : Addr) : Sp := fun vs H Q _ => ∃ (l x : Addr) (ns gs : List Str) (tx : Str → List Str), vs = [.ref l] ∧ LyAt CL H l x ns gs tx ∧ ∀ (r : Addr) (ys : List Str) H', Same H H' → H r = none → H' r = some (.lst (ys.map V.str)) → ys.Perm (ns ++ gs) → PyProof.Rows.sortedS ys = true → Q (.ref r) H'
theorem c_lyn (T : Txt mg) {CL f : Addr} {cdv : Value} (F : FunV K "names" "Layer.names" s_Layer_names f cdv) (M : Meth K CL "names" f) (cls : Cls K CL) (na2 : NoAttr K CL "kept_parts") (na3 : NoAttr K CL "gone_names") : Mth P w K mg base 1 CL "names" ["self"] (sp_lyn CL) := by
  refine F.mth cls M sc_Layer_names (fun vs H Q E h => ?_) (fun _ _ _ _ _ _ us hl => match us, hl with | [_], _ => rfl) (fun A outer s H vs Q E hr h => ?_)
  · obtain ⟨l, x, ns, gs, tx, rfl, _⟩ := h; rfl
  · obtain ⟨l, x, ns, gs, tx, rfl, ⟨hO, dx, kp, gn, hl, ⟨kvs, hkp, kd⟩, hgn⟩, q⟩ := h
    refine ⟨_, (pss_one (ps_ret (pe_callB cr_sortedSA (by rfl) T.n_sorted (by decide +kernel) (pa_cons (pe_op op_cat (pe_callTy (call_listD rfl) (by rfl) T.n_list (by decide +kernel) (pa_cons (pe_fld (pv 0) rfl) pa_nil)) (pe_fld (pv 0) rfl)) pa_nil)))), ?_⟩
    have es0 : start N_Layer_names [V.ref l] = [some (.ref l)] := rfl
    rw [es0]
    simp only [ap_tVar, ap_tC, ap_t2I, ap_tAdd, ap_tSub, ap_tMul, ap_tCmp, ap_tIsN, ap_tNotN, ap_tB, ap_tAnd, ap_tOr, ap_tNot, ap_tAndV, ap_tOrV, ap_tNotV, ap_tIf, ap_tNext, ap_tSeq, ap_tBreak, ap_tCont, ap_tDrop, ap_tRet, ap_tRetN, ap_tIfS, ap_tNever, ap_gName, ap_gNil, ap_gCons, ap_gTup, ap_gSub, ap_tAsg, ap_tPar, ap_tAug, ap_tAugS, ap_ipI, ap_iList, ap_iTup, ap_iRng1, ap_iRng2, ap_tOp, ap_tUn, ap_rI, ap_rI0, ap_rU, ap_rEq, ap_rNe, ap_tTest, ap_tChain, ap_tFld, ap_tCon, ap_sFld, ap_sFldAug, ap_rAdd, ap_rSub, ap_tNil, ap_tCons, ap_tTup, ap_tLst, ap_tCall, ap_tMeth, ap_tMake, ap_tCallK, ap_tCB, ap_tNoPart, ap_tPart, ap_tSl, ap_rSlT, ap_rLtT, ap_rCatT, ap_rIxL, ap_rIxT, ap_rIxS, ap_rIx, ap_rSetL, ap_rSlL, ap_rIn, ap_tBM0, ap_tBM, ap_rAppend, ap_rExtend, ap_rPop, ap_rPopAt, ap_rReverse, ap_rClear, ap_rCat, ap_rRep, ap_rSum, ap_rMax, ap_rMin, ap_rSorted, ap_rSortedS, ap_rSort, ap_rIndex, ap_rAny, ap_rAll, ap_tYes, ap_tDGet, ap_tDIn, ap_tDNotIn, ap_sDPut, ap_sDAug, ap_sDDel, ap_tDNewK, ap_tDNewT, ap_tDisp, ap_tDGet1, ap_tDGet2, ap_tDPop1, ap_tDPop2, ap_tLock, ap_tLockE, ap_iRng3, ap_iRev, ap_iStr, ap_iKeys, ap_iVals, ap_iItems, ap_iKeysM, ap_iEnum, ap_iZip, ap_rNewStrs, ap_tM0, ap_tM1, ap_rSlS, ap_gUnl, ap_rIsB,  ap_tFor, ap_tLc, if_true, if_false, Bool.false_eq_true, Bool.true_eq_false, Bool.not_true, Bool.not_false, not_true_eq_false, not_false_eq_true, cx_K, nox_K, blk_K, List.getElem?_cons_succ, List.getElem?_cons_zero, Option.some.injEq, exists_eq_left', exists_eq_left, exists_eq, exists_eq', V.int.injEq, V.bl.injEq, V.str.injEq, V.ref.injEq, V.ty.injEq, List.cons.injEq, and_true, true_and, exists_and_left, List.set_cons_succ, List.set_cons_zero, List.append_nil, List.nil_append, and_assoc, decide_eq_true_eq, Bool.not_eq_true', decide_eq_false_iff_not, scal, List.length_cons, List.length_nil, Nat.zero_add, Nat.reduceAdd, ap_tCs, ap_tDcB, ap_tLam, ap_tSortK, ap_tDNotIn, ap_tDIn, ap_sDPut, ap_tSetDefF, ap_rLenOf, ap_rTupOf, ap_rNeE, ap_rMaxD, ap_tSortedK, ap_rSortedD, ap_tLockV, ap_rMulS, ap_iEnumS, ap_rRange, ap_rListR, ap_rListD, ap_rDictOf, ap_rNeDs, ap_rEqDs, ap_rListOf, ap_rIsO, ap_rSortedSet, ap_rSortedSA, ap_rDClear, ap_rDUpd, ap_tSl3, ap_rSameL, ap_iItemsL]
    have hle := hO.e.le
    refine ⟨CL, dx, _, hl, cls, na2, _, rfl, kp, rfl, kvs, .inl hkp, fun p hp => ?_⟩
    rw [kd.keys]
    have s1 := Same.new hp (o := .lst (ns.map V.str))
    have hp1 := upd_same (H := H) (a := p) (o := .lst (ns.map V.str))
    generalize upd H p (.lst (ns.map V.str)) = H1 at *
    refine ⟨CL, dx, _, s1 _ _ hl, cls, na3, _, rfl, gn, rfl, _, hp1, _, s1 _ _ hgn, by simp only [List.length_map]; exact Nat.le_of_lt (small1000 (by omega)), fun p2 hp2 => ?_⟩
    have e2 : ns.map V.str ++ gs.map V.str = (ns ++ gs).map V.str := by rw [List.map_append]
    rw [e2]
    have s2 := Same.new hp2 (o := .lst ((ns ++ gs).map V.str))
    have h2 := upd_same (H := H1) (a := p2) (o := .lst ((ns ++ gs).map V.str))
    generalize upd H1 p2 (.lst ((ns ++ gs).map V.str)) = H2 at *
    refine ⟨ns ++ gs, .of h2, fun ys r hys hsrt hr2 => ?_⟩
    exact q r ys _ ((s1.trans s2).trans (Same.new hr2)) ((s1.trans s2).free hr2) upd_same hys hsrt
abbrev s_Layer_gone : Stmt := inClass (top 2) 2
abbrev N_Layer_gone : List Str := ["self"]
theorem sc_Layer_gone : FnScope N_Layer_gone ["self"] (defScope s_Layer_gone) := ⟨rfl, rfl, rfl, by decide +kernel, rfl, by decide +kernel, by decide +kernel⟩
def sp_lyg (CL : Addr) : Sp := fun vs H Q _ => ∃ (l x : Addr) (ns gs : List Str) (tx : Str → List Str), vs = [.ref l] ∧ LyAt CL H l x ns gs tx ∧ ∀ (r : Addr) H', Same H H' → H r = none → H' r = some (.lst (gs.map V.str)) → Q (.ref r) H'
theorem c_lyg (T : Txt mg) {CL f : Addr} {cdv : Value} (F : FunV K "gone" "Layer.gone" s_Layer_gone f cdv) (M : Meth K CL "gone" f) (cls : Cls K CL) (na3 : NoAttr K CL "gone_names") : Mth P w K mg base 1 CL "gone" ["self"] (sp_lyg CL) := by
  refine F.mth cls M sc_Layer_gone (fun vs H Q E h => ?_) (fun _ _ _ _ _ _ us hl => match us, hl with | [_], _ => rfl) (fun A outer s H vs Q E hr h => ?_)
  · obtain ⟨l, x, ns, gs, tx, rfl, _⟩ := h; rfl
  · obtain ⟨l, x, ns, gs, tx, rfl, ⟨hO, dx, kp, gn, hl, hkp, hgn⟩, q⟩ := h
    refine ⟨_, (pss_one (ps_ret (pe_callTy call_list_of (by rfl) T.n_list (by decide +kernel) (pa_cons (pe_fld (pv 0) rfl) pa_nil)))), ?_⟩
    have es0 : start N_Layer_gone [V.ref l] = [some (.ref l)] := rfl
    rw [es0]
    simp only [ap_tVar, ap_tC, ap_t2I, ap_tAdd, ap_tSub, ap_tMul, ap_tCmp, ap_tIsN, ap_tNotN, ap_tB, ap_tAnd, ap_tOr, ap_tNot, ap_tAndV, ap_tOrV, ap_tNotV, ap_tIf, ap_tNext, ap_tSeq, ap_tBreak, ap_tCont, ap_tDrop, ap_tRet, ap_tRetN, ap_tIfS, ap_tNever, ap_gName, ap_gNil, ap_gCons, ap_gTup, ap_gSub, ap_tAsg, ap_tPar, ap_tAug, ap_tAugS, ap_ipI, ap_iList, ap_iTup, ap_iRng1, ap_iRng2, ap_tOp, ap_tUn, ap_rI, ap_rI0, ap_rU, ap_rEq, ap_rNe, ap_tTest, ap_tChain, ap_tFld, ap_tCon, ap_sFld, ap_sFldAug, ap_rAdd, ap_rSub, ap_tNil, ap_tCons, ap_tTup, ap_tLst, ap_tCall, ap_tMeth, ap_tMake, ap_tCallK, ap_tCB, ap_tNoPart, ap_tPart, ap_tSl, ap_rSlT, ap_rLtT, ap_rCatT, ap_rIxL, ap_rIxT, ap_rIxS, ap_rIx, ap_rSetL, ap_rSlL, ap_rIn, ap_tBM0, ap_tBM, ap_rAppend, ap_rExtend, ap_rPop, ap_rPopAt, ap_rReverse, ap_rClear, ap_rCat, ap_rRep, ap_rSum, ap_rMax, ap_rMin, ap_rSorted, ap_rSortedS, ap_rSort, ap_rIndex, ap_rAny, ap_rAll, ap_tYes, ap_tDGet, ap_tDIn, ap_tDNotIn, ap_sDPut, ap_sDAug, ap_sDDel, ap_tDNewK, ap_tDNewT, ap_tDisp, ap_tDGet1, ap_tDGet2, ap_tDPop1, ap_tDPop2, ap_tLock, ap_tLockE, ap_iRng3, ap_iRev, ap_iStr, ap_iKeys, ap_iVals, ap_iItems, ap_iKeysM, ap_iEnum, ap_iZip, ap_rNewStrs, ap_tM0, ap_tM1, ap_rSlS, ap_gUnl, ap_rIsB,  ap_tFor, ap_tLc, if_true, if_false, Bool.false_eq_true, Bool.true_eq_false, Bool.not_true, Bool.not_false, not_true_eq_false, not_false_eq_true, cx_K, nox_K, blk_K, List.getElem?_cons_succ, List.getElem?_cons_zero, Option.some.injEq, exists_eq_left', exists_eq_left, exists_eq, exists_eq', V.int.injEq, V.bl.injEq, V.str.injEq, V.ref.injEq, V.ty.injEq, List.cons.injEq, and_true, true_and, exists_and_left, List.set_cons_succ, List.set_cons_zero, List.append_nil, List.nil_append, and_assoc, decide_eq_true_eq, Bool.not_eq_true', decide_eq_false_iff_not, scal, List.length_cons, List.length_nil, Nat.zero_add, Nat.reduceAdd, ap_tCs, ap_tDcB, ap_tLam, ap_tSortK, ap_tDNotIn, ap_tDIn, ap_sDPut, ap_tSetDefF, ap_rLenOf, ap_rTupOf, ap_rNeE, ap_rMaxD, ap_tSortedK, ap_rSortedD, ap_tLockV, ap_rMulS, ap_iEnumS, ap_rRange, ap_rListR, ap_rListD, ap_rDictOf, ap_rNeDs, ap_rEqDs, ap_rListOf, ap_rIsO, ap_rSortedSet, ap_rSortedSA, ap_rDClear, ap_rDUpd, ap_tSl3, ap_rSameL, ap_iItemsL]
    refine ⟨CL, dx, _, hl, cls, na3, _, rfl, ?_⟩
    exact ⟨gn, rfl, _, .inl (.of hgn), fun r hr => q r _ (Same.new hr) hr upd_same⟩
abbrev s_Layer_texts : Stmt := inClass (top 2) 3
abbrev N_Layer_texts : List Str := ["self", "name"]
theorem sc_Layer_texts : FnScope N_Layer_texts ["self"] (defScope s_Layer_texts) := ⟨rfl, rfl, rfl, by decide +kernel, rfl, by decide +kernel, by decide +kernel⟩
def sp_lyt (CL : Addr) : Sp := fun vs H Q _ => ∃ (l x : Addr) (ns gs : List Str) (tx : Str → List Str), vs = [.ref l] ∧ LyAt CL H l x ns gs tx ∧ ∀ (r : Addr) H', Same H H' → H r = none → TD H' r ns tx → Q (.ref r) H'
theorem c_lyt (T : Txt mg) {CL f : Addr} {cdv : Value} (F : FunV K "texts" "Layer.texts" s_Layer_texts f cdv) (M : Meth K CL "texts" f) (cls : Cls K CL) (na2 : NoAttr K CL "kept_parts") : Mth P w K mg base 1 CL "texts" ["self"] (sp_lyt CL) := by
  refine F.mth cls M sc_Layer_texts (fun vs H Q E h => ?_) (fun _ _ _ _ _ _ us hl => match us, hl with | [_], _ => rfl) (fun A outer s H vs Q E hr h => ?_)
  · obtain ⟨l, x, ns, gs, tx, rfl, _⟩ := h; rfl
  · obtain ⟨l, x, ns, gs, tx, rfl, ⟨hO, dx, kp, gn, hl, ⟨kvs, hkp, kd⟩, hgn⟩, q⟩ := h
    have hu := hu_of hr
    refine ⟨_, (pss_one (ps_ret (pe_lock (pe_dc (own := [("name", 1)]) (g := (gName 1)) (by rfl) sc_Layer_texts.nd (pi_keys (pe_fld (pv 0) rfl)) (blkOk_by (own := [("name", 1)]) (N := N_Layer_texts) (sc := defScope s_Layer_texts) (by decide +kernel)) (fun _ _ _ _ _ => (pg_name (i := 1) sc_Layer_texts.nd rfl (by first | exact Or.inl rfl | exact Or.inr rfl))) (fun _ _ _ _ _ => pts_nil) (fun _ _ _ _ _ => (pv 1)) (fun _ _ _ _ _ => (pe_dget hu (pe_fldK (K := K) rfl (pv 0) rfl) (pv 1) (fun _ _ => rfl))))))), ?_⟩
    have es0 : start N_Layer_texts [V.ref l] = [some (.ref l), none] := rfl
    rw [es0]
    simp only [ap_tVar, ap_tC, ap_t2I, ap_tAdd, ap_tSub, ap_tMul, ap_tCmp, ap_tIsN, ap_tNotN, ap_tB, ap_tAnd, ap_tOr, ap_tNot, ap_tAndV, ap_tOrV, ap_tNotV, ap_tIf, ap_tNext, ap_tSeq, ap_tBreak, ap_tCont, ap_tDrop, ap_tRet, ap_tRetN, ap_tIfS, ap_tNever, ap_gName, ap_gNil, ap_gCons, ap_gTup, ap_gSub, ap_tAsg, ap_tPar, ap_tAug, ap_tAugS, ap_ipI, ap_iList, ap_iTup, ap_iRng1, ap_iRng2, ap_tOp, ap_tUn, ap_rI, ap_rI0, ap_rU, ap_rEq, ap_rNe, ap_tTest, ap_tChain, ap_tFld, ap_tCon, ap_sFld, ap_sFldAug, ap_rAdd, ap_rSub, ap_tNil, ap_tCons, ap_tTup, ap_tLst, ap_tCall, ap_tMeth, ap_tMake, ap_tCallK, ap_tCB, ap_tNoPart, ap_tPart, ap_tSl, ap_rSlT, ap_rLtT, ap_rCatT, ap_rIxL, ap_rIxT, ap_rIxS, ap_rIx, ap_rSetL, ap_rSlL, ap_rIn, ap_tBM0, ap_tBM, ap_rAppend, ap_rExtend, ap_rPop, ap_rPopAt, ap_rReverse, ap_rClear, ap_rCat, ap_rRep, ap_rSum, ap_rMax, ap_rMin, ap_rSorted, ap_rSortedS, ap_rSort, ap_rIndex, ap_rAny, ap_rAll, ap_tYes, ap_tDGet, ap_tDIn, ap_tDNotIn, ap_sDPut, ap_sDAug, ap_sDDel, ap_tDNewK, ap_tDNewT, ap_tDisp, ap_tDGet1, ap_tDGet2, ap_tDPop1, ap_tDPop2, ap_tLock, ap_tLockE, ap_iRng3, ap_iRev, ap_iStr, ap_iKeys, ap_iVals, ap_iItems, ap_iKeysM, ap_iEnum, ap_iZip, ap_rNewStrs, ap_tM0, ap_tM1, ap_rSlS, ap_gUnl, ap_rIsB,  ap_tFor, ap_tLc, if_true, if_false, Bool.false_eq_true, Bool.true_eq_false, Bool.not_true, Bool.not_false, not_true_eq_false, not_false_eq_true, cx_K, nox_K, blk_K, List.getElem?_cons_succ, List.getElem?_cons_zero, Option.some.injEq, exists_eq_left', exists_eq_left, exists_eq, exists_eq', V.int.injEq, V.bl.injEq, V.str.injEq, V.ref.injEq, V.ty.injEq, List.cons.injEq, and_true, true_and, exists_and_left, List.set_cons_succ, List.set_cons_zero, List.append_nil, List.nil_append, and_assoc, decide_eq_true_eq, Bool.not_eq_true', decide_eq_false_iff_not, scal, List.length_cons, List.length_nil, Nat.zero_add, Nat.reduceAdd, ap_tCs, ap_tDcB, ap_tLam, ap_tSortK, ap_tDNotIn, ap_tDIn, ap_sDPut, ap_tSetDefF, ap_rLenOf, ap_rTupOf, ap_rNeE, ap_rMaxD, ap_tSortedK, ap_rSortedD, ap_tLockV, ap_rMulS, ap_iEnumS, ap_rRange, ap_rListR, ap_rListD, ap_rDictOf, ap_rNeDs, ap_rEqDs, ap_rListOf, ap_rIsO, ap_rSortedSet, ap_rSortedSA, ap_rDClear, ap_rDUpd, ap_tSl3, ap_rSameL, ap_iItemsL]
    have hle := hO.e.le
    refine ⟨kp, .dK kvs, hkp, trivial, fun od => ?_⟩
    have nlk : l ≠ kp := ne_of hl hkp (by intro z; cases z)
    have hl1 : upd H kp (.frz od (.dK kvs)) l = some (.ins CL dx (lyF x kp gn)) := by rw [upd_ne nlk]; exact hl
    have kd1 := kd.tk (.upd (o := .frz od (.dK kvs)) hkp (by intro xs z; cases z))
    refine ⟨CL, dx, _, hl1, cls, na2, _, rfl, kp, rfl, od, .inl ⟨kvs, upd_same, fun Dr hDr => ?_⟩⟩
    have nDk : Dr ≠ kp := fun z => by rw [z, upd_same] at hDr; cases hDr
    refine dcM_keys hDr upd_same (fun i acc H => TK H (ns.take i) tx acc) TK.nil (fun i k v acc H3 hv I => ?_) (fun acc H3 I => ?_)
    · have hki : (kvs.map (·.1))[i]? = some k := by rw [List.getElem?_map, hv]; rfl
      rw [kd.key, List.getElem?_map] at hki
      obtain ⟨n, hn, rfl⟩ := Option.map_eq_some_iff.mp hki
      obtain ⟨p0, hv0, hp0⟩ := (kd1.tk (.of I.same)).get (List.mem_of_getElem? hn)
      simp only [ap_tVar, ap_tC, ap_t2I, ap_tAdd, ap_tSub, ap_tMul, ap_tCmp, ap_tIsN, ap_tNotN, ap_tB, ap_tAnd, ap_tOr, ap_tNot, ap_tAndV, ap_tOrV, ap_tNotV, ap_tIf, ap_tNext, ap_tBreak, ap_tCont, ap_tDrop, ap_tRet, ap_tRetN, ap_tIfS, ap_tNever, ap_gName, ap_gNil, ap_gCons, ap_gTup, ap_gSub, ap_tAsg, ap_tPar, ap_tAug, ap_tAugS, ap_ipI, ap_iList, ap_iTup, ap_iRng1, ap_iRng2, ap_tOp, ap_tUn, ap_rI, ap_rI0, ap_rU, ap_rEq, ap_rNe, ap_tTest, ap_tChain, ap_tFld, ap_tCon, ap_sFld, ap_sFldAug, ap_rAdd, ap_rSub, ap_tNil, ap_tCons, ap_tTup, ap_tLst, ap_tCall, ap_tMeth, ap_tMake, ap_tCallK, ap_tCB, ap_tNoPart, ap_tPart, ap_tSl, ap_rSlT, ap_rLtT, ap_rCatT, ap_rIxL, ap_rIxT, ap_rIxS, ap_rIx, ap_rSetL, ap_rSlL, ap_rIn, ap_tBM0, ap_tBM, ap_rAppend, ap_rExtend, ap_rPop, ap_rPopAt, ap_rReverse, ap_rClear, ap_rCat, ap_rRep, ap_rSum, ap_rMax, ap_rMin, ap_rSorted, ap_rSortedS, ap_rSort, ap_rIndex, ap_rAny, ap_rAll, ap_tYes, ap_tDGet, ap_tDIn, ap_tDNotIn, ap_sDPut, ap_sDAug, ap_sDDel, ap_tDNewK, ap_tDNewT, ap_tDisp, ap_tDGet1, ap_tDGet2, ap_tDPop1, ap_tDPop2, ap_tLock, ap_tLockE, ap_iRng3, ap_iRev, ap_iStr, ap_iKeys, ap_iVals, ap_iItems, ap_iKeysM, ap_iEnum, ap_iZip, ap_rNewStrs, ap_tM0, ap_tM1, ap_rSlS, ap_gUnl, ap_rIsB,  ap_tFor, ap_tLc, if_true, if_false, Bool.false_eq_true, Bool.true_eq_false, Bool.not_true, Bool.not_false, not_true_eq_false, not_false_eq_true, cx_K, nox_K, blk_K, List.getElem?_cons_succ, List.getElem?_cons_zero, Option.some.injEq, exists_eq_left', exists_eq_left, exists_eq, exists_eq', V.int.injEq, V.bl.injEq, V.str.injEq, V.ref.injEq, V.ty.injEq, List.cons.injEq, and_true, true_and, exists_and_left, List.set_cons_succ, List.set_cons_zero, List.append_nil, List.nil_append, and_assoc, decide_eq_true_eq, Bool.not_eq_true', decide_eq_false_iff_not, scal, List.length_cons, List.length_nil, Nat.zero_add, Nat.reduceAdd, ap_tCs, ap_tDcB, ap_tLam, ap_tSortK, ap_tDNotIn, ap_tDIn, ap_sDPut, ap_tSetDefF, ap_rLenOf, ap_rTupOf, ap_rNeE, ap_rMaxD, ap_tSortedK, ap_rSortedD, ap_tLockV, ap_rMulS, ap_iEnumS, ap_rRange, ap_rListR, ap_rListD, ap_rDictOf, ap_rNeDs, ap_rEqDs, ap_rListOf, ap_rIsO, ap_rSortedSet, ap_rSortedSA, ap_rDClear, ap_rDUpd, ap_tSl3, ap_rSameL, ap_iItemsL]
      refine ⟨rfl, _, rfl, _, rfl, l, rfl, CL, dx, _, I.same _ _ hl1, cls, na2, _, rfl, _, rfl, kp, rfl, _, .inl ⟨kvs, .inr n, .inr ⟨od, I.same _ _ upd_same⟩, rfl, hv0.symm⟩, ?_⟩
      exact TK.turn hDr I (Same.refl _) hO.e.tx.nd hn (by omega) hp0
    · have e3 := I.same kp _ upd_same
      have ka := I.pv
      rw [kd.len, List.take_length] at ka
      rw [upd_ne nDk] at hDr
      refine ⟨e3, q Dr _ (fun a o e => ?_) hDr ⟨acc, by rw [upd_ne nDk]; exact I.at_, ka.tk (.upd e3 (by intro xs z; cases z))⟩⟩
      by_cases ha : a = kp
      · subst ha
        rw [hkp] at e; cases e
        exact upd_same
      · rw [upd_ne ha]
        exact I.same a o (by rw [upd_ne ha]; exact e)
end
end My
set_option maxHeartbeats 4000000

namespace My
open PySem L2
section
variable {P : Program} {w : World} {K : PySem.W.Frag} {mg : Str → Option Value} {base : Heap}
theorem LyAt.but {CL : Addr} {H H' : Hp} {l x p : Addr} {ns gs : List Str} {tx : Str → List Str} {u : HO} (h : LyAt CL H l x ns gs tx) (h0 : H p = none) (b : But1 p H H') : LyAt CL H' l x ns gs tx := h.same fun a o e => b a o e (ne_of_none e h0)
structure PoK (n1 n2 g2 ks : List Str) (t1 t2 tx : Str → List Str) (i : Nat) : Prop where
  o : TxO ks tx
  m : ∀ n, n ∈ ks ↔ n ∈ n2 ∨ (n ∈ n1.take i ∧ n ∉ n2 ∧ n ∉ g2)
  u : ∀ n ∈ n2, tx n = t2 n
  l : ∀ n ∈ n1.take i, n ∉ n2 → n ∉ g2 → tx n = t1 n
  le : ks.length ≤ n2.length + i
theorem LyAt.obj {CL : Addr} {H : Hp} {l x : Addr} {ns gs : List Str} {tx : Str → List Str} (h : LyAt CL H l x ns gs tx) : ∃ dx kp gn, H l = some (.ins CL dx (lyF x kp gn)) := by
  obtain ⟨_, dx, kp, gn, e, _⟩ := h
  exact ⟨dx, kp, gn, e⟩
theorem PoK.next {n1 n2 g2 ks : List Str} {t1 t2 tx : Str → List Str} {i : Nat} {n : Str} (h : PoK n1 n2 g2 ks t1 t2 tx i) (hn : n1[i]? = some n) (nd : n1.Nodup) (o1 : TxO n1 t1) (h2 : n ∉ n2) (hg : n ∉ g2) : PoK n1 n2 g2 (ks ++ [n]) t1 t2 (txPut tx n (t1 n)) (i + 1) ∧ n ∉ ks := by
  have ht := not_take nd hn
  have hk : n ∉ ks := fun z => ((h.m n).mp z).elim h2 fun z => ht z.1
  have hm := o1.ok n (List.mem_of_getElem? hn)
  refine ⟨⟨?_, fun m => ?_, fun m hm2 => ?_, fun m hm1 a b => ?_, by have := h.le; simp; omega⟩, hk⟩
  · have := h.o.put hm.1 hm.2.1 hm.2.2
    rw [if_neg hk] at this
    exact this
  · rw [take_next hn, List.mem_append, List.mem_append, h.m m, List.mem_singleton]
    constructor
    · rintro ((a | ⟨a, b, c⟩) | rfl)
      · exact .inl a
      · exact .inr ⟨.inl a, b, c⟩
      · exact .inr ⟨.inr rfl, h2, hg⟩
    · rintro (a | ⟨a | rfl, b, c⟩)
      · exact .inl (.inl a)
      · exact .inl (.inr ⟨a, b, c⟩)
      · exact .inr rfl
  · have e : m ≠ n := fun z => h2 (z ▸ hm2)
    unfold txPut
    rw [if_neg e]; exact h.u m hm2
  · unfold txPut
    by_cases e : m = n
    · rw [if_pos e, e]
    · rw [if_neg e]
      rw [take_next hn, List.mem_append, List.mem_singleton] at hm1
      exact h.l m (hm1.resolve_right e) a b
theorem PoK.skip {n1 n2 g2 ks : List Str} {t1 t2 tx : Str → List Str} {i : Nat} {n : Str} (h : PoK n1 n2 g2 ks t1 t2 tx i) (hn : n1[i]? = some n) (hs : n ∈ n2 ∨ n ∈ g2) : PoK n1 n2 g2 ks t1 t2 tx (i + 1) := by
  refine ⟨h.o, fun m => ?_, h.u, fun m hm1 a b => ?_, by have := h.le; omega⟩
  · rw [take_next hn, List.mem_append, List.mem_singleton, h.m m]
    constructor
    · rintro (a | ⟨a, b, c⟩)
      · exact .inl a
      · exact .inr ⟨.inl a, b, c⟩
    · rintro (a | ⟨a | rfl, b, c⟩)
      · exact .inl a
      · exact .inr ⟨a, b, c⟩
      · exact absurd hs (by simp [b, c])
  · rw [take_next hn, List.mem_append, List.mem_singleton] at hm1
    rcases hm1 with z | rfl
    · exact h.l m z a b
    · exact absurd hs (by simp [a, b])
/-- a layer made -/
theorem mk_ly {CL d g x : Addr} {H : Hp} {ns gs : List Str} {tx : Str → List Str} {Q : Addr → Hp → Prop} (hd : TD H d ns tx) (hO : TxO ns tx) (hg : SqL K H g (gs.map V.str)) (hgo : ∀ n ∈ gs, NmOk n) (hgn : ∀ n ∈ gs, n ∉ ns) (hle : ns.length + gs.length ≤ 300)
    (q : ∀ (l kp gn : Addr) (ns' gs' : List Str) H', H l = none → Same H H' → LyP CL H' l x kp gn ns' gs' tx → H kp = none → H gn = none → ns'.Perm ns → gs'.Perm (dedS gs) → Q l H') :
    ∀ l dx, H l = none → H dx = none → dx ≠ l → sp_lyI K CL [.ref l, .ref x, .ref d, .ref g] (upd (upd H dx (.own l)) l (.ins CL dx [])) (fun v H2 => v = .non ∧ Q l H2) E0 := by
  intro l dx hl hdx hne
  have s : Same H (upd (upd H dx (.own l)) l (.ins CL dx [])) := Same.put (Same.put (Same.refl _) hdx) hl
  refine ⟨l, x, d, g, dx, ns, gs, tx, rfl, upd_same, hd.same s, hO, s.sqL hg, hgo, hgn, hle, fun kp gn ns' gs' H' b L f1 f2 p1 p2 => ⟨rfl, q l kp gn ns' gs' H' hl (fun a o e => ?_) L (s.free f1) (s.free f2) p1 p2⟩⟩
  exact b a o (s a o e) (ne_of_none e hl)
/-- what stands when the upper layer is poured over the lower one -/
structure PoO (n1 g1 n2 g2 ns gs : List Str) (t1 t2 tx : Str → List Str) : Prop where
  n : ∀ n, n ∈ ns ↔ n ∈ n2 ∨ (n ∈ n1 ∧ n ∉ n2 ∧ n ∉ g2)
  g : ∀ n, n ∈ gs ↔ n ∈ g2 ∨ (n ∈ g1 ∧ n ∉ n2 ∧ n ∉ g2)
  u : ∀ n ∈ n2, tx n = t2 n
  l : ∀ n ∈ n1, n ∉ n2 → n ∉ g2 → tx n = t1 n
abbrev s_poured : Stmt := top 3
abbrev N_poured : List Str := ["lower", "upper", "above", "kept", "name", "parts", "gone_below"]
theorem sc_poured : FnScope N_poured ["lower", "upper"] (defScope s_poured) := ⟨rfl, rfl, rfl, by decide +kernel, rfl, by decide +kernel, by decide +kernel⟩
def sp_pour (CL : Addr) : Sp := fun vs H Q _ => ∃ (lo up x1 x2 : Addr) (n1 g1 n2 g2 : List Str) (t1 t2 : Str → List Str), vs = [.ref lo, .ref up] ∧ LyAt CL H lo x1 n1 g1 t1 ∧ LyAt CL H up x2 n2 g2 t2 ∧ n1.length + g1.length + (n2.length + g2.length) ≤ 300 ∧
  ∀ (r : Addr) (ns gs : List Str) (tx : Str → List Str) H', Same H H' → H r = none → LyAt CL H' r x2 ns gs tx → PoO n1 g1 n2 g2 ns gs t1 t2 tx → Q (.ref r) H'
def PoI (H H4 : Hp) (lo up ab d td : Addr) (kvs : List (Key × V)) (od : Obj) (ys n1 n2 g2 : List Str) (t1 t2 : Str → List Str) (i : Nat) (σ : St) (H' : Hp) : Prop := ∃ (ks : List Str) (tx : Str → List Str) (v4 v5 v6 : Option V), σ = [some (.ref lo), some (.ref up), some (.ref ab), some (.ref d), v4, v5, v6] ∧ H' td = some (.frz od (.dK kvs)) ∧ Same H H' ∧ Tk H4 H' ∧ TD H' d ks tx ∧ H' ab = some (.lst (ys.map V.str)) ∧ PoK n1 n2 g2 ks t1 t2 tx i
theorem c_pour (T : Txt mg) {CL : Addr} (cls : Cls K CL) (na1 : NoAttr K CL "rules") (D : Def K mg "poured" s_poured) (M_names : Mth P w K mg base 1 CL "names" ["self"] (sp_lyn CL)) (M_gone : Mth P w K mg base 1 CL "gone" ["self"] (sp_lyg CL)) (M_texts : Mth P w K mg base 1 CL "texts" ["self"] (sp_lyt CL))
    (K_Layer : MCal P w K mg base 1 "Layer" CL ["self", "rulebook", "texts", "gone"] (sp_lyI K CL)) : Cal P w K mg base 3 "poured" ["lower", "upper"] (sp_pour CL) := by
  refine D.cal sc_poured (fun _ _ _ _ _ _ us hl => match us, hl with | [_, _], _ => rfl) (fun vs H Q E h => ?_) (fun f cdv A outer s H vs Q E hr h => ?_)
  · obtain ⟨lo, up, x1, x2, n1, g1, n2, g2, t1, t2, rfl, _⟩ := h; rfl
  · obtain ⟨lo, up, x1, x2, n1, g1, n2, g2, t1, t2, rfl, L1, L2, hle, q⟩ := h
    have hu := hu_of hr
    refine ⟨_, (pss_cons (ps_set (i := 2) sc_poured.nd rfl (by first | exact Or.inl rfl | exact Or.inr rfl) (pe_mth0 M_names (hr.mono (by decide)) (pv 1)))
        (pss_cons (ps_set (i := 3) sc_poured.nd rfl (by first | exact Or.inl rfl | exact Or.inr rfl) (pe_mth0 M_texts (hr.mono (by decide)) (pv 1)))
        (pss_cons (ps_for PassesOwn.never rfl (pi_items (pe_lockV (pe_mth0 M_texts (hr.mono (by decide)) (pv 0)))) (pg_tup (n := 2) rfl (pgs_cons (pg_name (i := 4) sc_poured.nd rfl (by first | exact Or.inl rfl | exact Or.inr rfl)) (pgs_cons (pg_name (i := 5) sc_poured.nd rfl (by first | exact Or.inl rfl | exact Or.inr rfl)) pgs_nil))) (pss_one (ps_if (pt_cmpR (r := rIn K true) op_notIn_seq (pv 4) (pv 2) rfl) (pss_one (ps_dput hu (pv 3) (pv 4) (pv 5) rfl)) pss_nil)))
        (pss_cons (ps_setLc (i := 6) (own := [("name", 4)]) (g := (gName 4)) (by rfl) sc_poured.nd rfl rfl (sw_true rfl rfl rfl (by decide +kernel)) (pi_list (pe_mth0 M_gone (hr.mono (by decide)) (pv 0))) (blkOk_by (own := [("name", 4)]) (N := N_poured) (sc := defScope s_poured) (by decide +kernel)) (fun _ _ _ _ _ => (pg_name (i := 4) sc_poured.nd rfl (by first | exact Or.inl rfl | exact Or.inr rfl))) (fun _ _ _ _ _ => (pts_one (pt_cmpR (r := rIn K true) op_notIn_seq (pv 4) (pv 2) rfl))) (fun _ _ _ _ _ => (pv 4)))
        (pss_one (ps_ret (pe_mk K_Layer (hr.mono (by decide)) (pa_cons (pe_fld (pv 1) rfl) (pa_cons (pv 3) (pa_cons (pe_op op_cat (pe_mth0 M_gone (hr.mono (by decide)) (pv 1)) (pv 6)) pa_nil)))))))))), ?_⟩
    have es0 : start N_poured [V.ref lo, V.ref up] = [some (.ref lo), some (.ref up), none, none, none, none, none] := rfl
    rw [es0, ap_tSeq]
    simp only [ap_tVar, ap_tC, ap_t2I, ap_tAdd, ap_tSub, ap_tMul, ap_tCmp, ap_tIsN, ap_tNotN, ap_tB, ap_tAnd, ap_tOr, ap_tNot, ap_tAndV, ap_tOrV, ap_tNotV, ap_tIf, ap_tNext, ap_tBreak, ap_tCont, ap_tDrop, ap_tRet, ap_tRetN, ap_tIfS, ap_tNever, ap_gName, ap_gNil, ap_gCons, ap_gTup, ap_gSub, ap_tAsg, ap_tPar, ap_tAug, ap_tAugS, ap_ipI, ap_iList, ap_iTup, ap_iRng1, ap_iRng2, ap_tOp, ap_tUn, ap_rI, ap_rI0, ap_rU, ap_rEq, ap_rNe, ap_tTest, ap_tChain, ap_tFld, ap_tCon, ap_sFld, ap_sFldAug, ap_rAdd, ap_rSub, ap_tNil, ap_tCons, ap_tTup, ap_tLst, ap_tCall, ap_tMeth, ap_tMake, ap_tCallK, ap_tCB, ap_tNoPart, ap_tPart, ap_tSl, ap_rSlT, ap_rLtT, ap_rCatT, ap_rIxL, ap_rIxT, ap_rIxS, ap_rIx, ap_rSetL, ap_rSlL, ap_rIn, ap_tBM0, ap_tBM, ap_rAppend, ap_rExtend, ap_rPop, ap_rPopAt, ap_rReverse, ap_rClear, ap_rCat, ap_rRep, ap_rSum, ap_rMax, ap_rMin, ap_rSorted, ap_rSortedS, ap_rSort, ap_rIndex, ap_rAny, ap_rAll, ap_tYes, ap_tDGet, ap_tDIn, ap_tDNotIn, ap_sDPut, ap_sDAug, ap_sDDel, ap_tDNewK, ap_tDNewT, ap_tDisp, ap_tDGet1, ap_tDGet2, ap_tDPop1, ap_tDPop2, ap_tLock, ap_tLockE, ap_iRng3, ap_iRev, ap_iStr, ap_iKeys, ap_iVals, ap_iItems, ap_iKeysM, ap_iEnum, ap_iZip, ap_rNewStrs, ap_tM0, ap_tM1, ap_rSlS, ap_gUnl, ap_rIsB,  ap_tFor, ap_tLc, if_true, if_false, Bool.false_eq_true, Bool.true_eq_false, Bool.not_true, Bool.not_false, not_true_eq_false, not_false_eq_true, cx_K, nox_K, blk_K, List.getElem?_cons_succ, List.getElem?_cons_zero, Option.some.injEq, exists_eq_left', exists_eq_left, exists_eq, exists_eq', V.int.injEq, V.bl.injEq, V.str.injEq, V.ref.injEq, V.ty.injEq, List.cons.injEq, and_true, true_and, exists_and_left, List.set_cons_succ, List.set_cons_zero, List.append_nil, List.nil_append, and_assoc, decide_eq_true_eq, Bool.not_eq_true', decide_eq_false_iff_not, scal, List.length_cons, List.length_nil, Nat.zero_add, Nat.reduceAdd, ap_tCs, ap_tDcB, ap_tLam, ap_tSortK, ap_tDNotIn, ap_tDIn, ap_sDPut, ap_tSetDefF, ap_rLenOf, ap_rTupOf, ap_rNeE, ap_rMaxD, ap_tSortedK, ap_rSortedD, ap_tLockV, ap_rMulS, ap_iEnumS, ap_rRange, ap_rListR, ap_rListD, ap_rDictOf, ap_rNeDs, ap_rEqDs, ap_rListOf, ap_rIsO, ap_rSortedSet, ap_rSortedSA, ap_rDClear, ap_rDUpd, ap_tSl3, ap_rSameL, ap_iItemsL, sp_lyn]
    obtain ⟨dx2, kp2, gn2, hup⟩ := L2.obj
    obtain ⟨dx1, kp1, gn1, hlo⟩ := L1.obj
    refine ⟨_, _, hup, by kernel_rfl, x2, n2, g2, t2, L2, fun ab ys H1 s1 _ hab hys _ => ?_⟩
    have mem : ∀ n, n ∈ ys ↔ n ∈ n2 ∨ n ∈ g2 := fun n => by rw [hys.mem_iff, List.mem_append]
    rw [ap_tSeq]
    simp only [ap_tVar, ap_tC, ap_t2I, ap_tAdd, ap_tSub, ap_tMul, ap_tCmp, ap_tIsN, ap_tNotN, ap_tB, ap_tAnd, ap_tOr, ap_tNot, ap_tAndV, ap_tOrV, ap_tNotV, ap_tIf, ap_tNext, ap_tBreak, ap_tCont, ap_tDrop, ap_tRet, ap_tRetN, ap_tIfS, ap_tNever, ap_gName, ap_gNil, ap_gCons, ap_gTup, ap_gSub, ap_tAsg, ap_tPar, ap_tAug, ap_tAugS, ap_ipI, ap_iList, ap_iTup, ap_iRng1, ap_iRng2, ap_tOp, ap_tUn, ap_rI, ap_rI0, ap_rU, ap_rEq, ap_rNe, ap_tTest, ap_tChain, ap_tFld, ap_tCon, ap_sFld, ap_sFldAug, ap_rAdd, ap_rSub, ap_tNil, ap_tCons, ap_tTup, ap_tLst, ap_tCall, ap_tMeth, ap_tMake, ap_tCallK, ap_tCB, ap_tNoPart, ap_tPart, ap_tSl, ap_rSlT, ap_rLtT, ap_rCatT, ap_rIxL, ap_rIxT, ap_rIxS, ap_rIx, ap_rSetL, ap_rSlL, ap_rIn, ap_tBM0, ap_tBM, ap_rAppend, ap_rExtend, ap_rPop, ap_rPopAt, ap_rReverse, ap_rClear, ap_rCat, ap_rRep, ap_rSum, ap_rMax, ap_rMin, ap_rSorted, ap_rSortedS, ap_rSort, ap_rIndex, ap_rAny, ap_rAll, ap_tYes, ap_tDGet, ap_tDIn, ap_tDNotIn, ap_sDPut, ap_sDAug, ap_sDDel, ap_tDNewK, ap_tDNewT, ap_tDisp, ap_tDGet1, ap_tDGet2, ap_tDPop1, ap_tDPop2, ap_tLock, ap_tLockE, ap_iRng3, ap_iRev, ap_iStr, ap_iKeys, ap_iVals, ap_iItems, ap_iKeysM, ap_iEnum, ap_iZip, ap_rNewStrs, ap_tM0, ap_tM1, ap_rSlS, ap_gUnl, ap_rIsB,  ap_tFor, ap_tLc, if_true, if_false, Bool.false_eq_true, Bool.true_eq_false, Bool.not_true, Bool.not_false, not_true_eq_false, not_false_eq_true, cx_K, nox_K, blk_K, List.getElem?_cons_succ, List.getElem?_cons_zero, Option.some.injEq, exists_eq_left', exists_eq_left, exists_eq, exists_eq', V.int.injEq, V.bl.injEq, V.str.injEq, V.ref.injEq, V.ty.injEq, List.cons.injEq, and_true, true_and, exists_and_left, List.set_cons_succ, List.set_cons_zero, List.append_nil, List.nil_append, and_assoc, decide_eq_true_eq, Bool.not_eq_true', decide_eq_false_iff_not, scal, List.length_cons, List.length_nil, Nat.zero_add, Nat.reduceAdd, ap_tCs, ap_tDcB, ap_tLam, ap_tSortK, ap_tDNotIn, ap_tDIn, ap_sDPut, ap_tSetDefF, ap_rLenOf, ap_rTupOf, ap_rNeE, ap_rMaxD, ap_tSortedK, ap_rSortedD, ap_tLockV, ap_rMulS, ap_iEnumS, ap_rRange, ap_rListR, ap_rListD, ap_rDictOf, ap_rNeDs, ap_rEqDs, ap_rListOf, ap_rIsO, ap_rSortedSet, ap_rSortedSA, ap_rDClear, ap_rDUpd, ap_tSl3, ap_rSameL, ap_iItemsL, sp_lyt]
    refine ⟨_, _, s1 _ _ hup, by kernel_rfl, x2, n2, g2, t2, L2.same s1, fun d H2 s2 hd1 hd => ?_⟩
    have s02 := s1.trans s2
    have hd0 := s1.free hd1
    rw [ap_tSeq]
    simp only [ap_tVar, ap_tC, ap_t2I, ap_tAdd, ap_tSub, ap_tMul, ap_tCmp, ap_tIsN, ap_tNotN, ap_tB, ap_tAnd, ap_tOr, ap_tNot, ap_tAndV, ap_tOrV, ap_tNotV, ap_tIf, ap_tNext, ap_tBreak, ap_tCont, ap_tDrop, ap_tRet, ap_tRetN, ap_tIfS, ap_tNever, ap_gName, ap_gNil, ap_gCons, ap_gTup, ap_gSub, ap_tAsg, ap_tPar, ap_tAug, ap_tAugS, ap_ipI, ap_iList, ap_iTup, ap_iRng1, ap_iRng2, ap_tOp, ap_tUn, ap_rI, ap_rI0, ap_rU, ap_rEq, ap_rNe, ap_tTest, ap_tChain, ap_tFld, ap_tCon, ap_sFld, ap_sFldAug, ap_rAdd, ap_rSub, ap_tNil, ap_tCons, ap_tTup, ap_tLst, ap_tCall, ap_tMeth, ap_tMake, ap_tCallK, ap_tCB, ap_tNoPart, ap_tPart, ap_tSl, ap_rSlT, ap_rLtT, ap_rCatT, ap_rIxL, ap_rIxT, ap_rIxS, ap_rIx, ap_rSetL, ap_rSlL, ap_rIn, ap_tBM0, ap_tBM, ap_rAppend, ap_rExtend, ap_rPop, ap_rPopAt, ap_rReverse, ap_rClear, ap_rCat, ap_rRep, ap_rSum, ap_rMax, ap_rMin, ap_rSorted, ap_rSortedS, ap_rSort, ap_rIndex, ap_rAny, ap_rAll, ap_tYes, ap_tDGet, ap_tDIn, ap_tDNotIn, ap_sDPut, ap_sDAug, ap_sDDel, ap_tDNewK, ap_tDNewT, ap_tDisp, ap_tDGet1, ap_tDGet2, ap_tDPop1, ap_tDPop2, ap_tLock, ap_tLockE, ap_iRng3, ap_iRev, ap_iStr, ap_iKeys, ap_iVals, ap_iItems, ap_iKeysM, ap_iEnum, ap_iZip, ap_rNewStrs, ap_tM0, ap_tM1, ap_rSlS, ap_gUnl, ap_rIsB,  ap_tFor, ap_tLc, if_true, if_false, Bool.false_eq_true, Bool.true_eq_false, Bool.not_true, Bool.not_false, not_true_eq_false, not_false_eq_true, cx_K, nox_K, blk_K, List.getElem?_cons_succ, List.getElem?_cons_zero, Option.some.injEq, exists_eq_left', exists_eq_left, exists_eq, exists_eq', V.int.injEq, V.bl.injEq, V.str.injEq, V.ref.injEq, V.ty.injEq, List.cons.injEq, and_true, true_and, exists_and_left, List.set_cons_succ, List.set_cons_zero, List.append_nil, List.nil_append, and_assoc, decide_eq_true_eq, Bool.not_eq_true', decide_eq_false_iff_not, scal, List.length_cons, List.length_nil, Nat.zero_add, Nat.reduceAdd, ap_tCs, ap_tDcB, ap_tLam, ap_tSortK, ap_tDNotIn, ap_tDIn, ap_sDPut, ap_tSetDefF, ap_rLenOf, ap_rTupOf, ap_rNeE, ap_rMaxD, ap_tSortedK, ap_rSortedD, ap_tLockV, ap_rMulS, ap_iEnumS, ap_rRange, ap_rListR, ap_rListD, ap_rDictOf, ap_rNeDs, ap_rEqDs, ap_rListOf, ap_rIsO, ap_rSortedSet, ap_rSortedSA, ap_rDClear, ap_rDUpd, ap_tSl3, ap_rSameL, ap_iItemsL, sp_lyt]
    refine ⟨_, _, s02 _ _ hlo, by kernel_rfl, x1, n1, g1, t1, L1.same s02, fun td H3 s3 htd2 htd => ?_⟩
    obtain ⟨kvs, htd3, k3⟩ := htd
    have s03 := s02.trans s3
    have htd0 := s02.free htd2
    refine ⟨kvs, htd3, fun od => ?_⟩
    have s04 : Same H (upd H3 td (.frz od (.dK kvs))) := Same.put s03 htd0
    have t34 := Tk.upd (o := .frz od (.dK kvs)) htd3 (by intro xs z; cases z)
    have htd4 : upd H3 td (.frz od (.dK kvs)) td = some (.frz od (.dK kvs)) := upd_same
    have hab2 := s2 _ _ hab
    have hab4 : upd H3 td (.frz od (.dK kvs)) ab = some (.lst (ys.map V.str)) := by rw [upd_ne (ne_of_none hab2 htd2)]; exact s3 _ _ hab2
    have hd4 : TD (upd H3 td (.frz od (.dK kvs))) d n2 t2 := by
      obtain ⟨kv2, e2, k2⟩ := hd
      exact ⟨kv2, by rw [upd_ne (ne_of_none e2 htd2)]; exact s3 _ _ e2, (k2.tk (.of s3)).tk t34⟩
    have hdtd : d ≠ td := by obtain ⟨kv2, e2, k2⟩ := hd; exact ne_of_none e2 htd2
    have hdab : d ≠ ab := (ne_of_none hab hd1).symm
    have k4 := k3.tk t34
    generalize upd H3 td (.frz od (.dK kvs)) = H4 at *
    have nd1 := L1.1.e.tx.nd
    have nlen := k3.len
    refine ⟨od, kvs, htd4, ?_⟩
    refine forB_items (PoI H H4 lo up ab d td kvs od ys n1 n2 g2 t1 t2) ⟨n2, t2, none, none, none, rfl, htd4, s04, fun _ _ e => e, hd4, hab4, ⟨L2.1.e.tx, fun n => by simp, fun _ _ => rfl, fun n hn => by simp at hn, Nat.le_refl _⟩⟩ (fun i σ H' _ J => by obtain ⟨_, _, _, _, _, _, J, _⟩ := J; exact J) ?_ ?_
    · rintro i k v σ H5 T0 hkv ⟨ks, tx, v4, v5, v6, rfl, htd5, s5, t5, hD5, hab5, J⟩ hT0
      have hki : (kvs.map (·.1))[i]? = some k := by rw [List.getElem?_map, hkv]; rfl
      rw [k3.key, List.getElem?_map] at hki
      obtain ⟨n, hn, rfl⟩ := Option.map_eq_some_iff.mp hki
      have hi : i < n1.length := (List.getElem?_eq_some_iff.mp hn).1
      obtain ⟨n', v', e', p0, rfl, hp0⟩ := k4.ent _ (List.mem_of_getElem? hkv)
      cases e'
      have sT := Same.new hT0 (o := .tup [kV (.inr n), .ref p0])
      have hT5 : upd H5 T0 (.tup [kV (.inr n), .ref p0]) T0 = some (.tup [.str n, .ref p0]) := upd_same
      have s6 := s5.trans sT
      have hD6 := hD5.same sT
      have hab6 := sT _ _ hab5
      have htd6 := sT _ _ htd5
      generalize upd H5 T0 (.tup [kV (.inr n), .ref p0]) = H6 at *
      simp only [ap_tVar, ap_tC, ap_t2I, ap_tAdd, ap_tSub, ap_tMul, ap_tCmp, ap_tIsN, ap_tNotN, ap_tB, ap_tAnd, ap_tOr, ap_tNot, ap_tAndV, ap_tOrV, ap_tNotV, ap_tIf, ap_tNext, ap_tBreak, ap_tCont, ap_tDrop, ap_tRet, ap_tRetN, ap_tIfS, ap_tNever, ap_gName, ap_gNil, ap_gCons, ap_gTup, ap_gSub, ap_tAsg, ap_tPar, ap_tAug, ap_tAugS, ap_ipI, ap_iList, ap_iTup, ap_iRng1, ap_iRng2, ap_tOp, ap_tUn, ap_rI, ap_rI0, ap_rU, ap_rEq, ap_rNe, ap_tTest, ap_tChain, ap_tFld, ap_tCon, ap_sFld, ap_sFldAug, ap_rAdd, ap_rSub, ap_tNil, ap_tCons, ap_tTup, ap_tLst, ap_tCall, ap_tMeth, ap_tMake, ap_tCallK, ap_tCB, ap_tNoPart, ap_tPart, ap_tSl, ap_rSlT, ap_rLtT, ap_rCatT, ap_rIxL, ap_rIxT, ap_rIxS, ap_rIx, ap_rSetL, ap_rSlL, ap_rIn, ap_tBM0, ap_tBM, ap_rAppend, ap_rExtend, ap_rPop, ap_rPopAt, ap_rReverse, ap_rClear, ap_rCat, ap_rRep, ap_rSum, ap_rMax, ap_rMin, ap_rSorted, ap_rSortedS, ap_rSort, ap_rIndex, ap_rAny, ap_rAll, ap_tYes, ap_tDGet, ap_tDIn, ap_tDNotIn, ap_sDPut, ap_sDAug, ap_sDDel, ap_tDNewK, ap_tDNewT, ap_tDisp, ap_tDGet1, ap_tDGet2, ap_tDPop1, ap_tDPop2, ap_tLock, ap_tLockE, ap_iRng3, ap_iRev, ap_iStr, ap_iKeys, ap_iVals, ap_iItems, ap_iKeysM, ap_iEnum, ap_iZip, ap_rNewStrs, ap_tM0, ap_tM1, ap_rSlS, ap_gUnl, ap_rIsB,  ap_tFor, ap_tLc, if_true, if_false, Bool.false_eq_true, Bool.true_eq_false, Bool.not_true, Bool.not_false, not_true_eq_false, not_false_eq_true, cx_K, nox_K, blk_K, List.getElem?_cons_succ, List.getElem?_cons_zero, Option.some.injEq, exists_eq_left', exists_eq_left, exists_eq, exists_eq', V.int.injEq, V.bl.injEq, V.str.injEq, V.ref.injEq, V.ty.injEq, List.cons.injEq, and_true, true_and, exists_and_left, List.set_cons_succ, List.set_cons_zero, List.append_nil, List.nil_append, and_assoc, decide_eq_true_eq, Bool.not_eq_true', decide_eq_false_iff_not, scal, List.length_cons, List.length_nil, Nat.zero_add, Nat.reduceAdd, ap_tCs, ap_tDcB, ap_tLam, ap_tSortK, ap_tDNotIn, ap_tDIn, ap_sDPut, ap_tSetDefF, ap_rLenOf, ap_rTupOf, ap_rNeE, ap_rMaxD, ap_tSortedK, ap_rSortedD, ap_tLockV, ap_rMulS, ap_iEnumS, ap_rRange, ap_rListR, ap_rListD, ap_rDictOf, ap_rNeDs, ap_rEqDs, ap_rListOf, ap_rIsO, ap_rSortedSet, ap_rSortedSA, ap_rDClear, ap_rDUpd, ap_tSl3, ap_rSameL, ap_iItemsL]
      refine ⟨_, .of hT5, rfl, ?_⟩
      simp only [ap_tVar, ap_tC, ap_t2I, ap_tAdd, ap_tSub, ap_tMul, ap_tCmp, ap_tIsN, ap_tNotN, ap_tB, ap_tAnd, ap_tOr, ap_tNot, ap_tAndV, ap_tOrV, ap_tNotV, ap_tIf, ap_tNext, ap_tBreak, ap_tCont, ap_tDrop, ap_tRet, ap_tRetN, ap_tIfS, ap_tNever, ap_gName, ap_gNil, ap_gCons, ap_gTup, ap_gSub, ap_tAsg, ap_tPar, ap_tAug, ap_tAugS, ap_ipI, ap_iList, ap_iTup, ap_iRng1, ap_iRng2, ap_tOp, ap_tUn, ap_rI, ap_rI0, ap_rU, ap_rEq, ap_rNe, ap_tTest, ap_tChain, ap_tFld, ap_tCon, ap_sFld, ap_sFldAug, ap_rAdd, ap_rSub, ap_tNil, ap_tCons, ap_tTup, ap_tLst, ap_tCall, ap_tMeth, ap_tMake, ap_tCallK, ap_tCB, ap_tNoPart, ap_tPart, ap_tSl, ap_rSlT, ap_rLtT, ap_rCatT, ap_rIxL, ap_rIxT, ap_rIxS, ap_rIx, ap_rSetL, ap_rSlL, ap_rIn, ap_tBM0, ap_tBM, ap_rAppend, ap_rExtend, ap_rPop, ap_rPopAt, ap_rReverse, ap_rClear, ap_rCat, ap_rRep, ap_rSum, ap_rMax, ap_rMin, ap_rSorted, ap_rSortedS, ap_rSort, ap_rIndex, ap_rAny, ap_rAll, ap_tYes, ap_tDGet, ap_tDIn, ap_tDNotIn, ap_sDPut, ap_sDAug, ap_sDDel, ap_tDNewK, ap_tDNewT, ap_tDisp, ap_tDGet1, ap_tDGet2, ap_tDPop1, ap_tDPop2, ap_tLock, ap_tLockE, ap_iRng3, ap_iRev, ap_iStr, ap_iKeys, ap_iVals, ap_iItems, ap_iKeysM, ap_iEnum, ap_iZip, ap_rNewStrs, ap_tM0, ap_tM1, ap_rSlS, ap_gUnl, ap_rIsB,  ap_tFor, ap_tLc, if_true, if_false, Bool.false_eq_true, Bool.true_eq_false, Bool.not_true, Bool.not_false, not_true_eq_false, not_false_eq_true, cx_K, nox_K, blk_K, List.getElem?_cons_succ, List.getElem?_cons_zero, Option.some.injEq, exists_eq_left', exists_eq_left, exists_eq, exists_eq', V.int.injEq, V.bl.injEq, V.str.injEq, V.ref.injEq, V.ty.injEq, List.cons.injEq, and_true, true_and, exists_and_left, List.set_cons_succ, List.set_cons_zero, List.append_nil, List.nil_append, and_assoc, decide_eq_true_eq, Bool.not_eq_true', decide_eq_false_iff_not, scal, List.length_cons, List.length_nil, Nat.zero_add, Nat.reduceAdd, ap_tCs, ap_tDcB, ap_tLam, ap_tSortK, ap_tDNotIn, ap_tDIn, ap_sDPut, ap_tSetDefF, ap_rLenOf, ap_rTupOf, ap_rNeE, ap_rMaxD, ap_tSortedK, ap_rSortedD, ap_tLockV, ap_rMulS, ap_iEnumS, ap_rRange, ap_rListR, ap_rListD, ap_rDictOf, ap_rNeDs, ap_rEqDs, ap_rListOf, ap_rIsO, ap_rSortedSet, ap_rSortedSA, ap_rDClear, ap_rDUpd, ap_tSl3, ap_rSameL, ap_iItemsL]
      refine ⟨_, .inl (.of hab6), rfl, flat_strs _, ?_⟩
      rw [in_strs]
      refine ite2 (fun hn2 => ?_) (fun hn2 => ⟨ks, tx, _, _, _, rfl, htd6, s6, t5.trans (.of sT), hD6, hab6, J.skip hn ((mem n).mp (by simpa using hn2))⟩)
      have hny : n ∉ ys := by simpa using hn2
      have hnn : n ∉ n2 ∧ n ∉ g2 := ⟨fun z => hny ((mem n).mpr (.inl z)), fun z => hny ((mem n).mpr (.inr z))⟩
      obtain ⟨J2, hnk⟩ := J.next hn nd1 L1.1.e.tx hnn.1 hnn.2
      obtain ⟨kv6, hd6, k6⟩ := hD6
      have hl6 := k6.len
      have hle6 := J.le
      have hp6 : H6 p0 = some (.tup ((t1 n).map V.str)) := sT _ _ (t5 _ _ hp0)
      refine ⟨_, .inl ⟨kv6, .inr n, hd6, rfl, small1000 (by omega), rfl⟩, ks ++ [n], _, _, _, _, rfl, ?_, Same.put s6 hd0, (t5.trans (.of sT)).trans (.upd hd6 (by intro xs z; cases z)), ⟨_, upd_same, ?_⟩, ?_, J2⟩
      · rw [upd_ne hdtd.symm]; exact htd6
      · have := k6.put (n := n) hp6
        rw [if_neg hnk] at this
        exact this.tk (.upd hd6 (by intro xs z; cases z))
      · rw [upd_ne hdab.symm]; exact hab6
    · rintro σ H5 ⟨ks, tx, v4, v5, v6, rfl, htd5, s5, t5, hD5, hab5, J⟩
      rw [nlen] at J
      dsimp only
      rw [ap_tSeq]
      simp only [ap_tVar, ap_tC, ap_t2I, ap_tAdd, ap_tSub, ap_tMul, ap_tCmp, ap_tIsN, ap_tNotN, ap_tB, ap_tAnd, ap_tOr, ap_tNot, ap_tAndV, ap_tOrV, ap_tNotV, ap_tIf, ap_tNext, ap_tBreak, ap_tCont, ap_tDrop, ap_tRet, ap_tRetN, ap_tIfS, ap_tNever, ap_gName, ap_gNil, ap_gCons, ap_gTup, ap_gSub, ap_tAsg, ap_tPar, ap_tAug, ap_tAugS, ap_ipI, ap_iList, ap_iTup, ap_iRng1, ap_iRng2, ap_tOp, ap_tUn, ap_rI, ap_rI0, ap_rU, ap_rEq, ap_rNe, ap_tTest, ap_tChain, ap_tFld, ap_tCon, ap_sFld, ap_sFldAug, ap_rAdd, ap_rSub, ap_tNil, ap_tCons, ap_tTup, ap_tLst, ap_tCall, ap_tMeth, ap_tMake, ap_tCallK, ap_tCB, ap_tNoPart, ap_tPart, ap_tSl, ap_rSlT, ap_rLtT, ap_rCatT, ap_rIxL, ap_rIxT, ap_rIxS, ap_rIx, ap_rSetL, ap_rSlL, ap_rIn, ap_tBM0, ap_tBM, ap_rAppend, ap_rExtend, ap_rPop, ap_rPopAt, ap_rReverse, ap_rClear, ap_rCat, ap_rRep, ap_rSum, ap_rMax, ap_rMin, ap_rSorted, ap_rSortedS, ap_rSort, ap_rIndex, ap_rAny, ap_rAll, ap_tYes, ap_tDGet, ap_tDIn, ap_tDNotIn, ap_sDPut, ap_sDAug, ap_sDDel, ap_tDNewK, ap_tDNewT, ap_tDisp, ap_tDGet1, ap_tDGet2, ap_tDPop1, ap_tDPop2, ap_tLock, ap_tLockE, ap_iRng3, ap_iRev, ap_iStr, ap_iKeys, ap_iVals, ap_iItems, ap_iKeysM, ap_iEnum, ap_iZip, ap_rNewStrs, ap_tM0, ap_tM1, ap_rSlS, ap_gUnl, ap_rIsB,  ap_tFor, ap_tLc, if_true, if_false, Bool.false_eq_true, Bool.true_eq_false, Bool.not_true, Bool.not_false, not_true_eq_false, not_false_eq_true, cx_K, nox_K, blk_K, List.getElem?_cons_succ, List.getElem?_cons_zero, Option.some.injEq, exists_eq_left', exists_eq_left, exists_eq, exists_eq', V.int.injEq, V.bl.injEq, V.str.injEq, V.ref.injEq, V.ty.injEq, List.cons.injEq, and_true, true_and, exists_and_left, List.set_cons_succ, List.set_cons_zero, List.append_nil, List.nil_append, and_assoc, decide_eq_true_eq, Bool.not_eq_true', decide_eq_false_iff_not, scal, List.length_cons, List.length_nil, Nat.zero_add, Nat.reduceAdd, ap_tCs, ap_tDcB, ap_tLam, ap_tSortK, ap_tDNotIn, ap_tDIn, ap_sDPut, ap_tSetDefF, ap_rLenOf, ap_rTupOf, ap_rNeE, ap_rMaxD, ap_tSortedK, ap_rSortedD, ap_tLockV, ap_rMulS, ap_iEnumS, ap_rRange, ap_rListR, ap_rListD, ap_rDictOf, ap_rNeDs, ap_rEqDs, ap_rListOf, ap_rIsO, ap_rSortedSet, ap_rSortedSA, ap_rDClear, ap_rDUpd, ap_tSl3, ap_rSameL, ap_iItemsL, sp_lyg]
      refine ⟨_, _, s5 _ _ hlo, by kernel_rfl, x1, n1, g1, t1, L1.same s5, fun gl H6 s6 hgl0 hgl => ⟨⟨_, .of hgl⟩, fun D0 hD0 => ?_⟩⟩
      have s06 := s5.trans s6
      have hab6 := s6 _ _ hab5
      have nDg : D0 ≠ gl := (ne_of_none hgl hD0).symm
      have hle1 := L1.1.e.le
      refine lcB_list (xs := g1.map V.str) (fun i H' => Same H6 H' ∧ H' D0 = some (.lst (((g1.take i).filter fun n => decide (n ∉ ys)).map V.str))) ⟨Same.new hD0, upd_same⟩ (fun i H' _ J => .of (J.1 _ _ hgl)) ?_ ?_
      · rintro i v H7 hv ⟨s7, h7⟩
        obtain ⟨n, hn, rfl⟩ : ∃ n, g1[i]? = some n ∧ v = .str n := by
          rw [List.getElem?_map] at hv
          obtain ⟨n, e1, e2⟩ := Option.map_eq_some_iff.mp hv
          exact ⟨n, e1, e2.symm⟩
        have hi : i < g1.length := (List.getElem?_eq_some_iff.mp hn).1
        simp only [ap_tVar, ap_tC, ap_t2I, ap_tAdd, ap_tSub, ap_tMul, ap_tCmp, ap_tIsN, ap_tNotN, ap_tB, ap_tAnd, ap_tOr, ap_tNot, ap_tAndV, ap_tOrV, ap_tNotV, ap_tIf, ap_tNext, ap_tBreak, ap_tCont, ap_tDrop, ap_tRet, ap_tRetN, ap_tIfS, ap_tNever, ap_gName, ap_gNil, ap_gCons, ap_gTup, ap_gSub, ap_tAsg, ap_tPar, ap_tAug, ap_tAugS, ap_ipI, ap_iList, ap_iTup, ap_iRng1, ap_iRng2, ap_tOp, ap_tUn, ap_rI, ap_rI0, ap_rU, ap_rEq, ap_rNe, ap_tTest, ap_tChain, ap_tFld, ap_tCon, ap_sFld, ap_sFldAug, ap_rAdd, ap_rSub, ap_tNil, ap_tCons, ap_tTup, ap_tLst, ap_tCall, ap_tMeth, ap_tMake, ap_tCallK, ap_tCB, ap_tNoPart, ap_tPart, ap_tSl, ap_rSlT, ap_rLtT, ap_rCatT, ap_rIxL, ap_rIxT, ap_rIxS, ap_rIx, ap_rSetL, ap_rSlL, ap_rIn, ap_tBM0, ap_tBM, ap_rAppend, ap_rExtend, ap_rPop, ap_rPopAt, ap_rReverse, ap_rClear, ap_rCat, ap_rRep, ap_rSum, ap_rMax, ap_rMin, ap_rSorted, ap_rSortedS, ap_rSort, ap_rIndex, ap_rAny, ap_rAll, ap_tYes, ap_tDGet, ap_tDIn, ap_tDNotIn, ap_sDPut, ap_sDAug, ap_sDDel, ap_tDNewK, ap_tDNewT, ap_tDisp, ap_tDGet1, ap_tDGet2, ap_tDPop1, ap_tDPop2, ap_tLock, ap_tLockE, ap_iRng3, ap_iRev, ap_iStr, ap_iKeys, ap_iVals, ap_iItems, ap_iKeysM, ap_iEnum, ap_iZip, ap_rNewStrs, ap_tM0, ap_tM1, ap_rSlS, ap_gUnl, ap_rIsB,  ap_tFor, ap_tLc, if_true, if_false, Bool.false_eq_true, Bool.true_eq_false, Bool.not_true, Bool.not_false, not_true_eq_false, not_false_eq_true, cx_K, nox_K, blk_K, List.getElem?_cons_succ, List.getElem?_cons_zero, Option.some.injEq, exists_eq_left', exists_eq_left, exists_eq, exists_eq', V.int.injEq, V.bl.injEq, V.str.injEq, V.ref.injEq, V.ty.injEq, List.cons.injEq, and_true, true_and, exists_and_left, List.set_cons_succ, List.set_cons_zero, List.append_nil, List.nil_append, and_assoc, decide_eq_true_eq, Bool.not_eq_true', decide_eq_false_iff_not, scal, List.length_cons, List.length_nil, Nat.zero_add, Nat.reduceAdd, ap_tCs, ap_tDcB, ap_tLam, ap_tSortK, ap_tDNotIn, ap_tDIn, ap_sDPut, ap_tSetDefF, ap_rLenOf, ap_rTupOf, ap_rNeE, ap_rMaxD, ap_tSortedK, ap_rSortedD, ap_tLockV, ap_rMulS, ap_iEnumS, ap_rRange, ap_rListR, ap_rListD, ap_rDictOf, ap_rNeDs, ap_rEqDs, ap_rListOf, ap_rIsO, ap_rSortedSet, ap_rSortedSA, ap_rDClear, ap_rDUpd, ap_tSl3, ap_rSameL, ap_iItemsL]
        refine ⟨rfl, _, rfl, _, rfl, ab, rfl, _, .inl (.of (s7 _ _ hab6)), rfl, flat_strs _, ?_⟩
        rw [in_strs, take_next hn, List.filter_append]
        refine ite2 (fun hc => ?_) (fun hc => ?_)
        · have hny : n ∉ ys := by simpa using hc
          rw [List.filter_cons_of_pos (by simpa using hny), List.filter_nil]
          refine ⟨_, rfl, _, h7, ?_, Same.put s7 hD0, by rw [upd_same, List.map_append]; rfl⟩
          rw [List.length_map]
          have := List.length_filter_le (fun n => decide (n ∉ ys)) (g1.take i)
          rw [List.length_take] at this
          exact small1000 (by omega)
        · have hny : n ∈ ys := by simpa using hc
          rw [List.filter_cons_of_neg (by simpa using hny), List.filter_nil, List.append_nil]
          exact ⟨s7, h7⟩
      · rintro H7 ⟨s7, h7⟩
        rw [List.length_map, List.take_length] at h7
        have s07 := s06.trans s7
        refine ⟨CL, dx2, _, s07 _ _ hup, cls, na1, _, rfl, _, _, s07 _ _ hup, by kernel_rfl, x2, n2, g2, t2, L2.same s07, fun gu H8 s8 hgu0 hgu => ⟨_, hgu, _, s8 _ _ h7, ?_, fun p hp => ?_⟩⟩
        · have := List.length_filter_le (fun n => decide (n ∉ ys)) g1
          simp only [List.length_map]
          have := L2.1.e.le
          exact Nat.le_of_lt (small1000 (by omega))
        rw [← List.map_append]
        have s9 := Same.new hp (o := .lst ((g2 ++ g1.filter fun n => decide (n ∉ ys)).map V.str))
        have hp9 := upd_same (H := H8) (a := p) (o := .lst ((g2 ++ g1.filter fun n => decide (n ∉ ys)).map V.str))
        generalize upd H8 p (.lst ((g2 ++ g1.filter fun n => decide (n ∉ ys)).map V.str)) = H9 at *
        have s69 := (s7.trans s8).trans s9
        have s09 := (s07.trans s8).trans s9
        have hD9 := hD5.same (s6.trans s69)
        have fil : ∀ n, n ∈ (g1.filter fun n => decide (n ∉ ys)) ↔ n ∈ g1 ∧ n ∉ n2 ∧ n ∉ g2 := fun n => by
          rw [List.mem_filter, decide_eq_true_eq, mem n, not_or]
        have hm : ∀ n, n ∈ ks ↔ n ∈ n2 ∨ (n ∈ n1 ∧ n ∉ n2 ∧ n ∉ g2) := fun n => by
          have := J.m n
          rw [List.take_length] at this
          exact this
        have fle := List.length_filter_le (fun n => decide (n ∉ ys)) g1
        have kle := J.le
        have dn : (g2 ++ g1.filter fun n => decide (n ∉ ys)).Nodup := List.nodup_append.mpr ⟨L2.1.e.gn, L1.1.e.gn.filter _, fun a ha b hb e => ((fil b).mp hb).2.2 (e ▸ ha)⟩
        refine mk_ly hD9 J.o (.of hp9) (fun n hn => ?_) (fun n hn hk => ?_) (by rw [List.length_append]; omega) (fun l kp gn ns' gs' H' hl0 s10 L _ _ p1 p2 => ?_)
        · rcases List.mem_append.mp hn with h | h
          · exact L2.1.e.go n h
          · exact L1.1.e.go n ((fil n).mp h).1
        · rcases List.mem_append.mp hn with h | h
          · rcases (hm n).mp hk with z | z
            · exact L2.1.e.ap n h z
            · exact z.2.2 h
          · have f1 := (fil n).mp h
            rcases (hm n).mp hk with z | z
            · exact f1.2.1 z
            · exact L1.1.e.ap n f1.1 z.1
        · rw [dedS_id dn] at p2
          refine q l ns' gs' tx H' (s09.trans s10) (s09.free hl0) L.at_ ⟨fun n => by rw [p1.mem_iff, hm], fun n => by rw [p2.mem_iff, List.mem_append, fil], J.u, fun n a b c => J.l n (by rw [List.take_length]; exact a) b c⟩
abbrev s_lowest : Stmt := top 4
abbrev N_lowest : List Str := ["layer"]
theorem sc_lowest : FnScope N_lowest ["layer"] (defScope s_lowest) := ⟨rfl, rfl, rfl, by decide +kernel, rfl, by decide +kernel, by decide +kernel⟩
def sp_low (CL : Addr) : Sp := fun vs H Q _ => ∃ (l x : Addr) (ns gs : List Str) (tx : Str → List Str), vs = [.ref l] ∧ LyAt CL H l x ns gs tx ∧ ∀ (r : Addr) (ns' : List Str) H', Same H H' → H r = none → LyAt CL H' r x ns' [] tx → ns'.Perm ns → Q (.ref r) H'
theorem c_low (T : Txt mg) {CL : Addr} (cls : Cls K CL) (na1 : NoAttr K CL "rules") (D : Def K mg "lowest" s_lowest) (M_texts : Mth P w K mg base 1 CL "texts" ["self"] (sp_lyt CL))
    (K_Layer : MCal P w K mg base 1 "Layer" CL ["self", "rulebook", "texts", "gone"] (sp_lyI K CL)) : Cal P w K mg base 3 "lowest" ["layer"] (sp_low CL) := by
  refine D.cal sc_lowest (fun _ _ _ _ _ _ us hl => match us, hl with | [_], _ => rfl) (fun vs H Q E h => ?_) (fun f cdv A outer s H vs Q E hr h => ?_)
  · obtain ⟨l, x, ns, gs, tx, rfl, _⟩ := h; rfl
  · obtain ⟨l, x, ns, gs, tx, rfl, L, q⟩ := h
    obtain ⟨dx, kp, gn, hl⟩ := L.obj
    refine ⟨_, (pss_one (ps_ret (pe_mk K_Layer (hr.mono (by decide)) (pa_cons (pe_fld (pv 0) rfl) (pa_cons (pe_mth0 M_texts (hr.mono (by decide)) (pv 0)) (pa_cons (pe_lst (pa_nil)) pa_nil)))))), ?_⟩
    have es0 : start N_lowest [V.ref l] = [some (.ref l)] := rfl
    rw [es0]
    simp only [ap_tVar, ap_tC, ap_t2I, ap_tAdd, ap_tSub, ap_tMul, ap_tCmp, ap_tIsN, ap_tNotN, ap_tB, ap_tAnd, ap_tOr, ap_tNot, ap_tAndV, ap_tOrV, ap_tNotV, ap_tIf, ap_tNext, ap_tSeq, ap_tBreak, ap_tCont, ap_tDrop, ap_tRet, ap_tRetN, ap_tIfS, ap_tNever, ap_gName, ap_gNil, ap_gCons, ap_gTup, ap_gSub, ap_tAsg, ap_tPar, ap_tAug, ap_tAugS, ap_ipI, ap_iList, ap_iTup, ap_iRng1, ap_iRng2, ap_tOp, ap_tUn, ap_rI, ap_rI0, ap_rU, ap_rEq, ap_rNe, ap_tTest, ap_tChain, ap_tFld, ap_tCon, ap_sFld, ap_sFldAug, ap_rAdd, ap_rSub, ap_tNil, ap_tCons, ap_tTup, ap_tLst, ap_tCall, ap_tMeth, ap_tMake, ap_tCallK, ap_tCB, ap_tNoPart, ap_tPart, ap_tSl, ap_rSlT, ap_rLtT, ap_rCatT, ap_rIxL, ap_rIxT, ap_rIxS, ap_rIx, ap_rSetL, ap_rSlL, ap_rIn, ap_tBM0, ap_tBM, ap_rAppend, ap_rExtend, ap_rPop, ap_rPopAt, ap_rReverse, ap_rClear, ap_rCat, ap_rRep, ap_rSum, ap_rMax, ap_rMin, ap_rSorted, ap_rSortedS, ap_rSort, ap_rIndex, ap_rAny, ap_rAll, ap_tYes, ap_tDGet, ap_tDIn, ap_tDNotIn, ap_sDPut, ap_sDAug, ap_sDDel, ap_tDNewK, ap_tDNewT, ap_tDisp, ap_tDGet1, ap_tDGet2, ap_tDPop1, ap_tDPop2, ap_tLock, ap_tLockE, ap_iRng3, ap_iRev, ap_iStr, ap_iKeys, ap_iVals, ap_iItems, ap_iKeysM, ap_iEnum, ap_iZip, ap_rNewStrs, ap_tM0, ap_tM1, ap_rSlS, ap_gUnl, ap_rIsB,  ap_tFor, ap_tLc, if_true, if_false, Bool.false_eq_true, Bool.true_eq_false, Bool.not_true, Bool.not_false, not_true_eq_false, not_false_eq_true, cx_K, nox_K, blk_K, List.getElem?_cons_succ, List.getElem?_cons_zero, Option.some.injEq, exists_eq_left', exists_eq_left, exists_eq, exists_eq', V.int.injEq, V.bl.injEq, V.str.injEq, V.ref.injEq, V.ty.injEq, List.cons.injEq, and_true, true_and, exists_and_left, List.set_cons_succ, List.set_cons_zero, List.append_nil, List.nil_append, and_assoc, decide_eq_true_eq, Bool.not_eq_true', decide_eq_false_iff_not, scal, List.length_cons, List.length_nil, Nat.zero_add, Nat.reduceAdd, ap_tCs, ap_tDcB, ap_tLam, ap_tSortK, ap_tDNotIn, ap_tDIn, ap_sDPut, ap_tSetDefF, ap_rLenOf, ap_rTupOf, ap_rNeE, ap_rMaxD, ap_tSortedK, ap_rSortedD, ap_tLockV, ap_rMulS, ap_iEnumS, ap_rRange, ap_rListR, ap_rListD, ap_rDictOf, ap_rNeDs, ap_rEqDs, ap_rListOf, ap_rIsO, ap_rSortedSet, ap_rSortedSA, ap_rDClear, ap_rDUpd, ap_tSl3, ap_rSameL, ap_iItemsL, sp_lyt]
    refine ⟨CL, dx, _, hl, cls, na1, _, rfl, _, _, hl, by kernel_rfl, x, ns, gs, tx, L, fun d H1 s1 hd0 hd => ⟨by decide, fun g hg => ?_⟩⟩
    have s2 := Same.new hg (o := .lst [])
    have hg2 := upd_same (H := H1) (a := g) (o := .lst [])
    generalize upd H1 g (.lst []) = H2 at *
    have hle := L.1.e.le
    refine mk_ly (gs := []) (hd.same s2) L.1.e.tx (.of hg2) (by simp) (by simp) (by simp; omega) (fun r kp2 gn2 ns' gs' H' hr0 s3 L' _ _ p1 p2 => ?_)
    have e : gs' = [] := List.Perm.eq_nil p2
    subst e
    exact q r ns' H' ((s1.trans s2).trans s3) ((s1.trans s2).free hr0) L'.at_ p1
end
end My
set_option maxHeartbeats 4000000

namespace My
open PySem L2
section
variable {P : Program} {w : World} {K : PySem.W.Frag} {mg : Str → Option Value} {base : Heap}
theorem Str.eq_of {x y : Str} (h : x.cps.toList = y.cps.toList) : x = y := by
  obtain ⟨x⟩ := x
  obtain ⟨y⟩ := y
  have : x = y := Array.toList_inj.mp h
  rw [this]
/-! sorted texts are told by their set -/
theorem rising_pw : ∀ (ys : List Str) (p : Str), PyProof.Rows.risingS p ys = true → (p :: ys).Pairwise fun a b => a.cps.toList ≤ b.cps.toList
  | [], p, _ => List.pairwise_singleton _ _
  | y :: r, p, h => by
    have h' : (!PySem.Spec.ltCps y.cps.toList p.cps.toList && PyProof.Rows.risingS y r) = true := h
    rw [Bool.and_eq_true, PyProof.Rows.ltCps_eq, Bool.not_eq_true', decide_eq_false_iff_not, List.not_lt] at h'
    have ih := rising_pw r y h'.2
    refine List.pairwise_cons.mpr ⟨fun z hz => ?_, ih⟩
    rcases List.mem_cons.mp hz with rfl | hz
    · exact h'.1
    · exact List.le_trans h'.1 ((List.pairwise_cons.mp ih).1 z hz)
theorem sorted_pw : ∀ {ys : List Str}, PyProof.Rows.sortedS ys = true → ys.Pairwise fun a b => a.cps.toList ≤ b.cps.toList
  | [], _ => List.Pairwise.nil
  | y :: r, h => rising_pw r y h
theorem sorted_one {ys zs : List Str} (h1 : PyProof.Rows.sortedS ys = true) (h2 : PyProof.Rows.sortedS zs = true) (p : ys.Perm zs) : ys = zs :=
  List.Perm.eq_of_pairwise (fun a b _ _ h h' => Str.eq_of (List.le_antisymm h h')) (sorted_pw h1) (sorted_pw h2) p
theorem strs_ok {zs : List Str} (h : ∀ n ∈ zs, NmOk n) : ∀ y ∈ zs, PyData.strOk y = true := fun y hy => strOk_good (h y hy).good
theorem strOk_tx {x : Str} (h : TxS x) : PyData.strOk x = true := strOk_good h.good
/-- two dicts of texts that hold the same -/
theorem same_tx {H : Hp} {ns ms : List Str} {tx tx' : Str → List Str} {ka kb : List (Key × V)} (ha : TK H ns tx ka) (hb : TK H ms tx' kb) (hO : TxO ns tx) (p : ns.Perm ms) (h : ∀ n ∈ ns, tx n = tx' n) : SameDs K H ka kb := by
  refine ⟨fun k => match k with | .inr n => .tuple ((tx n).map PyData.str) | _ => .none, by rw [ha.len, hb.len, p.length_eq], fun q hq => ?_⟩
  obtain ⟨n, v, e, p0, rfl, hp0⟩ := ha.ent q hq
  subst e
  have hn : n ∈ ns := (ha.mem n).mp (List.mem_map.mpr ⟨_, hq, rfl⟩)
  obtain ⟨p1, e1, hp1⟩ := hb.get (p.mem_iff.mp hn)
  have ok := hO.ok n hn
  have hok : ∀ y ∈ tx n, PyData.strOk y = true := fun y hy => strOk_tx (ok.2.2 y hy)
  refine ⟨.tup (.inl (.inl hp0)) (strs_dp _), ?_, _, e1, .tup (.inl (.inl (by rw [h n hn]; exact hp1))) (strs_dp _)⟩
  have := strs_shaped hok
  exact this
abbrev s_l_right : Stmt := top 27
abbrev N_l_right : List Str := ["_law_layer_here", "_law_texts", "_law_gone", "_law_turn", "_law_names", "_law_left", "_law_told"]
theorem sc_l_right : FnScope N_l_right ["_law_layer_here", "_law_texts", "_law_gone"] (defScope s_l_right) := ⟨rfl, rfl, rfl, by decide +kernel, rfl, by decide +kernel, by decide +kernel⟩
def sp_right (K : PySem.W.Frag) (CL : Addr) : Sp := fun vs H Q _ => ∃ (l x d g : Addr) (ns gs ms hs : List Str) (tx tx' : Str → List Str), vs = [.ref l, .ref d, .ref g] ∧ LyAt CL H l x ns gs tx ∧ TD H d ms tx' ∧ H g = some (.lst (hs.map V.str)) ∧ ns.Perm ms ∧ gs.Perm hs ∧ (∀ n ∈ ns, tx n = tx' n) ∧ ∀ H', Same H H' → Q (.bl true) H'
def RiI (H : Hp) (l d g : Addr) (i : Nat) (σ : St) (H' : Hp) : Prop := ∃ (v3 v4 v5 v6 : Option V), σ = [some (.ref l), some (.ref d), some (.ref g), v3, v4, v5, v6] ∧ Same H H'
theorem c_right (T : Txt mg) {CL : Addr} (D : Def K mg "_law_right" s_l_right) (M_names : Mth P w K mg base 1 CL "names" ["self"] (sp_lyn CL)) (M_gone : Mth P w K mg base 1 CL "gone" ["self"] (sp_lyg CL)) (M_texts : Mth P w K mg base 1 CL "texts" ["self"] (sp_lyt CL)) :
    Cal P w K mg base 2 "_law_right" ["_law_layer_here", "_law_texts", "_law_gone"] (sp_right K CL) := by
  refine D.cal sc_l_right (fun _ _ _ _ _ _ us hl => match us, hl with | [_, _, _], _ => rfl) (fun vs H Q E h => ?_) (fun f cdv A outer s H vs Q E hr h => ?_)
  · obtain ⟨l, x, d, g, ns, gs, ms, hs, tx, tx', rfl, _⟩ := h; rfl
  · obtain ⟨l, x, d, g, ns, gs, ms, hs, tx, tx', rfl, L, hd, hg, pn, pg, htx, q⟩ := h
    have hu := hu_of hr
    refine ⟨_, (pss_cons (ps_for PassesOwn.never rfl (pi_range1 (by rfl) T.n_range (pa_cons pe_int pa_nil)) (pg_name (i := 3) sc_l_right.nd rfl (by first | exact Or.inl rfl | exact Or.inr rfl)) (pss_cons (ps_set (i := 4) sc_l_right.nd rfl (by first | exact Or.inl rfl | exact Or.inr rfl) (pe_mth0 M_names (hr.mono (by decide)) (pv 0)))
        (pss_cons (ps_set (i := 5) sc_l_right.nd rfl (by first | exact Or.inl rfl | exact Or.inr rfl) (pe_mth0 M_gone (hr.mono (by decide)) (pv 0)))
        (pss_cons (ps_set (i := 6) sc_l_right.nd rfl (by first | exact Or.inl rfl | exact Or.inr rfl) (pe_mth0 M_texts (hr.mono (by decide)) (pv 0)))
        (pss_cons (ps_if (PW.pt (pw_or (pt_not (pt_val (pe_callB (call_isB true) (by rfl) T.n_isinstance (by decide +kernel) (pa_cons (pv 4) (pa_cons (pe_bltn (v := .ty "list") (by rfl) T.n_list (by decide +kernel) rfl) pa_nil))))) (pw_or1 (pt_cmpR (r := rNeD K) (op_neD hr.units) (pv 4) (pe_callB cr_sortedSA (by rfl) T.n_sorted (by decide +kernel) (pa_cons (pe_op op_cat (pe_callTy (call_listD rfl) (by rfl) T.n_list (by decide +kernel) (pa_cons (pv 1) pa_nil)) (pv 2)) pa_nil)) (nomark _))))) (pss_one (ps_ret pe_bl)) pss_nil)
        (pss_cons (ps_if (PW.pt (pw_or (pt_not (pt_val (pe_callB (call_isB true) (by rfl) T.n_isinstance (by decide +kernel) (pa_cons (pv 5) (pa_cons (pe_bltn (v := .ty "list") (by rfl) T.n_list (by decide +kernel) rfl) pa_nil))))) (pw_or (pt_cmpR (r := rNeD K) (op_neD hr.units) (pv 5) (pe_callB cr_sortedSA (by rfl) T.n_sorted (by decide +kernel) (pa_cons (pv 2) pa_nil)) (nomark _)) (pw_or (pt_not (pt_val (pe_callB (call_isB true) (by rfl) T.n_isinstance (by decide +kernel) (pa_cons (pv 6) (pa_cons (pe_bltn (v := .ty "dict") (by rfl) T.n_dict (by decide +kernel) rfl) pa_nil))))) (pw_or1 (pt_cmpR (r := rNeDs K) (op_neDs (Room.u80 hr)) (pv 6) (pv 1) (nomark _))))))) (pss_one (ps_ret pe_bl)) pss_nil)
        (pss_cons (ps_expr (pe_bm PySem.F.plainAttrs_list PySem.F.slot_list_append PySem.F.type_list_append mt_append (pv 4) (pa_cons pe_str pa_nil)))
        (pss_cons (ps_expr (pe_bm PySem.F.plainAttrs_list PySem.F.slot_list_append PySem.F.type_list_append mt_append (pv 5) (pa_cons pe_str pa_nil)))
        (pss_one (ps_expr (pe_bm0 PySem.F.plainAttrs_dict PySem.F.slot_dict_clear PySem.F.type_dict_clear mt_dclear (pv 6))))))))))))
        (pss_one (ps_ret pe_bl))), ?_⟩
    have es0 : start N_l_right [V.ref l, V.ref d, V.ref g] = [some (.ref l), some (.ref d), some (.ref g), none, none, none, none] := rfl
    obtain ⟨dx, kp, gn, hl⟩ := L.obj
    rw [es0, ap_tSeq]
    simp only [ap_tVar, ap_tC, ap_t2I, ap_tAdd, ap_tSub, ap_tMul, ap_tCmp, ap_tIsN, ap_tNotN, ap_tB, ap_tAnd, ap_tOr, ap_tNot, ap_tAndV, ap_tOrV, ap_tNotV, ap_tIf, ap_tNext, ap_tBreak, ap_tCont, ap_tDrop, ap_tRet, ap_tRetN, ap_tIfS, ap_tNever, ap_gName, ap_gNil, ap_gCons, ap_gTup, ap_gSub, ap_tAsg, ap_tPar, ap_tAug, ap_tAugS, ap_ipI, ap_iList, ap_iTup, ap_iRng1, ap_iRng2, ap_tOp, ap_tUn, ap_rI, ap_rI0, ap_rU, ap_rEq, ap_rNe, ap_tTest, ap_tChain, ap_tFld, ap_tCon, ap_sFld, ap_sFldAug, ap_rAdd, ap_rSub, ap_tNil, ap_tCons, ap_tTup, ap_tLst, ap_tCall, ap_tMeth, ap_tMake, ap_tCallK, ap_tCB, ap_tNoPart, ap_tPart, ap_tSl, ap_rSlT, ap_rLtT, ap_rCatT, ap_rIxL, ap_rIxT, ap_rIxS, ap_rIx, ap_rSetL, ap_rSlL, ap_rIn, ap_tBM0, ap_tBM, ap_rAppend, ap_rExtend, ap_rPop, ap_rPopAt, ap_rReverse, ap_rClear, ap_rCat, ap_rRep, ap_rSum, ap_rMax, ap_rMin, ap_rSorted, ap_rSortedS, ap_rSort, ap_rIndex, ap_rAny, ap_rAll, ap_tYes, ap_tDGet, ap_tDIn, ap_tDNotIn, ap_sDPut, ap_sDAug, ap_sDDel, ap_tDNewK, ap_tDNewT, ap_tDisp, ap_tDGet1, ap_tDGet2, ap_tDPop1, ap_tDPop2, ap_tLock, ap_tLockE, ap_iRng3, ap_iRev, ap_iStr, ap_iKeys, ap_iVals, ap_iItems, ap_iKeysM, ap_iEnum, ap_iZip, ap_rNewStrs, ap_tM0, ap_tM1, ap_rSlS, ap_gUnl, ap_rIsB,  ap_tFor, ap_tLc, if_true, if_false, Bool.false_eq_true, Bool.true_eq_false, Bool.not_true, Bool.not_false, not_true_eq_false, not_false_eq_true, cx_K, nox_K, blk_K, List.getElem?_cons_succ, List.getElem?_cons_zero, Option.some.injEq, exists_eq_left', exists_eq_left, exists_eq, exists_eq', V.int.injEq, V.bl.injEq, V.str.injEq, V.ref.injEq, V.ty.injEq, List.cons.injEq, and_true, true_and, exists_and_left, List.set_cons_succ, List.set_cons_zero, List.append_nil, List.nil_append, and_assoc, decide_eq_true_eq, Bool.not_eq_true', decide_eq_false_iff_not, scal, List.length_cons, List.length_nil, Nat.zero_add, Nat.reduceAdd, ap_tCs, ap_tDcB, ap_tLam, ap_tSortK, ap_tDNotIn, ap_tDIn, ap_sDPut, ap_tSetDefF, ap_rLenOf, ap_rTupOf, ap_rNeE, ap_rMaxD, ap_tSortedK, ap_rSortedD, ap_tLockV, ap_rMulS, ap_iEnumS, ap_rRange, ap_rListR, ap_rListD, ap_rDictOf, ap_rNeDs, ap_rEqDs, ap_rListOf, ap_rIsO, ap_rSortedSet, ap_rSortedSA, ap_rDClear, ap_rDUpd, ap_tSl3, ap_rSameL, ap_iItemsL]
    refine ⟨by decide, by decide, ?_⟩
    refine forB_range (RiI H l d g) ⟨none, none, none, none, rfl, Same.refl _⟩ ?_ ?_
    · rintro i σ H1 hi ⟨v3, v4, v5, v6, rfl, s1⟩
      rw [ap_gName]
      dsimp only
      rw [ap_tSeq]
      simp only [ap_tVar, ap_tC, ap_t2I, ap_tAdd, ap_tSub, ap_tMul, ap_tCmp, ap_tIsN, ap_tNotN, ap_tB, ap_tAnd, ap_tOr, ap_tNot, ap_tAndV, ap_tOrV, ap_tNotV, ap_tIf, ap_tNext, ap_tBreak, ap_tCont, ap_tDrop, ap_tRet, ap_tRetN, ap_tIfS, ap_tNever, ap_gName, ap_gNil, ap_gCons, ap_gTup, ap_gSub, ap_tAsg, ap_tPar, ap_tAug, ap_tAugS, ap_ipI, ap_iList, ap_iTup, ap_iRng1, ap_iRng2, ap_tOp, ap_tUn, ap_rI, ap_rI0, ap_rU, ap_rEq, ap_rNe, ap_tTest, ap_tChain, ap_tFld, ap_tCon, ap_sFld, ap_sFldAug, ap_rAdd, ap_rSub, ap_tNil, ap_tCons, ap_tTup, ap_tLst, ap_tCall, ap_tMeth, ap_tMake, ap_tCallK, ap_tCB, ap_tNoPart, ap_tPart, ap_tSl, ap_rSlT, ap_rLtT, ap_rCatT, ap_rIxL, ap_rIxT, ap_rIxS, ap_rIx, ap_rSetL, ap_rSlL, ap_rIn, ap_tBM0, ap_tBM, ap_rAppend, ap_rExtend, ap_rPop, ap_rPopAt, ap_rReverse, ap_rClear, ap_rCat, ap_rRep, ap_rSum, ap_rMax, ap_rMin, ap_rSorted, ap_rSortedS, ap_rSort, ap_rIndex, ap_rAny, ap_rAll, ap_tYes, ap_tDGet, ap_tDIn, ap_tDNotIn, ap_sDPut, ap_sDAug, ap_sDDel, ap_tDNewK, ap_tDNewT, ap_tDisp, ap_tDGet1, ap_tDGet2, ap_tDPop1, ap_tDPop2, ap_tLock, ap_tLockE, ap_iRng3, ap_iRev, ap_iStr, ap_iKeys, ap_iVals, ap_iItems, ap_iKeysM, ap_iEnum, ap_iZip, ap_rNewStrs, ap_tM0, ap_tM1, ap_rSlS, ap_gUnl, ap_rIsB,  ap_tFor, ap_tLc, if_true, if_false, Bool.false_eq_true, Bool.true_eq_false, Bool.not_true, Bool.not_false, not_true_eq_false, not_false_eq_true, cx_K, nox_K, blk_K, List.getElem?_cons_succ, List.getElem?_cons_zero, Option.some.injEq, exists_eq_left', exists_eq_left, exists_eq, exists_eq', V.int.injEq, V.bl.injEq, V.str.injEq, V.ref.injEq, V.ty.injEq, List.cons.injEq, and_true, true_and, exists_and_left, List.set_cons_succ, List.set_cons_zero, List.append_nil, List.nil_append, and_assoc, decide_eq_true_eq, Bool.not_eq_true', decide_eq_false_iff_not, scal, List.length_cons, List.length_nil, Nat.zero_add, Nat.reduceAdd, ap_tCs, ap_tDcB, ap_tLam, ap_tSortK, ap_tDNotIn, ap_tDIn, ap_sDPut, ap_tSetDefF, ap_rLenOf, ap_rTupOf, ap_rNeE, ap_rMaxD, ap_tSortedK, ap_rSortedD, ap_tLockV, ap_rMulS, ap_iEnumS, ap_rRange, ap_rListR, ap_rListD, ap_rDictOf, ap_rNeDs, ap_rEqDs, ap_rListOf, ap_rIsO, ap_rSortedSet, ap_rSortedSA, ap_rDClear, ap_rDUpd, ap_tSl3, ap_rSameL, ap_iItemsL, sp_lyn]
      refine ⟨_, _, s1 _ _ hl, by kernel_rfl, x, ns, gs, tx, L.same s1, fun r1 ys H2 s2 hr1 h2 hys hsy => ?_⟩
      have s02 := s1.trans s2
      have hr10 := s1.free hr1
      rw [ap_tSeq]
      simp only [ap_tVar, ap_tC, ap_t2I, ap_tAdd, ap_tSub, ap_tMul, ap_tCmp, ap_tIsN, ap_tNotN, ap_tB, ap_tAnd, ap_tOr, ap_tNot, ap_tAndV, ap_tOrV, ap_tNotV, ap_tIf, ap_tNext, ap_tBreak, ap_tCont, ap_tDrop, ap_tRet, ap_tRetN, ap_tIfS, ap_tNever, ap_gName, ap_gNil, ap_gCons, ap_gTup, ap_gSub, ap_tAsg, ap_tPar, ap_tAug, ap_tAugS, ap_ipI, ap_iList, ap_iTup, ap_iRng1, ap_iRng2, ap_tOp, ap_tUn, ap_rI, ap_rI0, ap_rU, ap_rEq, ap_rNe, ap_tTest, ap_tChain, ap_tFld, ap_tCon, ap_sFld, ap_sFldAug, ap_rAdd, ap_rSub, ap_tNil, ap_tCons, ap_tTup, ap_tLst, ap_tCall, ap_tMeth, ap_tMake, ap_tCallK, ap_tCB, ap_tNoPart, ap_tPart, ap_tSl, ap_rSlT, ap_rLtT, ap_rCatT, ap_rIxL, ap_rIxT, ap_rIxS, ap_rIx, ap_rSetL, ap_rSlL, ap_rIn, ap_tBM0, ap_tBM, ap_rAppend, ap_rExtend, ap_rPop, ap_rPopAt, ap_rReverse, ap_rClear, ap_rCat, ap_rRep, ap_rSum, ap_rMax, ap_rMin, ap_rSorted, ap_rSortedS, ap_rSort, ap_rIndex, ap_rAny, ap_rAll, ap_tYes, ap_tDGet, ap_tDIn, ap_tDNotIn, ap_sDPut, ap_sDAug, ap_sDDel, ap_tDNewK, ap_tDNewT, ap_tDisp, ap_tDGet1, ap_tDGet2, ap_tDPop1, ap_tDPop2, ap_tLock, ap_tLockE, ap_iRng3, ap_iRev, ap_iStr, ap_iKeys, ap_iVals, ap_iItems, ap_iKeysM, ap_iEnum, ap_iZip, ap_rNewStrs, ap_tM0, ap_tM1, ap_rSlS, ap_gUnl, ap_rIsB,  ap_tFor, ap_tLc, if_true, if_false, Bool.false_eq_true, Bool.true_eq_false, Bool.not_true, Bool.not_false, not_true_eq_false, not_false_eq_true, cx_K, nox_K, blk_K, List.getElem?_cons_succ, List.getElem?_cons_zero, Option.some.injEq, exists_eq_left', exists_eq_left, exists_eq, exists_eq', V.int.injEq, V.bl.injEq, V.str.injEq, V.ref.injEq, V.ty.injEq, List.cons.injEq, and_true, true_and, exists_and_left, List.set_cons_succ, List.set_cons_zero, List.append_nil, List.nil_append, and_assoc, decide_eq_true_eq, Bool.not_eq_true', decide_eq_false_iff_not, scal, List.length_cons, List.length_nil, Nat.zero_add, Nat.reduceAdd, ap_tCs, ap_tDcB, ap_tLam, ap_tSortK, ap_tDNotIn, ap_tDIn, ap_sDPut, ap_tSetDefF, ap_rLenOf, ap_rTupOf, ap_rNeE, ap_rMaxD, ap_tSortedK, ap_rSortedD, ap_tLockV, ap_rMulS, ap_iEnumS, ap_rRange, ap_rListR, ap_rListD, ap_rDictOf, ap_rNeDs, ap_rEqDs, ap_rListOf, ap_rIsO, ap_rSortedSet, ap_rSortedSA, ap_rDClear, ap_rDUpd, ap_tSl3, ap_rSameL, ap_iItemsL, sp_lyg]
      refine ⟨_, _, s02 _ _ hl, by kernel_rfl, x, ns, gs, tx, L.same s02, fun r2 H3 s3 hr2 h3 => ?_⟩
      have s03 := s02.trans s3
      have hr20 := s02.free hr2
      rw [ap_tSeq]
      simp only [ap_tVar, ap_tC, ap_t2I, ap_tAdd, ap_tSub, ap_tMul, ap_tCmp, ap_tIsN, ap_tNotN, ap_tB, ap_tAnd, ap_tOr, ap_tNot, ap_tAndV, ap_tOrV, ap_tNotV, ap_tIf, ap_tNext, ap_tBreak, ap_tCont, ap_tDrop, ap_tRet, ap_tRetN, ap_tIfS, ap_tNever, ap_gName, ap_gNil, ap_gCons, ap_gTup, ap_gSub, ap_tAsg, ap_tPar, ap_tAug, ap_tAugS, ap_ipI, ap_iList, ap_iTup, ap_iRng1, ap_iRng2, ap_tOp, ap_tUn, ap_rI, ap_rI0, ap_rU, ap_rEq, ap_rNe, ap_tTest, ap_tChain, ap_tFld, ap_tCon, ap_sFld, ap_sFldAug, ap_rAdd, ap_rSub, ap_tNil, ap_tCons, ap_tTup, ap_tLst, ap_tCall, ap_tMeth, ap_tMake, ap_tCallK, ap_tCB, ap_tNoPart, ap_tPart, ap_tSl, ap_rSlT, ap_rLtT, ap_rCatT, ap_rIxL, ap_rIxT, ap_rIxS, ap_rIx, ap_rSetL, ap_rSlL, ap_rIn, ap_tBM0, ap_tBM, ap_rAppend, ap_rExtend, ap_rPop, ap_rPopAt, ap_rReverse, ap_rClear, ap_rCat, ap_rRep, ap_rSum, ap_rMax, ap_rMin, ap_rSorted, ap_rSortedS, ap_rSort, ap_rIndex, ap_rAny, ap_rAll, ap_tYes, ap_tDGet, ap_tDIn, ap_tDNotIn, ap_sDPut, ap_sDAug, ap_sDDel, ap_tDNewK, ap_tDNewT, ap_tDisp, ap_tDGet1, ap_tDGet2, ap_tDPop1, ap_tDPop2, ap_tLock, ap_tLockE, ap_iRng3, ap_iRev, ap_iStr, ap_iKeys, ap_iVals, ap_iItems, ap_iKeysM, ap_iEnum, ap_iZip, ap_rNewStrs, ap_tM0, ap_tM1, ap_rSlS, ap_gUnl, ap_rIsB,  ap_tFor, ap_tLc, if_true, if_false, Bool.false_eq_true, Bool.true_eq_false, Bool.not_true, Bool.not_false, not_true_eq_false, not_false_eq_true, cx_K, nox_K, blk_K, List.getElem?_cons_succ, List.getElem?_cons_zero, Option.some.injEq, exists_eq_left', exists_eq_left, exists_eq, exists_eq', V.int.injEq, V.bl.injEq, V.str.injEq, V.ref.injEq, V.ty.injEq, List.cons.injEq, and_true, true_and, exists_and_left, List.set_cons_succ, List.set_cons_zero, List.append_nil, List.nil_append, and_assoc, decide_eq_true_eq, Bool.not_eq_true', decide_eq_false_iff_not, scal, List.length_cons, List.length_nil, Nat.zero_add, Nat.reduceAdd, ap_tCs, ap_tDcB, ap_tLam, ap_tSortK, ap_tDNotIn, ap_tDIn, ap_sDPut, ap_tSetDefF, ap_rLenOf, ap_rTupOf, ap_rNeE, ap_rMaxD, ap_tSortedK, ap_rSortedD, ap_tLockV, ap_rMulS, ap_iEnumS, ap_rRange, ap_rListR, ap_rListD, ap_rDictOf, ap_rNeDs, ap_rEqDs, ap_rListOf, ap_rIsO, ap_rSortedSet, ap_rSortedSA, ap_rDClear, ap_rDUpd, ap_tSl3, ap_rSameL, ap_iItemsL, sp_lyt]
      refine ⟨_, _, s03 _ _ hl, by kernel_rfl, x, ns, gs, tx, L.same s03, fun r3 H4 s4 hr3 h4 => ?_⟩
      have s04 := s03.trans s4
      have hr30 := s03.free hr3
      have e1 := s4 _ _ (s3 _ _ h2)
      have e2 := s4 _ _ h3
      rw [ap_tSeq]
      refine nx_gen fun nx hnx => ?_
      simp only [ap_tVar, ap_tC, ap_t2I, ap_tAdd, ap_tSub, ap_tMul, ap_tCmp, ap_tIsN, ap_tNotN, ap_tB, ap_tAnd, ap_tOr, ap_tNot, ap_tAndV, ap_tOrV, ap_tNotV, ap_tIf, ap_tNext, ap_tBreak, ap_tCont, ap_tDrop, ap_tRet, ap_tRetN, ap_tIfS, ap_tNever, ap_gName, ap_gNil, ap_gCons, ap_gTup, ap_gSub, ap_tAsg, ap_tPar, ap_tAug, ap_tAugS, ap_ipI, ap_iList, ap_iTup, ap_iRng1, ap_iRng2, ap_tOp, ap_tUn, ap_rI, ap_rI0, ap_rU, ap_rEq, ap_rNe, ap_tTest, ap_tChain, ap_tFld, ap_tCon, ap_sFld, ap_sFldAug, ap_rAdd, ap_rSub, ap_tNil, ap_tCons, ap_tTup, ap_tLst, ap_tCall, ap_tMeth, ap_tMake, ap_tCallK, ap_tCB, ap_tNoPart, ap_tPart, ap_tSl, ap_rSlT, ap_rLtT, ap_rCatT, ap_rIxL, ap_rIxT, ap_rIxS, ap_rIx, ap_rSetL, ap_rSlL, ap_rIn, ap_tBM0, ap_tBM, ap_rAppend, ap_rExtend, ap_rPop, ap_rPopAt, ap_rReverse, ap_rClear, ap_rCat, ap_rRep, ap_rSum, ap_rMax, ap_rMin, ap_rSorted, ap_rSortedS, ap_rSort, ap_rIndex, ap_rAny, ap_rAll, ap_tYes, ap_tDGet, ap_tDIn, ap_tDNotIn, ap_sDPut, ap_sDAug, ap_sDDel, ap_tDNewK, ap_tDNewT, ap_tDisp, ap_tDGet1, ap_tDGet2, ap_tDPop1, ap_tDPop2, ap_tLock, ap_tLockE, ap_iRng3, ap_iRev, ap_iStr, ap_iKeys, ap_iVals, ap_iItems, ap_iKeysM, ap_iEnum, ap_iZip, ap_rNewStrs, ap_tM0, ap_tM1, ap_rSlS, ap_gUnl, ap_rIsB,  ap_tFor, ap_tLc, if_true, if_false, Bool.false_eq_true, Bool.true_eq_false, Bool.not_true, Bool.not_false, not_true_eq_false, not_false_eq_true, cx_K, nox_K, blk_K, List.getElem?_cons_succ, List.getElem?_cons_zero, Option.some.injEq, exists_eq_left', exists_eq_left, exists_eq, exists_eq', V.int.injEq, V.bl.injEq, V.str.injEq, V.ref.injEq, V.ty.injEq, List.cons.injEq, and_true, true_and, exists_and_left, List.set_cons_succ, List.set_cons_zero, List.append_nil, List.nil_append, and_assoc, decide_eq_true_eq, Bool.not_eq_true', decide_eq_false_iff_not, scal, List.length_cons, List.length_nil, Nat.zero_add, Nat.reduceAdd, ap_tCs, ap_tDcB, ap_tLam, ap_tSortK, ap_tDNotIn, ap_tDIn, ap_sDPut, ap_tSetDefF, ap_rLenOf, ap_rTupOf, ap_rNeE, ap_rMaxD, ap_tSortedK, ap_rSortedD, ap_tLockV, ap_rMulS, ap_iEnumS, ap_rRange, ap_rListR, ap_rListD, ap_rDictOf, ap_rNeDs, ap_rEqDs, ap_rListOf, ap_rIsO, ap_rSortedSet, ap_rSortedSA, ap_rDClear, ap_rDUpd, ap_tSl3, ap_rSameL, ap_iItemsL]
      obtain ⟨kvd, hkd, kd⟩ := hd.same s04
      have hle := L.1.e.le
      have lp1 := pn.length_eq
      have lp2 := pg.length_eq
      refine ⟨_, .lst e1, by rfl, kvd, .inl hkd, fun p1 hp1 => ?_⟩
      rw [kd.keys]
      have s5 := Same.new hp1 (o := .lst (ms.map V.str))
      have h5 := upd_same (H := H4) (a := p1) (o := .lst (ms.map V.str))
      generalize upd H4 p1 (.lst (ms.map V.str)) = H5 at *
      have s05 := s04.trans s5
      refine ⟨_, h5, _, s05 _ _ hg, by simp only [List.length_map]; exact Nat.le_of_lt (small1000 (by omega)), fun p2 hp2 => ?_⟩
      have ema : ms.map V.str ++ hs.map V.str = (ms ++ hs).map V.str := by rw [List.map_append]
      rw [ema]
      have s6 := Same.new hp2 (o := .lst ((ms ++ hs).map V.str))
      have h6 := upd_same (H := H5) (a := p2) (o := .lst ((ms ++ hs).map V.str))
      generalize upd H5 p2 (.lst ((ms ++ hs).map V.str)) = H6 at *
      refine ⟨ms ++ hs, .of h6, fun zs p3 hzs hzsrt hp3 => ?_⟩
      have eyz : zs = ys := sorted_one hzsrt hsy (hzs.trans ((pn.append pg).symm.trans hys.symm))
      subst eyz
      have s7 := Same.new hp3 (o := .lst (zs.map V.str))
      have h7 := upd_same (H := H6) (a := p3) (o := .lst (zs.map V.str))
      generalize upd H6 p3 (.lst (zs.map V.str)) = H7 at *
      have s47 := (s5.trans s6).trans s7
      have oky : ∀ n ∈ zs, NmOk n := fun n hn => by
        rcases List.mem_append.mp (hys.mem_iff.mp hn) with h | h
        · exact (L.1.e.tx.ok n h).1
        · exact L.1.e.go n h
      have shy := strs_shaped (strs_ok oky)
      refine ⟨.list (zs.map PyData.str), .list (zs.map PyData.str), .lst (.of (s47 _ _ e1)) (strs_dp zs), .lst (.of h7) (strs_dp zs), shy, shy, _, rfl, ?_⟩
      rw [SeqAt.eqv_refl _ (SeqAt.canLay_of_shaped shy), if_neg (by decide), hnx]
      dsimp only
      rw [ap_tSeq]
      refine nx_gen fun nx2 hnx2 => ?_
      simp only [ap_tVar, ap_tC, ap_t2I, ap_tAdd, ap_tSub, ap_tMul, ap_tCmp, ap_tIsN, ap_tNotN, ap_tB, ap_tAnd, ap_tOr, ap_tNot, ap_tAndV, ap_tOrV, ap_tNotV, ap_tIf, ap_tNext, ap_tBreak, ap_tCont, ap_tDrop, ap_tRet, ap_tRetN, ap_tIfS, ap_tNever, ap_gName, ap_gNil, ap_gCons, ap_gTup, ap_gSub, ap_tAsg, ap_tPar, ap_tAug, ap_tAugS, ap_ipI, ap_iList, ap_iTup, ap_iRng1, ap_iRng2, ap_tOp, ap_tUn, ap_rI, ap_rI0, ap_rU, ap_rEq, ap_rNe, ap_tTest, ap_tChain, ap_tFld, ap_tCon, ap_sFld, ap_sFldAug, ap_rAdd, ap_rSub, ap_tNil, ap_tCons, ap_tTup, ap_tLst, ap_tCall, ap_tMeth, ap_tMake, ap_tCallK, ap_tCB, ap_tNoPart, ap_tPart, ap_tSl, ap_rSlT, ap_rLtT, ap_rCatT, ap_rIxL, ap_rIxT, ap_rIxS, ap_rIx, ap_rSetL, ap_rSlL, ap_rIn, ap_tBM0, ap_tBM, ap_rAppend, ap_rExtend, ap_rPop, ap_rPopAt, ap_rReverse, ap_rClear, ap_rCat, ap_rRep, ap_rSum, ap_rMax, ap_rMin, ap_rSorted, ap_rSortedS, ap_rSort, ap_rIndex, ap_rAny, ap_rAll, ap_tYes, ap_tDGet, ap_tDIn, ap_tDNotIn, ap_sDPut, ap_sDAug, ap_sDDel, ap_tDNewK, ap_tDNewT, ap_tDisp, ap_tDGet1, ap_tDGet2, ap_tDPop1, ap_tDPop2, ap_tLock, ap_tLockE, ap_iRng3, ap_iRev, ap_iStr, ap_iKeys, ap_iVals, ap_iItems, ap_iKeysM, ap_iEnum, ap_iZip, ap_rNewStrs, ap_tM0, ap_tM1, ap_rSlS, ap_gUnl, ap_rIsB,  ap_tFor, ap_tLc, if_true, if_false, Bool.false_eq_true, Bool.true_eq_false, Bool.not_true, Bool.not_false, not_true_eq_false, not_false_eq_true, cx_K, nox_K, blk_K, List.getElem?_cons_succ, List.getElem?_cons_zero, Option.some.injEq, exists_eq_left', exists_eq_left, exists_eq, exists_eq', V.int.injEq, V.bl.injEq, V.str.injEq, V.ref.injEq, V.ty.injEq, List.cons.injEq, and_true, true_and, exists_and_left, List.set_cons_succ, List.set_cons_zero, List.append_nil, List.nil_append, and_assoc, decide_eq_true_eq, Bool.not_eq_true', decide_eq_false_iff_not, scal, List.length_cons, List.length_nil, Nat.zero_add, Nat.reduceAdd, ap_tCs, ap_tDcB, ap_tLam, ap_tSortK, ap_tDNotIn, ap_tDIn, ap_sDPut, ap_tSetDefF, ap_rLenOf, ap_rTupOf, ap_rNeE, ap_rMaxD, ap_tSortedK, ap_rSortedD, ap_tLockV, ap_rMulS, ap_iEnumS, ap_rRange, ap_rListR, ap_rListD, ap_rDictOf, ap_rNeDs, ap_rEqDs, ap_rListOf, ap_rIsO, ap_rSortedSet, ap_rSortedSA, ap_rDClear, ap_rDUpd, ap_tSl3, ap_rSameL, ap_iItemsL]
      have s07 := s04.trans s47
      refine ⟨_, .lst (s47 _ _ e2), by rfl, hs, .of (s07 _ _ hg), fun us p4 hus hussrt hp4 => ?_⟩
      have euz : us = gs := sorted_one hussrt L.1.s2 (hus.trans pg.symm)
      subst euz
      have s8 := Same.new hp4 (o := .lst (us.map V.str))
      have h8 := upd_same (H := H7) (a := p4) (o := .lst (us.map V.str))
      generalize upd H7 p4 (.lst (us.map V.str)) = H8 at *
      have s48 := s47.trans s8
      have shu := strs_shaped (strs_ok L.1.e.go)
      refine ⟨.list (us.map PyData.str), .list (us.map PyData.str), .lst (.of (s48 _ _ e2)) (strs_dp us), .lst (.of h8) (strs_dp us), shu, shu, _, rfl, ?_⟩
      rw [SeqAt.eqv_refl _ (SeqAt.canLay_of_shaped shu), if_neg (by decide)]
      obtain ⟨kv3, h43, k43⟩ := h4
      refine ⟨_, .dK (s48 _ _ h43), by rfl, kv3, .inl (s48 _ _ h43), kvd, .inl (s48 _ _ hkd), same_tx (k43.tk (.of s48)) (kd.tk (.of s48)) L.1.e.tx pn htx, ?_⟩
      rw [hnx2]
      dsimp only
      have s08 := s04.trans s48
      have e1' := s48 _ _ e1
      have e2' := s48 _ _ e2
      have e3' := s48 _ _ h43
      have n12 : r1 ≠ r2 := ne_of_none h2 hr2
      have n13 : r1 ≠ r3 := ne_of_none (s3 _ _ h2) hr3
      have n23 : r2 ≠ r3 := ne_of_none h3 hr3
      have zl : zs.length ≤ 300 := by rw [hys.length_eq, List.length_append]; omega
      have ul : us.length ≤ 300 := by omega
      rw [ap_tSeq]
      simp only [ap_tVar, ap_tC, ap_t2I, ap_tAdd, ap_tSub, ap_tMul, ap_tCmp, ap_tIsN, ap_tNotN, ap_tB, ap_tAnd, ap_tOr, ap_tNot, ap_tAndV, ap_tOrV, ap_tNotV, ap_tIf, ap_tNext, ap_tBreak, ap_tCont, ap_tDrop, ap_tRet, ap_tRetN, ap_tIfS, ap_tNever, ap_gName, ap_gNil, ap_gCons, ap_gTup, ap_gSub, ap_tAsg, ap_tPar, ap_tAug, ap_tAugS, ap_ipI, ap_iList, ap_iTup, ap_iRng1, ap_iRng2, ap_tOp, ap_tUn, ap_rI, ap_rI0, ap_rU, ap_rEq, ap_rNe, ap_tTest, ap_tChain, ap_tFld, ap_tCon, ap_sFld, ap_sFldAug, ap_rAdd, ap_rSub, ap_tNil, ap_tCons, ap_tTup, ap_tLst, ap_tCall, ap_tMeth, ap_tMake, ap_tCallK, ap_tCB, ap_tNoPart, ap_tPart, ap_tSl, ap_rSlT, ap_rLtT, ap_rCatT, ap_rIxL, ap_rIxT, ap_rIxS, ap_rIx, ap_rSetL, ap_rSlL, ap_rIn, ap_tBM0, ap_tBM, ap_rAppend, ap_rExtend, ap_rPop, ap_rPopAt, ap_rReverse, ap_rClear, ap_rCat, ap_rRep, ap_rSum, ap_rMax, ap_rMin, ap_rSorted, ap_rSortedS, ap_rSort, ap_rIndex, ap_rAny, ap_rAll, ap_tYes, ap_tDGet, ap_tDIn, ap_tDNotIn, ap_sDPut, ap_sDAug, ap_sDDel, ap_tDNewK, ap_tDNewT, ap_tDisp, ap_tDGet1, ap_tDGet2, ap_tDPop1, ap_tDPop2, ap_tLock, ap_tLockE, ap_iRng3, ap_iRev, ap_iStr, ap_iKeys, ap_iVals, ap_iItems, ap_iKeysM, ap_iEnum, ap_iZip, ap_rNewStrs, ap_tM0, ap_tM1, ap_rSlS, ap_gUnl, ap_rIsB,  ap_tFor, ap_tLc, if_true, if_false, Bool.false_eq_true, Bool.true_eq_false, Bool.not_true, Bool.not_false, not_true_eq_false, not_false_eq_true, cx_K, nox_K, blk_K, List.getElem?_cons_succ, List.getElem?_cons_zero, Option.some.injEq, exists_eq_left', exists_eq_left, exists_eq, exists_eq', V.int.injEq, V.bl.injEq, V.str.injEq, V.ref.injEq, V.ty.injEq, List.cons.injEq, and_true, true_and, exists_and_left, List.set_cons_succ, List.set_cons_zero, List.append_nil, List.nil_append, and_assoc, decide_eq_true_eq, Bool.not_eq_true', decide_eq_false_iff_not, scal, List.length_cons, List.length_nil, Nat.zero_add, Nat.reduceAdd, ap_tCs, ap_tDcB, ap_tLam, ap_tSortK, ap_tDNotIn, ap_tDIn, ap_sDPut, ap_tSetDefF, ap_rLenOf, ap_rTupOf, ap_rNeE, ap_rMaxD, ap_tSortedK, ap_rSortedD, ap_tLockV, ap_rMulS, ap_iEnumS, ap_rRange, ap_rListR, ap_rListD, ap_rDictOf, ap_rNeDs, ap_rEqDs, ap_rListOf, ap_rIsO, ap_rSortedSet, ap_rSortedSA, ap_rDClear, ap_rDUpd, ap_tSl3, ap_rSameL, ap_iItemsL]
      refine ⟨.inl ⟨rfl, _, .of e1'⟩, _, e1', by rw [List.length_map]; exact small1000 (by omega), ?_⟩
      rw [ap_tSeq]
      simp only [ap_tVar, ap_tC, ap_t2I, ap_tAdd, ap_tSub, ap_tMul, ap_tCmp, ap_tIsN, ap_tNotN, ap_tB, ap_tAnd, ap_tOr, ap_tNot, ap_tAndV, ap_tOrV, ap_tNotV, ap_tIf, ap_tNext, ap_tBreak, ap_tCont, ap_tDrop, ap_tRet, ap_tRetN, ap_tIfS, ap_tNever, ap_gName, ap_gNil, ap_gCons, ap_gTup, ap_gSub, ap_tAsg, ap_tPar, ap_tAug, ap_tAugS, ap_ipI, ap_iList, ap_iTup, ap_iRng1, ap_iRng2, ap_tOp, ap_tUn, ap_rI, ap_rI0, ap_rU, ap_rEq, ap_rNe, ap_tTest, ap_tChain, ap_tFld, ap_tCon, ap_sFld, ap_sFldAug, ap_rAdd, ap_rSub, ap_tNil, ap_tCons, ap_tTup, ap_tLst, ap_tCall, ap_tMeth, ap_tMake, ap_tCallK, ap_tCB, ap_tNoPart, ap_tPart, ap_tSl, ap_rSlT, ap_rLtT, ap_rCatT, ap_rIxL, ap_rIxT, ap_rIxS, ap_rIx, ap_rSetL, ap_rSlL, ap_rIn, ap_tBM0, ap_tBM, ap_rAppend, ap_rExtend, ap_rPop, ap_rPopAt, ap_rReverse, ap_rClear, ap_rCat, ap_rRep, ap_rSum, ap_rMax, ap_rMin, ap_rSorted, ap_rSortedS, ap_rSort, ap_rIndex, ap_rAny, ap_rAll, ap_tYes, ap_tDGet, ap_tDIn, ap_tDNotIn, ap_sDPut, ap_sDAug, ap_sDDel, ap_tDNewK, ap_tDNewT, ap_tDisp, ap_tDGet1, ap_tDGet2, ap_tDPop1, ap_tDPop2, ap_tLock, ap_tLockE, ap_iRng3, ap_iRev, ap_iStr, ap_iKeys, ap_iVals, ap_iItems, ap_iKeysM, ap_iEnum, ap_iZip, ap_rNewStrs, ap_tM0, ap_tM1, ap_rSlS, ap_gUnl, ap_rIsB,  ap_tFor, ap_tLc, if_true, if_false, Bool.false_eq_true, Bool.true_eq_false, Bool.not_true, Bool.not_false, not_true_eq_false, not_false_eq_true, cx_K, nox_K, blk_K, List.getElem?_cons_succ, List.getElem?_cons_zero, Option.some.injEq, exists_eq_left', exists_eq_left, exists_eq, exists_eq', V.int.injEq, V.bl.injEq, V.str.injEq, V.ref.injEq, V.ty.injEq, List.cons.injEq, and_true, true_and, exists_and_left, List.set_cons_succ, List.set_cons_zero, List.append_nil, List.nil_append, and_assoc, decide_eq_true_eq, Bool.not_eq_true', decide_eq_false_iff_not, scal, List.length_cons, List.length_nil, Nat.zero_add, Nat.reduceAdd, ap_tCs, ap_tDcB, ap_tLam, ap_tSortK, ap_tDNotIn, ap_tDIn, ap_sDPut, ap_tSetDefF, ap_rLenOf, ap_rTupOf, ap_rNeE, ap_rMaxD, ap_tSortedK, ap_rSortedD, ap_tLockV, ap_rMulS, ap_iEnumS, ap_rRange, ap_rListR, ap_rListD, ap_rDictOf, ap_rNeDs, ap_rEqDs, ap_rListOf, ap_rIsO, ap_rSortedSet, ap_rSortedSA, ap_rDClear, ap_rDUpd, ap_tSl3, ap_rSameL, ap_iItemsL]
      refine ⟨.inl ⟨rfl, _, .of (by rw [upd_ne n12.symm]; exact e2')⟩, _, by rw [upd_ne n12.symm]; exact e2', by rw [List.length_map]; exact small1000 (by omega), ?_⟩
      have e3'' : upd (upd H8 r1 (.lst (zs.map V.str ++ [V.str (Str.ofString "zz")]))) r2 (.lst (us.map V.str ++ [V.str (Str.ofString "zz")])) r3 = some (.dK kv3) := by rw [upd_ne n23.symm, upd_ne n13.symm]; exact e3'
      refine ⟨.inr (.inr (.inl ⟨rfl, .inl ⟨_, e3''⟩⟩)), kv3, e3'', _, _, _, _, rfl, ?_⟩
      exact Same.put (Same.put (Same.put s08 hr10) hr20) hr30
    · rintro σ H1 ⟨v3, v4, v5, v6, rfl, s1⟩
      simp only [ap_tVar, ap_tC, ap_t2I, ap_tAdd, ap_tSub, ap_tMul, ap_tCmp, ap_tIsN, ap_tNotN, ap_tB, ap_tAnd, ap_tOr, ap_tNot, ap_tAndV, ap_tOrV, ap_tNotV, ap_tIf, ap_tNext, ap_tSeq, ap_tBreak, ap_tCont, ap_tDrop, ap_tRet, ap_tRetN, ap_tIfS, ap_tNever, ap_gName, ap_gNil, ap_gCons, ap_gTup, ap_gSub, ap_tAsg, ap_tPar, ap_tAug, ap_tAugS, ap_ipI, ap_iList, ap_iTup, ap_iRng1, ap_iRng2, ap_tOp, ap_tUn, ap_rI, ap_rI0, ap_rU, ap_rEq, ap_rNe, ap_tTest, ap_tChain, ap_tFld, ap_tCon, ap_sFld, ap_sFldAug, ap_rAdd, ap_rSub, ap_tNil, ap_tCons, ap_tTup, ap_tLst, ap_tCall, ap_tMeth, ap_tMake, ap_tCallK, ap_tCB, ap_tNoPart, ap_tPart, ap_tSl, ap_rSlT, ap_rLtT, ap_rCatT, ap_rIxL, ap_rIxT, ap_rIxS, ap_rIx, ap_rSetL, ap_rSlL, ap_rIn, ap_tBM0, ap_tBM, ap_rAppend, ap_rExtend, ap_rPop, ap_rPopAt, ap_rReverse, ap_rClear, ap_rCat, ap_rRep, ap_rSum, ap_rMax, ap_rMin, ap_rSorted, ap_rSortedS, ap_rSort, ap_rIndex, ap_rAny, ap_rAll, ap_tYes, ap_tDGet, ap_tDIn, ap_tDNotIn, ap_sDPut, ap_sDAug, ap_sDDel, ap_tDNewK, ap_tDNewT, ap_tDisp, ap_tDGet1, ap_tDGet2, ap_tDPop1, ap_tDPop2, ap_tLock, ap_tLockE, ap_iRng3, ap_iRev, ap_iStr, ap_iKeys, ap_iVals, ap_iItems, ap_iKeysM, ap_iEnum, ap_iZip, ap_rNewStrs, ap_tM0, ap_tM1, ap_rSlS, ap_gUnl, ap_rIsB,  ap_tFor, ap_tLc, if_true, if_false, Bool.false_eq_true, Bool.true_eq_false, Bool.not_true, Bool.not_false, not_true_eq_false, not_false_eq_true, cx_K, nox_K, blk_K, List.getElem?_cons_succ, List.getElem?_cons_zero, Option.some.injEq, exists_eq_left', exists_eq_left, exists_eq, exists_eq', V.int.injEq, V.bl.injEq, V.str.injEq, V.ref.injEq, V.ty.injEq, List.cons.injEq, and_true, true_and, exists_and_left, List.set_cons_succ, List.set_cons_zero, List.append_nil, List.nil_append, and_assoc, decide_eq_true_eq, Bool.not_eq_true', decide_eq_false_iff_not, scal, List.length_cons, List.length_nil, Nat.zero_add, Nat.reduceAdd, ap_tCs, ap_tDcB, ap_tLam, ap_tSortK, ap_tDNotIn, ap_tDIn, ap_sDPut, ap_tSetDefF, ap_rLenOf, ap_rTupOf, ap_rNeE, ap_rMaxD, ap_tSortedK, ap_rSortedD, ap_tLockV, ap_rMulS, ap_iEnumS, ap_rRange, ap_rListR, ap_rListD, ap_rDictOf, ap_rNeDs, ap_rEqDs, ap_rListOf, ap_rIsO, ap_rSortedSet, ap_rSortedSA, ap_rDClear, ap_rDUpd, ap_tSl3, ap_rSameL, ap_iItemsL]
      exact q _ s1
abbrev s_l_layer : Stmt := top 28
abbrev N_l_layer : List Str := ["_law_rulebook", "_law_texts", "_law_gone", "_law_handed", "_law_made"]
theorem sc_l_layer : FnScope N_l_layer ["_law_rulebook", "_law_texts", "_law_gone"] (defScope s_l_layer) := ⟨rfl, rfl, rfl, by decide +kernel, rfl, by decide +kernel, by decide +kernel⟩
def sp_llay (K : PySem.W.Frag) (CL : Addr) : Sp := fun vs H Q _ => ∃ (x d g : Addr) (ns gs : List Str) (tx : Str → List Str), vs = [.ref x, .ref d, .ref g] ∧ TD H d ns tx ∧ EnO ns gs tx 300 ∧ H g = some (.lst (gs.map V.str)) ∧
  ∀ (l : Addr) (ns' gs' : List Str) H', Same H H' → H l = none → LyAt CL H' l x ns' gs' tx → ns'.Perm ns → gs'.Perm gs → Q (.ref l) H'
theorem c_llay (T : Txt mg) {CL : Addr} (D : Def K mg "_law_layer" s_l_layer) (K_Layer : MCal P w K mg base 1 "Layer" CL ["self", "rulebook", "texts", "gone"] (sp_lyI K CL)) :
    Cal P w K mg base 3 "_law_layer" ["_law_rulebook", "_law_texts", "_law_gone"] (sp_llay K CL) := by
  refine D.cal sc_l_layer (fun _ _ _ _ _ _ us hl => match us, hl with | [_, _, _], _ => rfl) (fun vs H Q E h => ?_) (fun f cdv A outer s H vs Q E hr h => ?_)
  · obtain ⟨x, d, g, ns, gs, tx, rfl, _⟩ := h; rfl
  · obtain ⟨x, d, g, ns, gs, tx, rfl, ⟨kvs, hd, kd⟩, hO, hg, q⟩ := h
    have hu := hu_of hr
    refine ⟨_, (pss_cons (ps_set (i := 3) sc_l_layer.nd rfl (by first | exact Or.inl rfl | exact Or.inr rfl) (pe_lst (pa_cons (pe_callTy call_dictD (by rfl) T.n_dict (by decide +kernel) (pa_cons (pv 1) pa_nil)) (pa_cons (pe_callTy call_list_of (by rfl) T.n_list (by decide +kernel) (pa_cons (pv 2) pa_nil)) pa_nil))))
        (pss_cons (ps_set (i := 4) sc_l_layer.nd rfl (by first | exact Or.inl rfl | exact Or.inr rfl) (pe_mk K_Layer (hr.mono (by decide)) (pa_cons (pv 0) (pa_cons (pe_ix (r := rIxL K) ix_list (pv 3) pe_int (fun _ _ => rfl)) (pa_cons (pe_ix (r := rIxL K) ix_list (pv 3) pe_int (fun _ _ => rfl)) pa_nil)))))
        (pss_cons (ps_if (pt_cmpR (r := rSameL K true) (op_sameNe (Room.u80 hr)) (pv 3) (pe_lst (pa_cons (pv 1) (pa_cons (pv 2) pa_nil))) (nomark _)) (pss_one (ps_ret pe_non)) pss_nil)
        (pss_cons (ps_expr (pe_bm0 PySem.F.plainAttrs_dict PySem.F.slot_dict_clear PySem.F.type_dict_clear mt_dclear (pe_ix (r := rIxL K) ix_list (pv 3) pe_int (fun _ _ => rfl))))
        (pss_cons (ps_expr (pe_bm PySem.F.plainAttrs_list PySem.F.slot_list_append PySem.F.type_list_append mt_append (pe_ix (r := rIxL K) ix_list (pv 3) pe_int (fun _ _ => rfl)) (pa_cons pe_str pa_nil)))
        (pss_one (ps_ret (pv 4)))))))), ?_⟩
    have es0 : start N_l_layer [V.ref x, V.ref d, V.ref g] = [some (.ref x), some (.ref d), some (.ref g), none, none] := rfl
    have hle := hO.le
    rw [es0, ap_tSeq]
    simp only [ap_tVar, ap_tC, ap_t2I, ap_tAdd, ap_tSub, ap_tMul, ap_tCmp, ap_tIsN, ap_tNotN, ap_tB, ap_tAnd, ap_tOr, ap_tNot, ap_tAndV, ap_tOrV, ap_tNotV, ap_tIf, ap_tNext, ap_tBreak, ap_tCont, ap_tDrop, ap_tRet, ap_tRetN, ap_tIfS, ap_tNever, ap_gName, ap_gNil, ap_gCons, ap_gTup, ap_gSub, ap_tAsg, ap_tPar, ap_tAug, ap_tAugS, ap_ipI, ap_iList, ap_iTup, ap_iRng1, ap_iRng2, ap_tOp, ap_tUn, ap_rI, ap_rI0, ap_rU, ap_rEq, ap_rNe, ap_tTest, ap_tChain, ap_tFld, ap_tCon, ap_sFld, ap_sFldAug, ap_rAdd, ap_rSub, ap_tNil, ap_tCons, ap_tTup, ap_tLst, ap_tCall, ap_tMeth, ap_tMake, ap_tCallK, ap_tCB, ap_tNoPart, ap_tPart, ap_tSl, ap_rSlT, ap_rLtT, ap_rCatT, ap_rIxL, ap_rIxT, ap_rIxS, ap_rIx, ap_rSetL, ap_rSlL, ap_rIn, ap_tBM0, ap_tBM, ap_rAppend, ap_rExtend, ap_rPop, ap_rPopAt, ap_rReverse, ap_rClear, ap_rCat, ap_rRep, ap_rSum, ap_rMax, ap_rMin, ap_rSorted, ap_rSortedS, ap_rSort, ap_rIndex, ap_rAny, ap_rAll, ap_tYes, ap_tDGet, ap_tDIn, ap_tDNotIn, ap_sDPut, ap_sDAug, ap_sDDel, ap_tDNewK, ap_tDNewT, ap_tDisp, ap_tDGet1, ap_tDGet2, ap_tDPop1, ap_tDPop2, ap_tLock, ap_tLockE, ap_iRng3, ap_iRev, ap_iStr, ap_iKeys, ap_iVals, ap_iItems, ap_iKeysM, ap_iEnum, ap_iZip, ap_rNewStrs, ap_tM0, ap_tM1, ap_rSlS, ap_gUnl, ap_rIsB,  ap_tFor, ap_tLc, if_true, if_false, Bool.false_eq_true, Bool.true_eq_false, Bool.not_true, Bool.not_false, not_true_eq_false, not_false_eq_true, cx_K, nox_K, blk_K, List.getElem?_cons_succ, List.getElem?_cons_zero, Option.some.injEq, exists_eq_left', exists_eq_left, exists_eq, exists_eq', V.int.injEq, V.bl.injEq, V.str.injEq, V.ref.injEq, V.ty.injEq, List.cons.injEq, and_true, true_and, exists_and_left, List.set_cons_succ, List.set_cons_zero, List.append_nil, List.nil_append, and_assoc, decide_eq_true_eq, Bool.not_eq_true', decide_eq_false_iff_not, scal, List.length_cons, List.length_nil, Nat.zero_add, Nat.reduceAdd, ap_tCs, ap_tDcB, ap_tLam, ap_tSortK, ap_tDNotIn, ap_tDIn, ap_sDPut, ap_tSetDefF, ap_rLenOf, ap_rTupOf, ap_rNeE, ap_rMaxD, ap_tSortedK, ap_rSortedD, ap_tLockV, ap_rMulS, ap_iEnumS, ap_rRange, ap_rListR, ap_rListD, ap_rDictOf, ap_rNeDs, ap_rEqDs, ap_rListOf, ap_rIsO, ap_rSortedSet, ap_rSortedSA, ap_rDClear, ap_rDUpd, ap_tSl3, ap_rSameL, ap_iItemsL]
    refine ⟨kvs, .inl hd, fun d2 hd2 => ?_⟩
    have s1 := Same.new hd2 (o := .dK kvs)
    have h1 := upd_same (H := H) (a := d2) (o := .dK kvs)
    generalize upd H d2 (.dK kvs) = H1 at *
    refine ⟨_, .inl (.of (s1 _ _ hg)), fun g2 hg2 => ⟨by decide, fun p hp => ?_⟩⟩
    have s2 := Same.new hg2 (o := .lst (gs.map V.str))
    have h2 := upd_same (H := H1) (a := g2) (o := .lst (gs.map V.str))
    generalize upd H1 g2 (.lst (gs.map V.str)) = H2 at *
    have s3 := Same.new hp (o := .lst [V.ref d2, V.ref g2])
    have h3 := upd_same (H := H2) (a := p) (o := .lst [V.ref d2, V.ref g2])
    generalize upd H2 p (.lst [V.ref d2, V.ref g2]) = H3 at *
    have s03 := (s1.trans s2).trans s3
    have hdd3 := s3 _ _ (s2 _ _ h1)
    have hgg3 := s3 _ _ h2
    have hg20 := s1.free hg2
    rw [ap_tSeq]
    simp only [ap_tVar, ap_tC, ap_t2I, ap_tAdd, ap_tSub, ap_tMul, ap_tCmp, ap_tIsN, ap_tNotN, ap_tB, ap_tAnd, ap_tOr, ap_tNot, ap_tAndV, ap_tOrV, ap_tNotV, ap_tIf, ap_tNext, ap_tBreak, ap_tCont, ap_tDrop, ap_tRet, ap_tRetN, ap_tIfS, ap_tNever, ap_gName, ap_gNil, ap_gCons, ap_gTup, ap_gSub, ap_tAsg, ap_tPar, ap_tAug, ap_tAugS, ap_ipI, ap_iList, ap_iTup, ap_iRng1, ap_iRng2, ap_tOp, ap_tUn, ap_rI, ap_rI0, ap_rU, ap_rEq, ap_rNe, ap_tTest, ap_tChain, ap_tFld, ap_tCon, ap_sFld, ap_sFldAug, ap_rAdd, ap_rSub, ap_tNil, ap_tCons, ap_tTup, ap_tLst, ap_tCall, ap_tMeth, ap_tMake, ap_tCallK, ap_tCB, ap_tNoPart, ap_tPart, ap_tSl, ap_rSlT, ap_rLtT, ap_rCatT, ap_rIxL, ap_rIxT, ap_rIxS, ap_rIx, ap_rSetL, ap_rSlL, ap_rIn, ap_tBM0, ap_tBM, ap_rAppend, ap_rExtend, ap_rPop, ap_rPopAt, ap_rReverse, ap_rClear, ap_rCat, ap_rRep, ap_rSum, ap_rMax, ap_rMin, ap_rSorted, ap_rSortedS, ap_rSort, ap_rIndex, ap_rAny, ap_rAll, ap_tYes, ap_tDGet, ap_tDIn, ap_tDNotIn, ap_sDPut, ap_sDAug, ap_sDDel, ap_tDNewK, ap_tDNewT, ap_tDisp, ap_tDGet1, ap_tDGet2, ap_tDPop1, ap_tDPop2, ap_tLock, ap_tLockE, ap_iRng3, ap_iRev, ap_iStr, ap_iKeys, ap_iVals, ap_iItems, ap_iKeysM, ap_iEnum, ap_iZip, ap_rNewStrs, ap_tM0, ap_tM1, ap_rSlS, ap_gUnl, ap_rIsB,  ap_tFor, ap_tLc, if_true, if_false, Bool.false_eq_true, Bool.true_eq_false, Bool.not_true, Bool.not_false, not_true_eq_false, not_false_eq_true, cx_K, nox_K, blk_K, List.getElem?_cons_succ, List.getElem?_cons_zero, Option.some.injEq, exists_eq_left', exists_eq_left, exists_eq, exists_eq', V.int.injEq, V.bl.injEq, V.str.injEq, V.ref.injEq, V.ty.injEq, List.cons.injEq, and_true, true_and, exists_and_left, List.set_cons_succ, List.set_cons_zero, List.append_nil, List.nil_append, and_assoc, decide_eq_true_eq, Bool.not_eq_true', decide_eq_false_iff_not, scal, List.length_cons, List.length_nil, Nat.zero_add, Nat.reduceAdd, ap_tCs, ap_tDcB, ap_tLam, ap_tSortK, ap_tDNotIn, ap_tDIn, ap_sDPut, ap_tSetDefF, ap_rLenOf, ap_rTupOf, ap_rNeE, ap_rMaxD, ap_tSortedK, ap_rSortedD, ap_tLockV, ap_rMulS, ap_iEnumS, ap_rRange, ap_rListR, ap_rListD, ap_rDictOf, ap_rNeDs, ap_rEqDs, ap_rListOf, ap_rIsO, ap_rSortedSet, ap_rSortedSA, ap_rDClear, ap_rDUpd, ap_tSl3, ap_rSameL, ap_iItemsL]
    refine ⟨_, .of h3, _, rfl, _, .of h3, _, rfl, ?_⟩
    refine mk_ly (gs := gs) ⟨kvs, hdd3, kd.tk (.of s03)⟩ hO.tx (.of hgg3) hO.go hO.ap hle (fun l kp gn ns' gs' H4 hl0 s4 L f1 f2 p1 p2 => ?_)
    rw [dedS_id hO.gn] at p2
    have s04 := s03.trans s4
    have nlp : d2 ≠ kp := ne_of_none hdd3 f1
    have nlp2 : g2 ≠ kp := ne_of_none hgg3 f1
    have ngp : d2 ≠ gn := ne_of_none hdd3 f2
    have ngp2 : g2 ≠ gn := ne_of_none hgg3 f2
    have nl1 : d2 ≠ l := ne_of_none hdd3 hl0
    have nl2 : g2 ≠ l := ne_of_none hgg3 hl0
    rw [ap_tSeq]
    refine nx_gen fun nx hnx => ?_
    simp only [ap_tVar, ap_tC, ap_t2I, ap_tAdd, ap_tSub, ap_tMul, ap_tCmp, ap_tIsN, ap_tNotN, ap_tB, ap_tAnd, ap_tOr, ap_tNot, ap_tAndV, ap_tOrV, ap_tNotV, ap_tIf, ap_tNext, ap_tBreak, ap_tCont, ap_tDrop, ap_tRet, ap_tRetN, ap_tIfS, ap_tNever, ap_gName, ap_gNil, ap_gCons, ap_gTup, ap_gSub, ap_tAsg, ap_tPar, ap_tAug, ap_tAugS, ap_ipI, ap_iList, ap_iTup, ap_iRng1, ap_iRng2, ap_tOp, ap_tUn, ap_rI, ap_rI0, ap_rU, ap_rEq, ap_rNe, ap_tTest, ap_tChain, ap_tFld, ap_tCon, ap_sFld, ap_sFldAug, ap_rAdd, ap_rSub, ap_tNil, ap_tCons, ap_tTup, ap_tLst, ap_tCall, ap_tMeth, ap_tMake, ap_tCallK, ap_tCB, ap_tNoPart, ap_tPart, ap_tSl, ap_rSlT, ap_rLtT, ap_rCatT, ap_rIxL, ap_rIxT, ap_rIxS, ap_rIx, ap_rSetL, ap_rSlL, ap_rIn, ap_tBM0, ap_tBM, ap_rAppend, ap_rExtend, ap_rPop, ap_rPopAt, ap_rReverse, ap_rClear, ap_rCat, ap_rRep, ap_rSum, ap_rMax, ap_rMin, ap_rSorted, ap_rSortedS, ap_rSort, ap_rIndex, ap_rAny, ap_rAll, ap_tYes, ap_tDGet, ap_tDIn, ap_tDNotIn, ap_sDPut, ap_sDAug, ap_sDDel, ap_tDNewK, ap_tDNewT, ap_tDisp, ap_tDGet1, ap_tDGet2, ap_tDPop1, ap_tDPop2, ap_tLock, ap_tLockE, ap_iRng3, ap_iRev, ap_iStr, ap_iKeys, ap_iVals, ap_iItems, ap_iKeysM, ap_iEnum, ap_iZip, ap_rNewStrs, ap_tM0, ap_tM1, ap_rSlS, ap_gUnl, ap_rIsB,  ap_tFor, ap_tLc, if_true, if_false, Bool.false_eq_true, Bool.true_eq_false, Bool.not_true, Bool.not_false, not_true_eq_false, not_false_eq_true, cx_K, nox_K, blk_K, List.getElem?_cons_succ, List.getElem?_cons_zero, Option.some.injEq, exists_eq_left', exists_eq_left, exists_eq, exists_eq', V.int.injEq, V.bl.injEq, V.str.injEq, V.ref.injEq, V.ty.injEq, List.cons.injEq, and_true, true_and, exists_and_left, List.set_cons_succ, List.set_cons_zero, List.append_nil, List.nil_append, and_assoc, decide_eq_true_eq, Bool.not_eq_true', decide_eq_false_iff_not, scal, List.length_cons, List.length_nil, Nat.zero_add, Nat.reduceAdd, ap_tCs, ap_tDcB, ap_tLam, ap_tSortK, ap_tDNotIn, ap_tDIn, ap_sDPut, ap_tSetDefF, ap_rLenOf, ap_rTupOf, ap_rNeE, ap_rMaxD, ap_tSortedK, ap_rSortedD, ap_tLockV, ap_rMulS, ap_iEnumS, ap_rRange, ap_rListR, ap_rListD, ap_rDictOf, ap_rNeDs, ap_rEqDs, ap_rListOf, ap_rIsO, ap_rSortedSet, ap_rSortedSA, ap_rDClear, ap_rDUpd, ap_tSl3, ap_rSameL, ap_iItemsL]
    refine ⟨by decide, fun r hr1 => ?_⟩
    have s5 := Same.new hr1 (o := .lst [V.ref d, V.ref g])
    have h5 := upd_same (H := H4) (a := r) (o := .lst [V.ref d, V.ref g])
    generalize upd H4 r (.lst [V.ref d, V.ref g]) = H5 at *
    have s05 := s04.trans s5
    have s35 := s4.trans s5
    refine ⟨_, .of (s35 _ _ h3), _, .of h5, rfl, fun i u v hu hv => ?_, ?_⟩
    · have ko : ∀ n ∈ gs, NmOk n := hO.go
      rcases i with _ | _ | i
      · simp at hu hv
        subst hu hv
        exact .inr ⟨d2, d, kvs, kvs, rfl, rfl, .inl (s35 _ _ hdd3), .inl (s05 _ _ hd), same_tx (kd.tk (.of s05)) (kd.tk (.of s05)) hO.tx (List.Perm.refl _) fun _ _ => rfl⟩
      · simp at hu hv
        subst hu hv
        exact .inl ⟨.list (gs.map PyData.str), .lst (.of (s35 _ _ hgg3)) (strs_dp gs), .lst (.of (s05 _ _ hg)) (strs_dp gs), strs_shaped (strs_ok ko)⟩
      · simp at hu
    · rw [hnx]
      dsimp only
      rw [ap_tSeq]
      simp only [ap_tVar, ap_tC, ap_t2I, ap_tAdd, ap_tSub, ap_tMul, ap_tCmp, ap_tIsN, ap_tNotN, ap_tB, ap_tAnd, ap_tOr, ap_tNot, ap_tAndV, ap_tOrV, ap_tNotV, ap_tIf, ap_tNext, ap_tBreak, ap_tCont, ap_tDrop, ap_tRet, ap_tRetN, ap_tIfS, ap_tNever, ap_gName, ap_gNil, ap_gCons, ap_gTup, ap_gSub, ap_tAsg, ap_tPar, ap_tAug, ap_tAugS, ap_ipI, ap_iList, ap_iTup, ap_iRng1, ap_iRng2, ap_tOp, ap_tUn, ap_rI, ap_rI0, ap_rU, ap_rEq, ap_rNe, ap_tTest, ap_tChain, ap_tFld, ap_tCon, ap_sFld, ap_sFldAug, ap_rAdd, ap_rSub, ap_tNil, ap_tCons, ap_tTup, ap_tLst, ap_tCall, ap_tMeth, ap_tMake, ap_tCallK, ap_tCB, ap_tNoPart, ap_tPart, ap_tSl, ap_rSlT, ap_rLtT, ap_rCatT, ap_rIxL, ap_rIxT, ap_rIxS, ap_rIx, ap_rSetL, ap_rSlL, ap_rIn, ap_tBM0, ap_tBM, ap_rAppend, ap_rExtend, ap_rPop, ap_rPopAt, ap_rReverse, ap_rClear, ap_rCat, ap_rRep, ap_rSum, ap_rMax, ap_rMin, ap_rSorted, ap_rSortedS, ap_rSort, ap_rIndex, ap_rAny, ap_rAll, ap_tYes, ap_tDGet, ap_tDIn, ap_tDNotIn, ap_sDPut, ap_sDAug, ap_sDDel, ap_tDNewK, ap_tDNewT, ap_tDisp, ap_tDGet1, ap_tDGet2, ap_tDPop1, ap_tDPop2, ap_tLock, ap_tLockE, ap_iRng3, ap_iRev, ap_iStr, ap_iKeys, ap_iVals, ap_iItems, ap_iKeysM, ap_iEnum, ap_iZip, ap_rNewStrs, ap_tM0, ap_tM1, ap_rSlS, ap_gUnl, ap_rIsB,  ap_tFor, ap_tLc, if_true, if_false, Bool.false_eq_true, Bool.true_eq_false, Bool.not_true, Bool.not_false, not_true_eq_false, not_false_eq_true, cx_K, nox_K, blk_K, List.getElem?_cons_succ, List.getElem?_cons_zero, Option.some.injEq, exists_eq_left', exists_eq_left, exists_eq, exists_eq', V.int.injEq, V.bl.injEq, V.str.injEq, V.ref.injEq, V.ty.injEq, List.cons.injEq, and_true, true_and, exists_and_left, List.set_cons_succ, List.set_cons_zero, List.append_nil, List.nil_append, and_assoc, decide_eq_true_eq, Bool.not_eq_true', decide_eq_false_iff_not, scal, List.length_cons, List.length_nil, Nat.zero_add, Nat.reduceAdd, ap_tCs, ap_tDcB, ap_tLam, ap_tSortK, ap_tDNotIn, ap_tDIn, ap_sDPut, ap_tSetDefF, ap_rLenOf, ap_rTupOf, ap_rNeE, ap_rMaxD, ap_tSortedK, ap_rSortedD, ap_tLockV, ap_rMulS, ap_iEnumS, ap_rRange, ap_rListR, ap_rListD, ap_rDictOf, ap_rNeDs, ap_rEqDs, ap_rListOf, ap_rIsO, ap_rSortedSet, ap_rSortedSA, ap_rDClear, ap_rDUpd, ap_tSl3, ap_rSameL, ap_iItemsL]
      have hd25 := s35 _ _ hdd3
      have hg25 := s35 _ _ hgg3
      have hp5 := s35 _ _ h3
      have npd : p ≠ d2 := ne_of hp5 hd25 (by intro z; cases z)
      have L5 := L.same s5
      refine ⟨_, .of hp5, _, rfl, .inr (.inr (.inl ⟨rfl, .inl ⟨_, hd25⟩⟩)), d2, rfl, kvs, hd25, ?_⟩
      have L6 := L5.write (o := .dK []) nl1 nlp ngp hd25 (by intro xs z; cases z)
      have hp6 : upd H5 d2 (.dK []) p = some (.lst [V.ref d2, V.ref g2]) := by rw [upd_ne npd]; exact hp5
      have ngd : g2 ≠ d2 := ne_of hg25 hd25 (by intro z; cases z)
      have hg6 : upd H5 d2 (.dK []) g2 = some (.lst (gs.map V.str)) := by rw [upd_ne ngd]; exact hg25
      have s6 : Same H (upd H5 d2 (.dK [])) := Same.put s05 hd2
      generalize upd H5 d2 (.dK []) = H6 at *
      rw [ap_tSeq]
      simp only [ap_tVar, ap_tC, ap_t2I, ap_tAdd, ap_tSub, ap_tMul, ap_tCmp, ap_tIsN, ap_tNotN, ap_tB, ap_tAnd, ap_tOr, ap_tNot, ap_tAndV, ap_tOrV, ap_tNotV, ap_tIf, ap_tNext, ap_tBreak, ap_tCont, ap_tDrop, ap_tRet, ap_tRetN, ap_tIfS, ap_tNever, ap_gName, ap_gNil, ap_gCons, ap_gTup, ap_gSub, ap_tAsg, ap_tPar, ap_tAug, ap_tAugS, ap_ipI, ap_iList, ap_iTup, ap_iRng1, ap_iRng2, ap_tOp, ap_tUn, ap_rI, ap_rI0, ap_rU, ap_rEq, ap_rNe, ap_tTest, ap_tChain, ap_tFld, ap_tCon, ap_sFld, ap_sFldAug, ap_rAdd, ap_rSub, ap_tNil, ap_tCons, ap_tTup, ap_tLst, ap_tCall, ap_tMeth, ap_tMake, ap_tCallK, ap_tCB, ap_tNoPart, ap_tPart, ap_tSl, ap_rSlT, ap_rLtT, ap_rCatT, ap_rIxL, ap_rIxT, ap_rIxS, ap_rIx, ap_rSetL, ap_rSlL, ap_rIn, ap_tBM0, ap_tBM, ap_rAppend, ap_rExtend, ap_rPop, ap_rPopAt, ap_rReverse, ap_rClear, ap_rCat, ap_rRep, ap_rSum, ap_rMax, ap_rMin, ap_rSorted, ap_rSortedS, ap_rSort, ap_rIndex, ap_rAny, ap_rAll, ap_tYes, ap_tDGet, ap_tDIn, ap_tDNotIn, ap_sDPut, ap_sDAug, ap_sDDel, ap_tDNewK, ap_tDNewT, ap_tDisp, ap_tDGet1, ap_tDGet2, ap_tDPop1, ap_tDPop2, ap_tLock, ap_tLockE, ap_iRng3, ap_iRev, ap_iStr, ap_iKeys, ap_iVals, ap_iItems, ap_iKeysM, ap_iEnum, ap_iZip, ap_rNewStrs, ap_tM0, ap_tM1, ap_rSlS, ap_gUnl, ap_rIsB,  ap_tFor, ap_tLc, if_true, if_false, Bool.false_eq_true, Bool.true_eq_false, Bool.not_true, Bool.not_false, not_true_eq_false, not_false_eq_true, cx_K, nox_K, blk_K, List.getElem?_cons_succ, List.getElem?_cons_zero, Option.some.injEq, exists_eq_left', exists_eq_left, exists_eq, exists_eq', V.int.injEq, V.bl.injEq, V.str.injEq, V.ref.injEq, V.ty.injEq, List.cons.injEq, and_true, true_and, exists_and_left, List.set_cons_succ, List.set_cons_zero, List.append_nil, List.nil_append, and_assoc, decide_eq_true_eq, Bool.not_eq_true', decide_eq_false_iff_not, scal, List.length_cons, List.length_nil, Nat.zero_add, Nat.reduceAdd, ap_tCs, ap_tDcB, ap_tLam, ap_tSortK, ap_tDNotIn, ap_tDIn, ap_sDPut, ap_tSetDefF, ap_rLenOf, ap_rTupOf, ap_rNeE, ap_rMaxD, ap_tSortedK, ap_rSortedD, ap_tLockV, ap_rMulS, ap_iEnumS, ap_rRange, ap_rListR, ap_rListD, ap_rDictOf, ap_rNeDs, ap_rEqDs, ap_rListOf, ap_rIsO, ap_rSortedSet, ap_rSortedSA, ap_rDClear, ap_rDUpd, ap_tSl3, ap_rSameL, ap_iItemsL]
      refine ⟨_, .of hp6, _, rfl, .inl ⟨rfl, _, .of hg6⟩, g2, rfl, _, hg6, by rw [List.length_map]; exact small1000 (by omega), ?_⟩
      exact q l ns' gs' _ (Same.put s6 hg20) (s03.free hl0) (L6.write nl2 nlp2 ngp2 hg6 (by intro xs z; cases z)).at_ p1 p2
end
end My
set_option maxHeartbeats 4000000

namespace My
open PySem L2
section
variable {P : Program} {w : World} {K : PySem.W.Frag} {mg : Str → Option Value} {base : Heap}
theorem TK.merge {H : Hp} {tx' : Str → List Str} : ∀ {ms : List Str} {kb : List (Key × V)}, TK H ms tx' kb → TxO ms tx' → ∀ {ns : List Str} {tx : Str → List Str} {ka : List (Key × V)}, TK H ns tx ka → TxO ns tx →
    ∃ (ks : List Str) (t : Str → List Str), TK H ks t (mergeK ka kb) ∧ TxO ks t ∧ (∀ n, n ∈ ks ↔ n ∈ ns ∨ n ∈ ms) ∧ (∀ n ∈ ms, t n = tx' n) ∧ (∀ n, n ∉ ms → t n = tx n)
  | [], kb, hb, ob, ns, tx, ka, ha, oa => by
    have e : kb = [] := by have := hb.key; simpa using this
    subst e
    exact ⟨ns, tx, ha, oa, by simp, by simp, fun _ _ => rfl⟩
  | m :: ms, kb, hb, ob, ns, tx, ka, ha, oa => by
    obtain ⟨q, r, rfl⟩ : ∃ q r, kb = q :: r := by
      cases kb with
      | nil => have := hb.key; simp at this
      | cons q r => exact ⟨q, r, rfl⟩
    have hk := hb.key
    rw [List.map_cons, List.map_cons] at hk
    injection hk with hk1 hk2
    obtain ⟨n', v', e', p, rfl, hp⟩ := hb.ent q (.head _)
    rw [e'] at hk1
    cases hk1
    subst e'
    have hb2 : TK H ms tx' r := ⟨hk2, fun q hq => hb.ent q (List.mem_cons_of_mem _ hq)⟩
    obtain ⟨nd1, nd2⟩ := List.nodup_cons.mp ob.nd
    have ob2 : TxO ms tx' := ⟨nd2, fun n hn => ob.ok n (List.mem_cons_of_mem _ hn)⟩
    have om := ob.ok m (.head _)
    obtain ⟨ks, t, h1, h2, h3, h4, h5⟩ := TK.merge hb2 ob2 (ha.put (n := m) hp) (oa.put om.1 om.2.1 om.2.2)
    refine ⟨ks, t, h1, h2, fun n => ?_, fun n hn => ?_, fun n hn => ?_⟩
    · rw [h3 n, List.mem_cons]
      by_cases hmn : m ∈ ns
      · rw [if_pos hmn]
        constructor
        · rintro (z | z)
          · exact .inl z
          · exact .inr (.inr z)
        · rintro (z | rfl | z)
          · exact .inl z
          · exact .inl hmn
          · exact .inr z
      · rw [if_neg hmn, List.mem_append, List.mem_singleton]
        constructor
        · rintro ((z | z) | z)
          · exact .inl z
          · exact .inr (.inl z)
          · exact .inr (.inr z)
        · rintro (z | z | z)
          · exact .inl (.inl z)
          · exact .inl (.inr z)
          · exact .inr z
    · rcases List.mem_cons.mp hn with rfl | hn
      · rw [h5 n nd1]
        unfold txPut
        rw [if_pos rfl]
      · exact h4 n hn
    · have hn2 : n ≠ m := fun z => hn (by rw [z]; exact .head _)
      rw [h5 n fun z => hn (List.mem_cons_of_mem _ z)]
      unfold txPut
      rw [if_neg hn2]
theorem TxO.filter {ns : List Str} {tx : Str → List Str} (h : TxO ns tx) (f : Str → Bool) : TxO (ns.filter f) tx := ⟨h.nd.filter _, fun n hn => h.ok n (List.mem_filter.mp hn).1⟩
abbrev s_law : Stmt := top 29
abbrev N_law : List Str := ["_law_script", "_law_plain", "_law_old", "_law_texts", "_law_gone", "_law_more", "_law_left", "_law_rulebook", "_law_lower", "_law_upper", "_law_due", "_law_name_here", "_law_lost", "_law_both", "_law_every"]
theorem sc_law : FnScope N_law ["_law_script"] (defScope s_law) := ⟨rfl, rfl, rfl, by decide +kernel, rfl, by decide +kernel, by decide +kernel⟩
abbrev sEn : En := (Str.ofString "s", Str.ofString "", 2)
theorem sEn_ok : GoodEn sEn := ⟨sm_of (by decide +kernel), by decide +kernel, by decide +kernel, sm_of (by decide +kernel), by decide +kernel, by decide, by decide⟩
theorem the_ok : Plain (Str.ofString "the") := ⟨pw_of (by decide +kernel), by decide +kernel, by decide +kernel⟩
theorem pick_ints (ns : List Int) (lo hi : Option Int) (st : Int) : ∃ ms : List Int, pick3 (ns.map V.int) lo hi st = ms.map V.int ∧ (∀ z ∈ ms, z ∈ ns) ∧ ms.length ≤ ns.length := by
  have hm : ∀ v ∈ pick3 (ns.map V.int) lo hi st, ∃ z ∈ ns, v = V.int z := fun v hv => by
    obtain ⟨z, hz, e⟩ := List.mem_map.mp (pick3_mem hv)
    exact ⟨z, hz, e.symm⟩
  have key : ∀ l : List V, (∀ v ∈ l, ∃ z ∈ ns, v = V.int z) → ∃ ms : List Int, l = ms.map V.int ∧ ∀ z ∈ ms, z ∈ ns := fun l => by
    induction l with
    | nil => intro _; exact ⟨[], rfl, by simp⟩
    | cons a r ih =>
      intro h
      obtain ⟨z, hz, rfl⟩ := h a (.head _)
      obtain ⟨ms, e, h2⟩ := ih fun v hv => h v (List.mem_cons_of_mem _ hv)
      exact ⟨z :: ms, by rw [e]; rfl, fun y hy => (List.mem_cons.mp hy).elim (fun e => e ▸ hz) (h2 y)⟩
  obtain ⟨ms, e, h⟩ := key _ hm
  refine ⟨ms, e, h, ?_⟩
  have := pick3_len (ns.map V.int) lo hi st
  rw [e] at this
  simpa using this
def spLaw (Pt : Addr) (K : PySem.W.Frag) : Sp := fun vs H Q _ => ∃ (a : Addr) (ns : List Int), vs = [.ref a] ∧ SqL K H a (ns.map V.int) ∧ ns.length ≤ 63 ∧ (∀ z ∈ ns, bits z ≤ 1048576) ∧ H Pt = some (.tbl #[]) ∧ ∀ H', Q (.bl true) H'
theorem c_law (T : Txt mg) {C CL Pt : Addr} (cls : Cls K CL) (io : InsOk K CL) (hg_Layer : mg "Layer" = some (.ref CL)) (D : Def K mg "law" s_law)
    (C_l_nth : Cal P w K mg base 1 "_law_nth" ["_law_script", "_law_k"] (sp_nth K)) (C_l_entries : Cal P w K mg base 4 "_law_entries" ["_law_cells", "_law_plain", "_law_old"] (sp_entries K)) (K_Rulebook : MCal P w K mg base 5 "Rulebook" C ["self", "endings", "silent"] (sp_rb K C Pt))
    (C_l_layer : Cal P w K mg base 3 "_law_layer" ["_law_rulebook", "_law_texts", "_law_gone"] (sp_llay K CL)) (C_l_right : Cal P w K mg base 2 "_law_right" ["_law_layer_here", "_law_texts", "_law_gone"] (sp_right K CL)) (C_poured : Cal P w K mg base 3 "poured" ["lower", "upper"] (sp_pour CL)) (C_lowest : Cal P w K mg base 3 "lowest" ["layer"] (sp_low CL)) :
    Cal P w K mg base 7 "law" ["_law_script"] (spLaw Pt K) := by
  refine D.cal sc_law (fun _ _ _ _ _ _ us hl => match us, hl with | [_], _ => rfl) (fun vs H Q E h => ?_) (fun f cdv A outer s H vs Q E hr h => ?_)
  · obtain ⟨a, ns, rfl, _⟩ := h; rfl
  · obtain ⟨a, ns, rfl, ha, hlen, hbs, hPt, q⟩ := h
    have hu := hu_of hr
    refine ⟨_, (pss_cons (ps_set (i := 1) sc_law.nd rfl (by first | exact Or.inl rfl | exact Or.inr rfl) (pe_cmpR op_eq (pe_op op_mod (pe_callC C_l_nth (hr.mono (by decide)) (pa_cons (pv 0) (pa_cons pe_int pa_nil))) pe_int) pe_int (nomark _)))
        (pss_cons (ps_set (i := 2) sc_law.nd rfl (by first | exact Or.inl rfl | exact Or.inr rfl) (pe_lst (pa_nil)))
        (pss_cons (ps_asg (pe_callC C_l_entries (hr.mono (by decide)) (pa_cons (pe_slice3 (pv 0) (po_some pe_int) (po_some pe_int) pe_int) (pa_cons (pv 1) (pa_cons (pv 2) pa_nil)))) (pg_tup (n := 2) rfl (pgs_cons (pg_name (i := 3) sc_law.nd rfl (by first | exact Or.inl rfl | exact Or.inr rfl)) (pgs_cons (pg_name (i := 4) sc_law.nd rfl (by first | exact Or.inl rfl | exact Or.inr rfl)) pgs_nil))))
        (pss_cons (ps_asg (pe_callC C_l_entries (hr.mono (by decide)) (pa_cons (pe_slice3 (pv 0) (po_some pe_int) (po_some pe_int) pe_int) (pa_cons (pv 1) (pa_cons (pv 2) pa_nil)))) (pg_tup (n := 2) rfl (pgs_cons (pg_name (i := 5) sc_law.nd rfl (by first | exact Or.inl rfl | exact Or.inr rfl)) (pgs_cons (pg_name (i := 6) sc_law.nd rfl (by first | exact Or.inl rfl | exact Or.inr rfl)) pgs_nil))))
        (pss_cons (ps_set (i := 7) sc_law.nd rfl (by first | exact Or.inl rfl | exact Or.inr rfl) (pe_mk K_Rulebook (hr.mono (by decide)) (pa_cons (pe_lst (pa_cons (pe_tup (pa_cons pe_str (pa_cons pe_str (pa_cons pe_int pa_nil)))) pa_nil)) (pa_cons (pe_lst (pa_cons pe_str pa_nil)) pa_nil))))
        (pss_cons (ps_set (i := 8) sc_law.nd rfl (by first | exact Or.inl rfl | exact Or.inr rfl) (pe_callC C_l_layer (hr.mono (by decide)) (pa_cons (pv 7) (pa_cons (pv 3) (pa_cons (pv 4) pa_nil)))))
        (pss_cons (ps_set (i := 9) sc_law.nd rfl (by first | exact Or.inl rfl | exact Or.inr rfl) (pe_callC C_l_layer (hr.mono (by decide)) (pa_cons (pv 7) (pa_cons (pv 5) (pa_cons (pv 6) pa_nil)))))
        (pss_cons (ps_if (PW.pt (pw_or (pt_cmpR op_isN (pv 8) pe_non (nomark _)) (pw_or1 (pt_cmpR op_isN (pv 9) pe_non (nomark _))))) (pss_one (ps_ret pe_bl)) pss_nil)
        (pss_cons (ps_set (i := 10) sc_law.nd rfl (by first | exact Or.inl rfl | exact Or.inr rfl) pe_dnewK)
        (pss_cons (ps_lock (ps_for PassesOwn.never rfl (pi_keys (pv 3)) (pg_name (i := 11) sc_law.nd rfl (by first | exact Or.inl rfl | exact Or.inr rfl)) (pss_one (ps_if (pt_cmpR (r := rIn K true) op_notIn_seq (pv 11) (pv 6) rfl) (pss_one (ps_dput hu (pv 10) (pv 11) (pe_dget hu (pv 3) (pv 11) (fun _ _ => rfl)) rfl)) pss_nil))))
        (pss_cons (ps_expr (pe_bm PySem.F.plainAttrs_dict PySem.F.slot_dict_update PySem.F.type_dict_update mt_dupd (pv 10) (pa_cons (pv 5) pa_nil)))
        (pss_cons (ps_set (i := 12) sc_law.nd rfl (by first | exact Or.inl rfl | exact Or.inr rfl) (pe_op op_cat (pe_lc (own := [("_law_name_here", 11)]) (g := (gName 11)) (by rfl) sc_law.nd (pi_list (pv 4)) (blkOk_by (own := [("_law_name_here", 11)]) (N := N_law) (sc := defScope s_law) (by decide +kernel)) (fun _ _ _ _ _ => (pg_name (i := 11) sc_law.nd rfl (by first | exact Or.inl rfl | exact Or.inr rfl))) (fun _ _ _ _ _ => (pts_one (PW.pt (pw_and (pt_cmp (pc_dnotin hu (pv 11) (pv 5))) (pw_and1 (pt_cmpR (r := rIn K true) op_notIn_seq (pv 11) (pv 6) rfl)))))) (fun _ _ _ _ _ => (pv 11))) (pv 6)))
        (pss_cons (ps_set (i := 13) sc_law.nd rfl (by first | exact Or.inl rfl | exact Or.inr rfl) (pe_callC C_poured (hr.mono (by decide)) (pa_cons (pv 8) (pa_cons (pv 9) pa_nil))))
        (pss_cons (ps_if (PW.pt (pw_or (pt_not (pt_val (pe_callB (r := rIsO K) (id := "isinstance") call_isO (by rfl) T.n_isinstance (by decide +kernel) (pa_cons (pv 13) (pa_cons (pe_glob (v := .ref _) (by rfl) hg_Layer rfl) pa_nil))))) (pw_or1 (pt_not (pt_val (pe_callC C_l_right (hr.mono (by decide)) (pa_cons (pv 13) (pa_cons (pv 10) (pa_cons (pv 12) pa_nil))))))))) (pss_one (ps_ret pe_bl)) pss_nil)
        (pss_cons (ps_if (PW.pt (pw_or (pt_not (pt_val (pe_callC C_l_right (hr.mono (by decide)) (pa_cons (pe_callC C_lowest (hr.mono (by decide)) (pa_cons (pv 13) pa_nil)) (pa_cons (pv 10) (pa_cons (pe_lst (pa_nil)) pa_nil)))))) (pw_or1 (pt_not (pt_val (pe_callC C_l_right (hr.mono (by decide)) (pa_cons (pe_callC C_lowest (hr.mono (by decide)) (pa_cons (pv 9) pa_nil)) (pa_cons (pv 5) (pa_cons (pe_lst (pa_nil)) pa_nil))))))))) (pss_one (ps_ret pe_bl)) pss_nil)
        (pss_cons (ps_set (i := 14) sc_law.nd rfl (by first | exact Or.inl rfl | exact Or.inr rfl) (pe_callTy call_dictD (by rfl) T.n_dict (by decide +kernel) (pa_cons (pv 3) pa_nil)))
        (pss_cons (ps_expr (pe_bm PySem.F.plainAttrs_dict PySem.F.slot_dict_update PySem.F.type_dict_update mt_dupd (pv 14) (pa_cons (pv 5) pa_nil)))
        (pss_cons (ps_if (pt_not (pt_val (pe_callC C_l_right (hr.mono (by decide)) (pa_cons (pe_callC C_poured (hr.mono (by decide)) (pa_cons (pe_callC C_lowest (hr.mono (by decide)) (pa_cons (pv 8) pa_nil)) (pa_cons (pe_callC C_lowest (hr.mono (by decide)) (pa_cons (pv 9) pa_nil)) pa_nil))) (pa_cons (pv 14) (pa_cons (pe_lst (pa_nil)) pa_nil)))))) (pss_one (ps_ret pe_bl)) pss_nil)
        (pss_one (ps_ret (pe_and (pe_callC C_l_right (hr.mono (by decide)) (pa_cons (pv 8) (pa_cons (pv 3) (pa_cons (pv 4) pa_nil)))) (pe_and (pe_callC C_l_right (hr.mono (by decide)) (pa_cons (pv 9) (pa_cons (pv 5) (pa_cons (pv 6) pa_nil)))) (pe_one (pe_callC C_l_right (hr.mono (by decide)) (pa_cons (pv 13) (pa_cons (pv 10) (pa_cons (pv 12) pa_nil))))))))))))))))))))))))))), ?_⟩
    have es0 : start N_law [V.ref a] = [some (.ref a), none, none, none, none, none, none, none, none, none, none, none, none, none, none] := rfl
    rw [es0, ap_tSeq]
    simp only [ap_tVar, ap_tC, ap_t2I, ap_tAdd, ap_tSub, ap_tMul, ap_tCmp, ap_tIsN, ap_tNotN, ap_tB, ap_tAnd, ap_tOr, ap_tNot, ap_tAndV, ap_tOrV, ap_tNotV, ap_tIf, ap_tNext, ap_tBreak, ap_tCont, ap_tDrop, ap_tRet, ap_tRetN, ap_tIfS, ap_tNever, ap_gName, ap_gNil, ap_gCons, ap_gTup, ap_gSub, ap_tAsg, ap_tPar, ap_tAug, ap_tAugS, ap_ipI, ap_iList, ap_iTup, ap_iRng1, ap_iRng2, ap_tOp, ap_tUn, ap_rI, ap_rI0, ap_rU, ap_rEq, ap_rNe, ap_tTest, ap_tChain, ap_tFld, ap_tCon, ap_sFld, ap_sFldAug, ap_rAdd, ap_rSub, ap_tNil, ap_tCons, ap_tTup, ap_tLst, ap_tCall, ap_tMeth, ap_tMake, ap_tCallK, ap_tCB, ap_tNoPart, ap_tPart, ap_tSl, ap_rSlT, ap_rLtT, ap_rCatT, ap_rIxL, ap_rIxT, ap_rIxS, ap_rIx, ap_rSetL, ap_rSlL, ap_rIn, ap_tBM0, ap_tBM, ap_rAppend, ap_rExtend, ap_rPop, ap_rPopAt, ap_rReverse, ap_rClear, ap_rCat, ap_rRep, ap_rSum, ap_rMax, ap_rMin, ap_rSorted, ap_rSortedS, ap_rSort, ap_rIndex, ap_rAny, ap_rAll, ap_tYes, ap_tDGet, ap_tDIn, ap_tDNotIn, ap_sDPut, ap_sDAug, ap_sDDel, ap_tDNewK, ap_tDNewT, ap_tDisp, ap_tDGet1, ap_tDGet2, ap_tDPop1, ap_tDPop2, ap_tLock, ap_tLockE, ap_iRng3, ap_iRev, ap_iStr, ap_iKeys, ap_iVals, ap_iItems, ap_iKeysM, ap_iEnum, ap_iZip, ap_rNewStrs, ap_tM0, ap_tM1, ap_rSlS, ap_gUnl, ap_rIsB,  ap_tFor, ap_tLc, if_true, if_false, Bool.false_eq_true, Bool.true_eq_false, Bool.not_true, Bool.not_false, not_true_eq_false, not_false_eq_true, cx_K, nox_K, blk_K, List.getElem?_cons_succ, List.getElem?_cons_zero, Option.some.injEq, exists_eq_left', exists_eq_left, exists_eq, exists_eq', V.int.injEq, V.bl.injEq, V.str.injEq, V.ref.injEq, V.ty.injEq, List.cons.injEq, and_true, true_and, exists_and_left, List.set_cons_succ, List.set_cons_zero, List.append_nil, List.nil_append, and_assoc, decide_eq_true_eq, Bool.not_eq_true', decide_eq_false_iff_not, scal, List.length_cons, List.length_nil, Nat.zero_add, Nat.reduceAdd, ap_tCs, ap_tDcB, ap_tLam, ap_tSortK, ap_tDNotIn, ap_tDIn, ap_sDPut, ap_tSetDefF, ap_rLenOf, ap_rTupOf, ap_rNeE, ap_rMaxD, ap_tSortedK, ap_rSortedD, ap_tLockV, ap_rMulS, ap_iEnumS, ap_rRange, ap_rListR, ap_rListD, ap_rDictOf, ap_rNeDs, ap_rEqDs, ap_rListOf, ap_rIsO, ap_rSortedSet, ap_rSortedSA, ap_rDClear, ap_rDUpd, ap_tSl3, ap_rSameL, ap_iItemsL, sp_nth]
    refine ⟨ns, ha, hlen, by decide, fun z hz => ⟨by decide, ?_⟩⟩
    rw [ap_tSeq]
    simp only [ap_tVar, ap_tC, ap_t2I, ap_tAdd, ap_tSub, ap_tMul, ap_tCmp, ap_tIsN, ap_tNotN, ap_tB, ap_tAnd, ap_tOr, ap_tNot, ap_tAndV, ap_tOrV, ap_tNotV, ap_tIf, ap_tNext, ap_tBreak, ap_tCont, ap_tDrop, ap_tRet, ap_tRetN, ap_tIfS, ap_tNever, ap_gName, ap_gNil, ap_gCons, ap_gTup, ap_gSub, ap_tAsg, ap_tPar, ap_tAug, ap_tAugS, ap_ipI, ap_iList, ap_iTup, ap_iRng1, ap_iRng2, ap_tOp, ap_tUn, ap_rI, ap_rI0, ap_rU, ap_rEq, ap_rNe, ap_tTest, ap_tChain, ap_tFld, ap_tCon, ap_sFld, ap_sFldAug, ap_rAdd, ap_rSub, ap_tNil, ap_tCons, ap_tTup, ap_tLst, ap_tCall, ap_tMeth, ap_tMake, ap_tCallK, ap_tCB, ap_tNoPart, ap_tPart, ap_tSl, ap_rSlT, ap_rLtT, ap_rCatT, ap_rIxL, ap_rIxT, ap_rIxS, ap_rIx, ap_rSetL, ap_rSlL, ap_rIn, ap_tBM0, ap_tBM, ap_rAppend, ap_rExtend, ap_rPop, ap_rPopAt, ap_rReverse, ap_rClear, ap_rCat, ap_rRep, ap_rSum, ap_rMax, ap_rMin, ap_rSorted, ap_rSortedS, ap_rSort, ap_rIndex, ap_rAny, ap_rAll, ap_tYes, ap_tDGet, ap_tDIn, ap_tDNotIn, ap_sDPut, ap_sDAug, ap_sDDel, ap_tDNewK, ap_tDNewT, ap_tDisp, ap_tDGet1, ap_tDGet2, ap_tDPop1, ap_tDPop2, ap_tLock, ap_tLockE, ap_iRng3, ap_iRev, ap_iStr, ap_iKeys, ap_iVals, ap_iItems, ap_iKeysM, ap_iEnum, ap_iZip, ap_rNewStrs, ap_tM0, ap_tM1, ap_rSlS, ap_gUnl, ap_rIsB,  ap_tFor, ap_tLc, if_true, if_false, Bool.false_eq_true, Bool.true_eq_false, Bool.not_true, Bool.not_false, not_true_eq_false, not_false_eq_true, cx_K, nox_K, blk_K, List.getElem?_cons_succ, List.getElem?_cons_zero, Option.some.injEq, exists_eq_left', exists_eq_left, exists_eq, exists_eq', V.int.injEq, V.bl.injEq, V.str.injEq, V.ref.injEq, V.ty.injEq, List.cons.injEq, and_true, true_and, exists_and_left, List.set_cons_succ, List.set_cons_zero, List.append_nil, List.nil_append, and_assoc, decide_eq_true_eq, Bool.not_eq_true', decide_eq_false_iff_not, scal, List.length_cons, List.length_nil, Nat.zero_add, Nat.reduceAdd, ap_tCs, ap_tDcB, ap_tLam, ap_tSortK, ap_tDNotIn, ap_tDIn, ap_sDPut, ap_tSetDefF, ap_rLenOf, ap_rTupOf, ap_rNeE, ap_rMaxD, ap_tSortedK, ap_rSortedD, ap_tLockV, ap_rMulS, ap_iEnumS, ap_rRange, ap_rListR, ap_rListD, ap_rDictOf, ap_rNeDs, ap_rEqDs, ap_rListOf, ap_rIsO, ap_rSortedSet, ap_rSortedSA, ap_rDClear, ap_rDUpd, ap_tSl3, ap_rSameL, ap_iItemsL]
    refine ⟨by decide, fun ol hol0 => ?_⟩
    have s1 := Same.new hol0 (o := .lst [])
    have hol1 := upd_same (H := H) (a := ol) (o := .lst [])
    have nPo : Pt ≠ ol := ne_of_none hPt hol0
    generalize upd H ol (.lst []) = H1 at *
    rw [ap_tSeq]
    simp only [ap_tVar, ap_tC, ap_t2I, ap_tAdd, ap_tSub, ap_tMul, ap_tCmp, ap_tIsN, ap_tNotN, ap_tB, ap_tAnd, ap_tOr, ap_tNot, ap_tAndV, ap_tOrV, ap_tNotV, ap_tIf, ap_tNext, ap_tBreak, ap_tCont, ap_tDrop, ap_tRet, ap_tRetN, ap_tIfS, ap_tNever, ap_gName, ap_gNil, ap_gCons, ap_gTup, ap_gSub, ap_tAsg, ap_tPar, ap_tAug, ap_tAugS, ap_ipI, ap_iList, ap_iTup, ap_iRng1, ap_iRng2, ap_tOp, ap_tUn, ap_rI, ap_rI0, ap_rU, ap_rEq, ap_rNe, ap_tTest, ap_tChain, ap_tFld, ap_tCon, ap_sFld, ap_sFldAug, ap_rAdd, ap_rSub, ap_tNil, ap_tCons, ap_tTup, ap_tLst, ap_tCall, ap_tMeth, ap_tMake, ap_tCallK, ap_tCB, ap_tNoPart, ap_tPart, ap_tSl, ap_rSlT, ap_rLtT, ap_rCatT, ap_rIxL, ap_rIxT, ap_rIxS, ap_rIx, ap_rSetL, ap_rSlL, ap_rIn, ap_tBM0, ap_tBM, ap_rAppend, ap_rExtend, ap_rPop, ap_rPopAt, ap_rReverse, ap_rClear, ap_rCat, ap_rRep, ap_rSum, ap_rMax, ap_rMin, ap_rSorted, ap_rSortedS, ap_rSort, ap_rIndex, ap_rAny, ap_rAll, ap_tYes, ap_tDGet, ap_tDIn, ap_tDNotIn, ap_sDPut, ap_sDAug, ap_sDDel, ap_tDNewK, ap_tDNewT, ap_tDisp, ap_tDGet1, ap_tDGet2, ap_tDPop1, ap_tDPop2, ap_tLock, ap_tLockE, ap_iRng3, ap_iRev, ap_iStr, ap_iKeys, ap_iVals, ap_iItems, ap_iKeysM, ap_iEnum, ap_iZip, ap_rNewStrs, ap_tM0, ap_tM1, ap_rSlS, ap_gUnl, ap_rIsB,  ap_tFor, ap_tLc, if_true, if_false, Bool.false_eq_true, Bool.true_eq_false, Bool.not_true, Bool.not_false, not_true_eq_false, not_false_eq_true, cx_K, nox_K, blk_K, List.getElem?_cons_succ, List.getElem?_cons_zero, Option.some.injEq, exists_eq_left', exists_eq_left, exists_eq, exists_eq', V.int.injEq, V.bl.injEq, V.str.injEq, V.ref.injEq, V.ty.injEq, List.cons.injEq, and_true, true_and, exists_and_left, List.set_cons_succ, List.set_cons_zero, List.append_nil, List.nil_append, and_assoc, decide_eq_true_eq, Bool.not_eq_true', decide_eq_false_iff_not, scal, List.length_cons, List.length_nil, Nat.zero_add, Nat.reduceAdd, ap_tCs, ap_tDcB, ap_tLam, ap_tSortK, ap_tDNotIn, ap_tDIn, ap_sDPut, ap_tSetDefF, ap_rLenOf, ap_rTupOf, ap_rNeE, ap_rMaxD, ap_tSortedK, ap_rSortedD, ap_tLockV, ap_rMulS, ap_iEnumS, ap_rRange, ap_rListR, ap_rListD, ap_rDictOf, ap_rNeDs, ap_rEqDs, ap_rListOf, ap_rIsO, ap_rSortedSet, ap_rSortedSA, ap_rDClear, ap_rDUpd, ap_tSl3, ap_rSameL, ap_iItemsL, sp_entries]
    obtain ⟨ms1, em1, hm1, lm1⟩ := pick_ints ns (some 1) (some 41) 2
    refine ⟨by decide, _, s1.sqL ha, fun c1 hc1 => ?_⟩
    rw [em1]
    have s2 := Same.new hc1 (o := .lst (ms1.map V.int))
    have hc2 := upd_same (H := H1) (a := c1) (o := .lst (ms1.map V.int))
    have nco : c1 ≠ ol := (ne_of_none hol1 hc1).symm
    generalize upd H1 c1 (.lst (ms1.map V.int)) = H2 at *
    refine ⟨ms1, .of hc2, fun z hz => hbs z (hm1 z hz), by omega, [], s2 _ _ hol1, by simp, by simp, nco, fun tp d1 g1 n1 gs1 os1 t1 H3 b3 htp hd1 O1 hg1 ho3 hos1 los1 hd10 hg10 => ⟨_, .of htp, rfl, ?_⟩⟩
    simp only [ap_tVar, ap_tC, ap_t2I, ap_tAdd, ap_tSub, ap_tMul, ap_tCmp, ap_tIsN, ap_tNotN, ap_tB, ap_tAnd, ap_tOr, ap_tNot, ap_tAndV, ap_tOrV, ap_tNotV, ap_tIf, ap_tNext, ap_tBreak, ap_tCont, ap_tDrop, ap_tRet, ap_tRetN, ap_tIfS, ap_tNever, ap_gName, ap_gNil, ap_gCons, ap_gTup, ap_gSub, ap_tAsg, ap_tPar, ap_tAug, ap_tAugS, ap_ipI, ap_iList, ap_iTup, ap_iRng1, ap_iRng2, ap_tOp, ap_tUn, ap_rI, ap_rI0, ap_rU, ap_rEq, ap_rNe, ap_tTest, ap_tChain, ap_tFld, ap_tCon, ap_sFld, ap_sFldAug, ap_rAdd, ap_rSub, ap_tNil, ap_tCons, ap_tTup, ap_tLst, ap_tCall, ap_tMeth, ap_tMake, ap_tCallK, ap_tCB, ap_tNoPart, ap_tPart, ap_tSl, ap_rSlT, ap_rLtT, ap_rCatT, ap_rIxL, ap_rIxT, ap_rIxS, ap_rIx, ap_rSetL, ap_rSlL, ap_rIn, ap_tBM0, ap_tBM, ap_rAppend, ap_rExtend, ap_rPop, ap_rPopAt, ap_rReverse, ap_rClear, ap_rCat, ap_rRep, ap_rSum, ap_rMax, ap_rMin, ap_rSorted, ap_rSortedS, ap_rSort, ap_rIndex, ap_rAny, ap_rAll, ap_tYes, ap_tDGet, ap_tDIn, ap_tDNotIn, ap_sDPut, ap_sDAug, ap_sDDel, ap_tDNewK, ap_tDNewT, ap_tDisp, ap_tDGet1, ap_tDGet2, ap_tDPop1, ap_tDPop2, ap_tLock, ap_tLockE, ap_iRng3, ap_iRev, ap_iStr, ap_iKeys, ap_iVals, ap_iItems, ap_iKeysM, ap_iEnum, ap_iZip, ap_rNewStrs, ap_tM0, ap_tM1, ap_rSlS, ap_gUnl, ap_rIsB,  ap_tFor, ap_tLc, if_true, if_false, Bool.false_eq_true, Bool.true_eq_false, Bool.not_true, Bool.not_false, not_true_eq_false, not_false_eq_true, cx_K, nox_K, blk_K, List.getElem?_cons_succ, List.getElem?_cons_zero, Option.some.injEq, exists_eq_left', exists_eq_left, exists_eq, exists_eq', V.int.injEq, V.bl.injEq, V.str.injEq, V.ref.injEq, V.ty.injEq, List.cons.injEq, and_true, true_and, exists_and_left, List.set_cons_succ, List.set_cons_zero, List.append_nil, List.nil_append, and_assoc, decide_eq_true_eq, Bool.not_eq_true', decide_eq_false_iff_not, scal, List.length_cons, List.length_nil, Nat.zero_add, Nat.reduceAdd, ap_tCs, ap_tDcB, ap_tLam, ap_tSortK, ap_tDNotIn, ap_tDIn, ap_sDPut, ap_tSetDefF, ap_rLenOf, ap_rTupOf, ap_rNeE, ap_rMaxD, ap_tSortedK, ap_rSortedD, ap_tLockV, ap_rMulS, ap_iEnumS, ap_rRange, ap_rListR, ap_rListD, ap_rDictOf, ap_rNeDs, ap_rEqDs, ap_rListOf, ap_rIsO, ap_rSortedSet, ap_rSortedSA, ap_rDClear, ap_rDUpd, ap_tSl3, ap_rSameL, ap_iItemsL]
    have nPo3 : H3 Pt = some (.tbl #[]) := b3 _ _ (s2 _ _ (s1 _ _ hPt)) nPo
    have ha3 : SqL K H3 a (ns.map V.int) := by
      rcases ha with (h | ⟨o, h⟩) | h
      · exact .inl (.inl (b3 _ _ ((s1.trans s2) _ _ h) (ne_of_none h hol0)))
      · exact .inl (.inr ⟨o, b3 _ _ ((s1.trans s2) _ _ h) (ne_of_none h hol0)⟩)
      · exact .inr h
    have nd1o : d1 ≠ ol := (ne_of_none (s2 _ _ hol1) hd10).symm
    have ng1o : g1 ≠ ol := (ne_of_none (s2 _ _ hol1) hg10).symm
    rw [ap_tSeq]
    simp only [ap_tVar, ap_tC, ap_t2I, ap_tAdd, ap_tSub, ap_tMul, ap_tCmp, ap_tIsN, ap_tNotN, ap_tB, ap_tAnd, ap_tOr, ap_tNot, ap_tAndV, ap_tOrV, ap_tNotV, ap_tIf, ap_tNext, ap_tBreak, ap_tCont, ap_tDrop, ap_tRet, ap_tRetN, ap_tIfS, ap_tNever, ap_gName, ap_gNil, ap_gCons, ap_gTup, ap_gSub, ap_tAsg, ap_tPar, ap_tAug, ap_tAugS, ap_ipI, ap_iList, ap_iTup, ap_iRng1, ap_iRng2, ap_tOp, ap_tUn, ap_rI, ap_rI0, ap_rU, ap_rEq, ap_rNe, ap_tTest, ap_tChain, ap_tFld, ap_tCon, ap_sFld, ap_sFldAug, ap_rAdd, ap_rSub, ap_tNil, ap_tCons, ap_tTup, ap_tLst, ap_tCall, ap_tMeth, ap_tMake, ap_tCallK, ap_tCB, ap_tNoPart, ap_tPart, ap_tSl, ap_rSlT, ap_rLtT, ap_rCatT, ap_rIxL, ap_rIxT, ap_rIxS, ap_rIx, ap_rSetL, ap_rSlL, ap_rIn, ap_tBM0, ap_tBM, ap_rAppend, ap_rExtend, ap_rPop, ap_rPopAt, ap_rReverse, ap_rClear, ap_rCat, ap_rRep, ap_rSum, ap_rMax, ap_rMin, ap_rSorted, ap_rSortedS, ap_rSort, ap_rIndex, ap_rAny, ap_rAll, ap_tYes, ap_tDGet, ap_tDIn, ap_tDNotIn, ap_sDPut, ap_sDAug, ap_sDDel, ap_tDNewK, ap_tDNewT, ap_tDisp, ap_tDGet1, ap_tDGet2, ap_tDPop1, ap_tDPop2, ap_tLock, ap_tLockE, ap_iRng3, ap_iRev, ap_iStr, ap_iKeys, ap_iVals, ap_iItems, ap_iKeysM, ap_iEnum, ap_iZip, ap_rNewStrs, ap_tM0, ap_tM1, ap_rSlS, ap_gUnl, ap_rIsB,  ap_tFor, ap_tLc, if_true, if_false, Bool.false_eq_true, Bool.true_eq_false, Bool.not_true, Bool.not_false, not_true_eq_false, not_false_eq_true, cx_K, nox_K, blk_K, List.getElem?_cons_succ, List.getElem?_cons_zero, Option.some.injEq, exists_eq_left', exists_eq_left, exists_eq, exists_eq', V.int.injEq, V.bl.injEq, V.str.injEq, V.ref.injEq, V.ty.injEq, List.cons.injEq, and_true, true_and, exists_and_left, List.set_cons_succ, List.set_cons_zero, List.append_nil, List.nil_append, and_assoc, decide_eq_true_eq, Bool.not_eq_true', decide_eq_false_iff_not, scal, List.length_cons, List.length_nil, Nat.zero_add, Nat.reduceAdd, ap_tCs, ap_tDcB, ap_tLam, ap_tSortK, ap_tDNotIn, ap_tDIn, ap_sDPut, ap_tSetDefF, ap_rLenOf, ap_rTupOf, ap_rNeE, ap_rMaxD, ap_tSortedK, ap_rSortedD, ap_tLockV, ap_rMulS, ap_iEnumS, ap_rRange, ap_rListR, ap_rListD, ap_rDictOf, ap_rNeDs, ap_rEqDs, ap_rListOf, ap_rIsO, ap_rSortedSet, ap_rSortedSA, ap_rDClear, ap_rDUpd, ap_tSl3, ap_rSameL, ap_iItemsL, sp_entries]
    obtain ⟨ms2, em2, hm2, lm2⟩ := pick_ints ns (some 2) (some 41) 2
    refine ⟨by decide, _, ha3, fun c2 hc2' => ?_⟩
    rw [em2]
    have s4 := Same.new hc2' (o := .lst (ms2.map V.int))
    have hc4 := upd_same (H := H3) (a := c2) (o := .lst (ms2.map V.int))
    have nco2 : c2 ≠ ol := (ne_of_none ho3 hc2').symm
    generalize upd H3 c2 (.lst (ms2.map V.int)) = H4 at *
    refine ⟨ms2, .of hc4, fun z hz => hbs z (hm2 z hz), by omega, os1, s4 _ _ ho3, hos1, by simp at los1; omega, nco2, fun tp2 d2 g2 n2 gs2 os2 t2 H5 b5 htp2 hd2 O2 hg2 ho5 hos2 los2 hd20 hg20 => ⟨_, .of htp2, rfl, ?_⟩⟩
    simp only [ap_tVar, ap_tC, ap_t2I, ap_tAdd, ap_tSub, ap_tMul, ap_tCmp, ap_tIsN, ap_tNotN, ap_tB, ap_tAnd, ap_tOr, ap_tNot, ap_tAndV, ap_tOrV, ap_tNotV, ap_tIf, ap_tNext, ap_tBreak, ap_tCont, ap_tDrop, ap_tRet, ap_tRetN, ap_tIfS, ap_tNever, ap_gName, ap_gNil, ap_gCons, ap_gTup, ap_gSub, ap_tAsg, ap_tPar, ap_tAug, ap_tAugS, ap_ipI, ap_iList, ap_iTup, ap_iRng1, ap_iRng2, ap_tOp, ap_tUn, ap_rI, ap_rI0, ap_rU, ap_rEq, ap_rNe, ap_tTest, ap_tChain, ap_tFld, ap_tCon, ap_sFld, ap_sFldAug, ap_rAdd, ap_rSub, ap_tNil, ap_tCons, ap_tTup, ap_tLst, ap_tCall, ap_tMeth, ap_tMake, ap_tCallK, ap_tCB, ap_tNoPart, ap_tPart, ap_tSl, ap_rSlT, ap_rLtT, ap_rCatT, ap_rIxL, ap_rIxT, ap_rIxS, ap_rIx, ap_rSetL, ap_rSlL, ap_rIn, ap_tBM0, ap_tBM, ap_rAppend, ap_rExtend, ap_rPop, ap_rPopAt, ap_rReverse, ap_rClear, ap_rCat, ap_rRep, ap_rSum, ap_rMax, ap_rMin, ap_rSorted, ap_rSortedS, ap_rSort, ap_rIndex, ap_rAny, ap_rAll, ap_tYes, ap_tDGet, ap_tDIn, ap_tDNotIn, ap_sDPut, ap_sDAug, ap_sDDel, ap_tDNewK, ap_tDNewT, ap_tDisp, ap_tDGet1, ap_tDGet2, ap_tDPop1, ap_tDPop2, ap_tLock, ap_tLockE, ap_iRng3, ap_iRev, ap_iStr, ap_iKeys, ap_iVals, ap_iItems, ap_iKeysM, ap_iEnum, ap_iZip, ap_rNewStrs, ap_tM0, ap_tM1, ap_rSlS, ap_gUnl, ap_rIsB,  ap_tFor, ap_tLc, if_true, if_false, Bool.false_eq_true, Bool.true_eq_false, Bool.not_true, Bool.not_false, not_true_eq_false, not_false_eq_true, cx_K, nox_K, blk_K, List.getElem?_cons_succ, List.getElem?_cons_zero, Option.some.injEq, exists_eq_left', exists_eq_left, exists_eq, exists_eq', V.int.injEq, V.bl.injEq, V.str.injEq, V.ref.injEq, V.ty.injEq, List.cons.injEq, and_true, true_and, exists_and_left, List.set_cons_succ, List.set_cons_zero, List.append_nil, List.nil_append, and_assoc, decide_eq_true_eq, Bool.not_eq_true', decide_eq_false_iff_not, scal, List.length_cons, List.length_nil, Nat.zero_add, Nat.reduceAdd, ap_tCs, ap_tDcB, ap_tLam, ap_tSortK, ap_tDNotIn, ap_tDIn, ap_sDPut, ap_tSetDefF, ap_rLenOf, ap_rTupOf, ap_rNeE, ap_rMaxD, ap_tSortedK, ap_rSortedD, ap_tLockV, ap_rMulS, ap_iEnumS, ap_rRange, ap_rListR, ap_rListD, ap_rDictOf, ap_rNeDs, ap_rEqDs, ap_rListOf, ap_rIsO, ap_rSortedSet, ap_rSortedSA, ap_rDClear, ap_rDUpd, ap_tSl3, ap_rSameL, ap_iItemsL]
    have hP5 : H5 Pt = some (.tbl #[]) := b5 _ _ (s4 _ _ nPo3) nPo
    have hd15 : TD H5 d1 n1 t1 := (hd1.same s4).but (s4 _ _ ho3) (by intro xs z; cases z) nd1o b5
    have hg15 : H5 g1 = some (.lst (gs1.map V.str)) := b5 _ _ (s4 _ _ hg1) ng1o
    have le1 := O1.le
    have le2 := O2.le
    clear b3 b5 ho3 ho5 hos1 hos2 htp htp2 hc2 hc4 hg1 hd1 hol1
    rw [ap_tSeq]
    simp only [ap_tVar, ap_tC, ap_t2I, ap_tAdd, ap_tSub, ap_tMul, ap_tCmp, ap_tIsN, ap_tNotN, ap_tB, ap_tAnd, ap_tOr, ap_tNot, ap_tAndV, ap_tOrV, ap_tNotV, ap_tIf, ap_tNext, ap_tBreak, ap_tCont, ap_tDrop, ap_tRet, ap_tRetN, ap_tIfS, ap_tNever, ap_gName, ap_gNil, ap_gCons, ap_gTup, ap_gSub, ap_tAsg, ap_tPar, ap_tAug, ap_tAugS, ap_ipI, ap_iList, ap_iTup, ap_iRng1, ap_iRng2, ap_tOp, ap_tUn, ap_rI, ap_rI0, ap_rU, ap_rEq, ap_rNe, ap_tTest, ap_tChain, ap_tFld, ap_tCon, ap_sFld, ap_sFldAug, ap_rAdd, ap_rSub, ap_tNil, ap_tCons, ap_tTup, ap_tLst, ap_tCall, ap_tMeth, ap_tMake, ap_tCallK, ap_tCB, ap_tNoPart, ap_tPart, ap_tSl, ap_rSlT, ap_rLtT, ap_rCatT, ap_rIxL, ap_rIxT, ap_rIxS, ap_rIx, ap_rSetL, ap_rSlL, ap_rIn, ap_tBM0, ap_tBM, ap_rAppend, ap_rExtend, ap_rPop, ap_rPopAt, ap_rReverse, ap_rClear, ap_rCat, ap_rRep, ap_rSum, ap_rMax, ap_rMin, ap_rSorted, ap_rSortedS, ap_rSort, ap_rIndex, ap_rAny, ap_rAll, ap_tYes, ap_tDGet, ap_tDIn, ap_tDNotIn, ap_sDPut, ap_sDAug, ap_sDDel, ap_tDNewK, ap_tDNewT, ap_tDisp, ap_tDGet1, ap_tDGet2, ap_tDPop1, ap_tDPop2, ap_tLock, ap_tLockE, ap_iRng3, ap_iRev, ap_iStr, ap_iKeys, ap_iVals, ap_iItems, ap_iKeysM, ap_iEnum, ap_iZip, ap_rNewStrs, ap_tM0, ap_tM1, ap_rSlS, ap_gUnl, ap_rIsB,  ap_tFor, ap_tLc, if_true, if_false, Bool.false_eq_true, Bool.true_eq_false, Bool.not_true, Bool.not_false, not_true_eq_false, not_false_eq_true, cx_K, nox_K, blk_K, List.getElem?_cons_succ, List.getElem?_cons_zero, Option.some.injEq, exists_eq_left', exists_eq_left, exists_eq, exists_eq', V.int.injEq, V.bl.injEq, V.str.injEq, V.ref.injEq, V.ty.injEq, List.cons.injEq, and_true, true_and, exists_and_left, List.set_cons_succ, List.set_cons_zero, List.append_nil, List.nil_append, and_assoc, decide_eq_true_eq, Bool.not_eq_true', decide_eq_false_iff_not, scal, List.length_cons, List.length_nil, Nat.zero_add, Nat.reduceAdd, ap_tCs, ap_tDcB, ap_tLam, ap_tSortK, ap_tDNotIn, ap_tDIn, ap_sDPut, ap_tSetDefF, ap_rLenOf, ap_rTupOf, ap_rNeE, ap_rMaxD, ap_tSortedK, ap_rSortedD, ap_tLockV, ap_rMulS, ap_iEnumS, ap_rRange, ap_rListR, ap_rListD, ap_rDictOf, ap_rNeDs, ap_rEqDs, ap_rListOf, ap_rIsO, ap_rSortedSet, ap_rSortedSA, ap_rDClear, ap_rDUpd, ap_tSl3, ap_rSameL, ap_iItemsL]
    refine ⟨by decide, fun e1 he1 => ⟨by decide, fun e2 he2 => ⟨by decide, fun e3 he3 => ?_⟩⟩⟩
    have u1 := Same.new he1 (o := .tup [V.str (Str.ofString "s"), V.str (Str.ofString ""), V.int 2])
    have f1 := upd_same (H := H5) (a := e1) (o := .tup [V.str (Str.ofString "s"), V.str (Str.ofString ""), V.int 2])
    generalize upd H5 e1 (.tup [V.str (Str.ofString "s"), V.str (Str.ofString ""), V.int 2]) = H6 at *
    have u2 := Same.new he2 (o := .lst [V.ref e1])
    have f2 := upd_same (H := H6) (a := e2) (o := .lst [V.ref e1])
    generalize upd H6 e2 (.lst [V.ref e1]) = H7 at *
    have u3 := Same.new he3 (o := .lst [V.str (Str.ofString "the")])
    have f3 := upd_same (H := H7) (a := e3) (o := .lst [V.str (Str.ofString "the")])
    generalize upd H7 e3 (.lst [V.str (Str.ofString "the")]) = H8 at *
    have u58 := (u1.trans u2).trans u3
    have tab8 : TabOk Pt lamPos lamQ H8 := ⟨#[], u58 _ _ hP5, trivial, .inl rfl⟩
    refine mk_rb (ps := [e1]) (es := [sEn]) (zs := [Str.ofString "the"]) (.of (u3 _ _ f2)) ⟨rfl, fun i p e h1 h2 => ?_⟩ (by simp [sEn_ok]) (by simp) (by simp) (.of f3) (by simp [the_ok]) (by simp) (by simp) tab8 fun x D dd H9 hx0 hD0 hdd0 R9 k9 T9 => ?_
    · rcases i with _ | i
      · simp at h1 h2
        subst h1 h2
        exact u3 _ _ (u2 _ _ f1)
      · simp at h1
    obtain ⟨tb8, hPt8, _⟩ := tab8
    have T59 : Tk H5 H9 := (Tk.of u58).trans fun p xs e => k9.at_ hPt8 e (by intro u z; cases z)
    have d19 : TD H9 d1 n1 t1 := by
      obtain ⟨kv, e, k⟩ := hd15
      exact ⟨kv, k9.at_ hPt8 (u58 _ _ e) (by intro u z; cases z), k.tk T59⟩
    have d29 : TD H9 d2 n2 t2 := by
      obtain ⟨kv, e, k⟩ := hd2
      exact ⟨kv, k9.at_ hPt8 (u58 _ _ e) (by intro u z; cases z), k.tk T59⟩
    have g19 := k9.at_ hPt8 (u58 _ _ hg15) (by intro u z; cases z)
    have g29 := k9.at_ hPt8 (u58 _ _ hg2) (by intro u z; cases z)
    clear T59 hd15 hd2 hg15 hg2 k9 T9 R9 f1 f2 f3 u58 hP5
    have E1 : EnO n1 gs1 t1 300 := ⟨O1.tx, O1.gn, O1.go, O1.ap, by omega⟩
    have E2 : EnO n2 gs2 t2 300 := ⟨O2.tx, O2.gn, O2.go, O2.ap, by omega⟩
    rw [ap_tSeq]
    simp only [ap_tVar, ap_tC, ap_t2I, ap_tAdd, ap_tSub, ap_tMul, ap_tCmp, ap_tIsN, ap_tNotN, ap_tB, ap_tAnd, ap_tOr, ap_tNot, ap_tAndV, ap_tOrV, ap_tNotV, ap_tIf, ap_tNext, ap_tBreak, ap_tCont, ap_tDrop, ap_tRet, ap_tRetN, ap_tIfS, ap_tNever, ap_gName, ap_gNil, ap_gCons, ap_gTup, ap_gSub, ap_tAsg, ap_tPar, ap_tAug, ap_tAugS, ap_ipI, ap_iList, ap_iTup, ap_iRng1, ap_iRng2, ap_tOp, ap_tUn, ap_rI, ap_rI0, ap_rU, ap_rEq, ap_rNe, ap_tTest, ap_tChain, ap_tFld, ap_tCon, ap_sFld, ap_sFldAug, ap_rAdd, ap_rSub, ap_tNil, ap_tCons, ap_tTup, ap_tLst, ap_tCall, ap_tMeth, ap_tMake, ap_tCallK, ap_tCB, ap_tNoPart, ap_tPart, ap_tSl, ap_rSlT, ap_rLtT, ap_rCatT, ap_rIxL, ap_rIxT, ap_rIxS, ap_rIx, ap_rSetL, ap_rSlL, ap_rIn, ap_tBM0, ap_tBM, ap_rAppend, ap_rExtend, ap_rPop, ap_rPopAt, ap_rReverse, ap_rClear, ap_rCat, ap_rRep, ap_rSum, ap_rMax, ap_rMin, ap_rSorted, ap_rSortedS, ap_rSort, ap_rIndex, ap_rAny, ap_rAll, ap_tYes, ap_tDGet, ap_tDIn, ap_tDNotIn, ap_sDPut, ap_sDAug, ap_sDDel, ap_tDNewK, ap_tDNewT, ap_tDisp, ap_tDGet1, ap_tDGet2, ap_tDPop1, ap_tDPop2, ap_tLock, ap_tLockE, ap_iRng3, ap_iRev, ap_iStr, ap_iKeys, ap_iVals, ap_iItems, ap_iKeysM, ap_iEnum, ap_iZip, ap_rNewStrs, ap_tM0, ap_tM1, ap_rSlS, ap_gUnl, ap_rIsB,  ap_tFor, ap_tLc, if_true, if_false, Bool.false_eq_true, Bool.true_eq_false, Bool.not_true, Bool.not_false, not_true_eq_false, not_false_eq_true, cx_K, nox_K, blk_K, List.getElem?_cons_succ, List.getElem?_cons_zero, Option.some.injEq, exists_eq_left', exists_eq_left, exists_eq, exists_eq', V.int.injEq, V.bl.injEq, V.str.injEq, V.ref.injEq, V.ty.injEq, List.cons.injEq, and_true, true_and, exists_and_left, List.set_cons_succ, List.set_cons_zero, List.append_nil, List.nil_append, and_assoc, decide_eq_true_eq, Bool.not_eq_true', decide_eq_false_iff_not, scal, List.length_cons, List.length_nil, Nat.zero_add, Nat.reduceAdd, ap_tCs, ap_tDcB, ap_tLam, ap_tSortK, ap_tDNotIn, ap_tDIn, ap_sDPut, ap_tSetDefF, ap_rLenOf, ap_rTupOf, ap_rNeE, ap_rMaxD, ap_tSortedK, ap_rSortedD, ap_tLockV, ap_rMulS, ap_iEnumS, ap_rRange, ap_rListR, ap_rListD, ap_rDictOf, ap_rNeDs, ap_rEqDs, ap_rListOf, ap_rIsO, ap_rSortedSet, ap_rSortedSA, ap_rDClear, ap_rDUpd, ap_tSl3, ap_rSameL, ap_iItemsL, sp_llay]
    refine ⟨n1, gs1, t1, d19, E1, g19, fun l1 n1' g1' H10 s10 _ L1 p1 q1 => ?_⟩
    rw [ap_tSeq]
    simp only [ap_tVar, ap_tC, ap_t2I, ap_tAdd, ap_tSub, ap_tMul, ap_tCmp, ap_tIsN, ap_tNotN, ap_tB, ap_tAnd, ap_tOr, ap_tNot, ap_tAndV, ap_tOrV, ap_tNotV, ap_tIf, ap_tNext, ap_tBreak, ap_tCont, ap_tDrop, ap_tRet, ap_tRetN, ap_tIfS, ap_tNever, ap_gName, ap_gNil, ap_gCons, ap_gTup, ap_gSub, ap_tAsg, ap_tPar, ap_tAug, ap_tAugS, ap_ipI, ap_iList, ap_iTup, ap_iRng1, ap_iRng2, ap_tOp, ap_tUn, ap_rI, ap_rI0, ap_rU, ap_rEq, ap_rNe, ap_tTest, ap_tChain, ap_tFld, ap_tCon, ap_sFld, ap_sFldAug, ap_rAdd, ap_rSub, ap_tNil, ap_tCons, ap_tTup, ap_tLst, ap_tCall, ap_tMeth, ap_tMake, ap_tCallK, ap_tCB, ap_tNoPart, ap_tPart, ap_tSl, ap_rSlT, ap_rLtT, ap_rCatT, ap_rIxL, ap_rIxT, ap_rIxS, ap_rIx, ap_rSetL, ap_rSlL, ap_rIn, ap_tBM0, ap_tBM, ap_rAppend, ap_rExtend, ap_rPop, ap_rPopAt, ap_rReverse, ap_rClear, ap_rCat, ap_rRep, ap_rSum, ap_rMax, ap_rMin, ap_rSorted, ap_rSortedS, ap_rSort, ap_rIndex, ap_rAny, ap_rAll, ap_tYes, ap_tDGet, ap_tDIn, ap_tDNotIn, ap_sDPut, ap_sDAug, ap_sDDel, ap_tDNewK, ap_tDNewT, ap_tDisp, ap_tDGet1, ap_tDGet2, ap_tDPop1, ap_tDPop2, ap_tLock, ap_tLockE, ap_iRng3, ap_iRev, ap_iStr, ap_iKeys, ap_iVals, ap_iItems, ap_iKeysM, ap_iEnum, ap_iZip, ap_rNewStrs, ap_tM0, ap_tM1, ap_rSlS, ap_gUnl, ap_rIsB,  ap_tFor, ap_tLc, if_true, if_false, Bool.false_eq_true, Bool.true_eq_false, Bool.not_true, Bool.not_false, not_true_eq_false, not_false_eq_true, cx_K, nox_K, blk_K, List.getElem?_cons_succ, List.getElem?_cons_zero, Option.some.injEq, exists_eq_left', exists_eq_left, exists_eq, exists_eq', V.int.injEq, V.bl.injEq, V.str.injEq, V.ref.injEq, V.ty.injEq, List.cons.injEq, and_true, true_and, exists_and_left, List.set_cons_succ, List.set_cons_zero, List.append_nil, List.nil_append, and_assoc, decide_eq_true_eq, Bool.not_eq_true', decide_eq_false_iff_not, scal, List.length_cons, List.length_nil, Nat.zero_add, Nat.reduceAdd, ap_tCs, ap_tDcB, ap_tLam, ap_tSortK, ap_tDNotIn, ap_tDIn, ap_sDPut, ap_tSetDefF, ap_rLenOf, ap_rTupOf, ap_rNeE, ap_rMaxD, ap_tSortedK, ap_rSortedD, ap_tLockV, ap_rMulS, ap_iEnumS, ap_rRange, ap_rListR, ap_rListD, ap_rDictOf, ap_rNeDs, ap_rEqDs, ap_rListOf, ap_rIsO, ap_rSortedSet, ap_rSortedSA, ap_rDClear, ap_rDUpd, ap_tSl3, ap_rSameL, ap_iItemsL, sp_llay]
    refine ⟨n2, gs2, t2, d29.same s10, E2, s10 _ _ g29, fun l2 n2' g2' H11 s11 _ L2 p2 q2 => ?_⟩
    have s911 := s10.trans s11
    have d1b := d19.same s911
    have d2b := d29.same s911
    have g1b := s911 _ _ g19
    have g2b := s911 _ _ g29
    have L1b := L1.same s11
    clear d19 d29 g19 g29 L1
    rw [ap_tSeq]
    simp only [ap_tVar, ap_tC, ap_t2I, ap_tAdd, ap_tSub, ap_tMul, ap_tCmp, ap_tIsN, ap_tNotN, ap_tB, ap_tAnd, ap_tOr, ap_tNot, ap_tAndV, ap_tOrV, ap_tNotV, ap_tIf, ap_tNext, ap_tBreak, ap_tCont, ap_tDrop, ap_tRet, ap_tRetN, ap_tIfS, ap_tNever, ap_gName, ap_gNil, ap_gCons, ap_gTup, ap_gSub, ap_tAsg, ap_tPar, ap_tAug, ap_tAugS, ap_ipI, ap_iList, ap_iTup, ap_iRng1, ap_iRng2, ap_tOp, ap_tUn, ap_rI, ap_rI0, ap_rU, ap_rEq, ap_rNe, ap_tTest, ap_tChain, ap_tFld, ap_tCon, ap_sFld, ap_sFldAug, ap_rAdd, ap_rSub, ap_tNil, ap_tCons, ap_tTup, ap_tLst, ap_tCall, ap_tMeth, ap_tMake, ap_tCallK, ap_tCB, ap_tNoPart, ap_tPart, ap_tSl, ap_rSlT, ap_rLtT, ap_rCatT, ap_rIxL, ap_rIxT, ap_rIxS, ap_rIx, ap_rSetL, ap_rSlL, ap_rIn, ap_tBM0, ap_tBM, ap_rAppend, ap_rExtend, ap_rPop, ap_rPopAt, ap_rReverse, ap_rClear, ap_rCat, ap_rRep, ap_rSum, ap_rMax, ap_rMin, ap_rSorted, ap_rSortedS, ap_rSort, ap_rIndex, ap_rAny, ap_rAll, ap_tYes, ap_tDGet, ap_tDIn, ap_tDNotIn, ap_sDPut, ap_sDAug, ap_sDDel, ap_tDNewK, ap_tDNewT, ap_tDisp, ap_tDGet1, ap_tDGet2, ap_tDPop1, ap_tDPop2, ap_tLock, ap_tLockE, ap_iRng3, ap_iRev, ap_iStr, ap_iKeys, ap_iVals, ap_iItems, ap_iKeysM, ap_iEnum, ap_iZip, ap_rNewStrs, ap_tM0, ap_tM1, ap_rSlS, ap_gUnl, ap_rIsB,  ap_tFor, ap_tLc, if_true, if_false, Bool.false_eq_true, Bool.true_eq_false, Bool.not_true, Bool.not_false, not_true_eq_false, not_false_eq_true, cx_K, nox_K, blk_K, List.getElem?_cons_succ, List.getElem?_cons_zero, Option.some.injEq, exists_eq_left', exists_eq_left, exists_eq, exists_eq', V.int.injEq, V.bl.injEq, V.str.injEq, V.ref.injEq, V.ty.injEq, List.cons.injEq, and_true, true_and, exists_and_left, List.set_cons_succ, List.set_cons_zero, List.append_nil, List.nil_append, and_assoc, decide_eq_true_eq, Bool.not_eq_true', decide_eq_false_iff_not, scal, List.length_cons, List.length_nil, Nat.zero_add, Nat.reduceAdd, ap_tCs, ap_tDcB, ap_tLam, ap_tSortK, ap_tDNotIn, ap_tDIn, ap_sDPut, ap_tSetDefF, ap_rLenOf, ap_rTupOf, ap_rNeE, ap_rMaxD, ap_tSortedK, ap_rSortedD, ap_tLockV, ap_rMulS, ap_iEnumS, ap_rRange, ap_rListR, ap_rListD, ap_rDictOf, ap_rNeDs, ap_rEqDs, ap_rListOf, ap_rIsO, ap_rSortedSet, ap_rSortedSA, ap_rDClear, ap_rDUpd, ap_tSl3, ap_rSameL, ap_iItemsL]
    rw [ap_tSeq]
    simp only [ap_tVar, ap_tC, ap_t2I, ap_tAdd, ap_tSub, ap_tMul, ap_tCmp, ap_tIsN, ap_tNotN, ap_tB, ap_tAnd, ap_tOr, ap_tNot, ap_tAndV, ap_tOrV, ap_tNotV, ap_tIf, ap_tNext, ap_tBreak, ap_tCont, ap_tDrop, ap_tRet, ap_tRetN, ap_tIfS, ap_tNever, ap_gName, ap_gNil, ap_gCons, ap_gTup, ap_gSub, ap_tAsg, ap_tPar, ap_tAug, ap_tAugS, ap_ipI, ap_iList, ap_iTup, ap_iRng1, ap_iRng2, ap_tOp, ap_tUn, ap_rI, ap_rI0, ap_rU, ap_rEq, ap_rNe, ap_tTest, ap_tChain, ap_tFld, ap_tCon, ap_sFld, ap_sFldAug, ap_rAdd, ap_rSub, ap_tNil, ap_tCons, ap_tTup, ap_tLst, ap_tCall, ap_tMeth, ap_tMake, ap_tCallK, ap_tCB, ap_tNoPart, ap_tPart, ap_tSl, ap_rSlT, ap_rLtT, ap_rCatT, ap_rIxL, ap_rIxT, ap_rIxS, ap_rIx, ap_rSetL, ap_rSlL, ap_rIn, ap_tBM0, ap_tBM, ap_rAppend, ap_rExtend, ap_rPop, ap_rPopAt, ap_rReverse, ap_rClear, ap_rCat, ap_rRep, ap_rSum, ap_rMax, ap_rMin, ap_rSorted, ap_rSortedS, ap_rSort, ap_rIndex, ap_rAny, ap_rAll, ap_tYes, ap_tDGet, ap_tDIn, ap_tDNotIn, ap_sDPut, ap_sDAug, ap_sDDel, ap_tDNewK, ap_tDNewT, ap_tDisp, ap_tDGet1, ap_tDGet2, ap_tDPop1, ap_tDPop2, ap_tLock, ap_tLockE, ap_iRng3, ap_iRev, ap_iStr, ap_iKeys, ap_iVals, ap_iItems, ap_iKeysM, ap_iEnum, ap_iZip, ap_rNewStrs, ap_tM0, ap_tM1, ap_rSlS, ap_gUnl, ap_rIsB,  ap_tFor, ap_tLc, if_true, if_false, Bool.false_eq_true, Bool.true_eq_false, Bool.not_true, Bool.not_false, not_true_eq_false, not_false_eq_true, cx_K, nox_K, blk_K, List.getElem?_cons_succ, List.getElem?_cons_zero, Option.some.injEq, exists_eq_left', exists_eq_left, exists_eq, exists_eq', V.int.injEq, V.bl.injEq, V.str.injEq, V.ref.injEq, V.ty.injEq, List.cons.injEq, and_true, true_and, exists_and_left, List.set_cons_succ, List.set_cons_zero, List.append_nil, List.nil_append, and_assoc, decide_eq_true_eq, Bool.not_eq_true', decide_eq_false_iff_not, scal, List.length_cons, List.length_nil, Nat.zero_add, Nat.reduceAdd, ap_tCs, ap_tDcB, ap_tLam, ap_tSortK, ap_tDNotIn, ap_tDIn, ap_sDPut, ap_tSetDefF, ap_rLenOf, ap_rTupOf, ap_rNeE, ap_rMaxD, ap_tSortedK, ap_rSortedD, ap_tLockV, ap_rMulS, ap_iEnumS, ap_rRange, ap_rListR, ap_rListD, ap_rDictOf, ap_rNeDs, ap_rEqDs, ap_rListOf, ap_rIsO, ap_rSortedSet, ap_rSortedSA, ap_rDClear, ap_rDUpd, ap_tSl3, ap_rSameL, ap_iItemsL]
    intro du hdu
    have s12 := Same.new hdu (o := .dK [])
    have hdu1 := upd_same (H := H11) (a := du) (o := .dK [])
    generalize upd H11 du (.dK []) = H12 at *
    rw [ap_tSeq]
    simp only [ap_tVar, ap_tC, ap_t2I, ap_tAdd, ap_tSub, ap_tMul, ap_tCmp, ap_tIsN, ap_tNotN, ap_tB, ap_tAnd, ap_tOr, ap_tNot, ap_tAndV, ap_tOrV, ap_tNotV, ap_tIf, ap_tNext, ap_tBreak, ap_tCont, ap_tDrop, ap_tRet, ap_tRetN, ap_tIfS, ap_tNever, ap_gName, ap_gNil, ap_gCons, ap_gTup, ap_gSub, ap_tAsg, ap_tPar, ap_tAug, ap_tAugS, ap_ipI, ap_iList, ap_iTup, ap_iRng1, ap_iRng2, ap_tOp, ap_tUn, ap_rI, ap_rI0, ap_rU, ap_rEq, ap_rNe, ap_tTest, ap_tChain, ap_tFld, ap_tCon, ap_sFld, ap_sFldAug, ap_rAdd, ap_rSub, ap_tNil, ap_tCons, ap_tTup, ap_tLst, ap_tCall, ap_tMeth, ap_tMake, ap_tCallK, ap_tCB, ap_tNoPart, ap_tPart, ap_tSl, ap_rSlT, ap_rLtT, ap_rCatT, ap_rIxL, ap_rIxT, ap_rIxS, ap_rIx, ap_rSetL, ap_rSlL, ap_rIn, ap_tBM0, ap_tBM, ap_rAppend, ap_rExtend, ap_rPop, ap_rPopAt, ap_rReverse, ap_rClear, ap_rCat, ap_rRep, ap_rSum, ap_rMax, ap_rMin, ap_rSorted, ap_rSortedS, ap_rSort, ap_rIndex, ap_rAny, ap_rAll, ap_tYes, ap_tDGet, ap_tDIn, ap_tDNotIn, ap_sDPut, ap_sDAug, ap_sDDel, ap_tDNewK, ap_tDNewT, ap_tDisp, ap_tDGet1, ap_tDGet2, ap_tDPop1, ap_tDPop2, ap_tLock, ap_tLockE, ap_iRng3, ap_iRev, ap_iStr, ap_iKeys, ap_iVals, ap_iItems, ap_iKeysM, ap_iEnum, ap_iZip, ap_rNewStrs, ap_tM0, ap_tM1, ap_rSlS, ap_gUnl, ap_rIsB,  ap_tFor, ap_tLc, if_true, if_false, Bool.false_eq_true, Bool.true_eq_false, Bool.not_true, Bool.not_false, not_true_eq_false, not_false_eq_true, cx_K, nox_K, blk_K, List.getElem?_cons_succ, List.getElem?_cons_zero, Option.some.injEq, exists_eq_left', exists_eq_left, exists_eq, exists_eq', V.int.injEq, V.bl.injEq, V.str.injEq, V.ref.injEq, V.ty.injEq, List.cons.injEq, and_true, true_and, exists_and_left, List.set_cons_succ, List.set_cons_zero, List.append_nil, List.nil_append, and_assoc, decide_eq_true_eq, Bool.not_eq_true', decide_eq_false_iff_not, scal, List.length_cons, List.length_nil, Nat.zero_add, Nat.reduceAdd, ap_tCs, ap_tDcB, ap_tLam, ap_tSortK, ap_tDNotIn, ap_tDIn, ap_sDPut, ap_tSetDefF, ap_rLenOf, ap_rTupOf, ap_rNeE, ap_rMaxD, ap_tSortedK, ap_rSortedD, ap_tLockV, ap_rMulS, ap_iEnumS, ap_rRange, ap_rListR, ap_rListD, ap_rDictOf, ap_rNeDs, ap_rEqDs, ap_rListOf, ap_rIsO, ap_rSortedSet, ap_rSortedSA, ap_rDClear, ap_rDUpd, ap_tSl3, ap_rSameL, ap_iItemsL]
    obtain ⟨kv1, hd1c, k1⟩ := d1b.same s12
    have nduu : du ≠ d1 := by
      obtain ⟨kv, e, _⟩ := d1b
      exact (ne_of_none e hdu).symm
    have g2c := s12 _ _ g2b
    have ndg2 : g2 ≠ du := ne_of_none g2b hdu
    have ng2d1 : g2 ≠ d1 := ne_of g2c hd1c (by intro z; cases z)
    refine ⟨d1, .dK kv1, hd1c, trivial, fun od => ⟨od, .inl ⟨kv1, upd_same, ?_⟩⟩⟩
    have hf1 : upd H12 d1 (.frz od (.dK kv1)) d1 = some (.frz od (.dK kv1)) := upd_same
    have kf := k1.tk (.upd (o := .frz od (.dK kv1)) hd1c (by intro xs z; cases z))
    have hduf : upd H12 d1 (.frz od (.dK kv1)) du = some (.dK []) := by rw [upd_ne nduu]; exact hdu1
    have g2f : upd H12 d1 (.frz od (.dK kv1)) g2 = some (.lst (gs2.map V.str)) := by rw [upd_ne ng2d1]; exact g2c
    have back : ∀ H' : Hp, But1 du (upd H12 d1 (.frz od (.dK kv1))) H' → But1 du H12 (upd H' d1 (.dK kv1)) := fun H' b u o e n => by
      by_cases hu : u = d1
      · subst hu
        rw [hd1c] at e; cases e
        exact upd_same
      · rw [upd_ne hu]
        exact b u o (by rw [upd_ne hu]; exact e) n
    generalize upd H12 d1 (.frz od (.dK kv1)) = Hf at *
    have nlen1 := k1.len
    refine forB_keys (fun i σ H' => ∃ v : Option V, σ = [some (.ref a), some (.bl (decide (z % 2 = 1))), some (.ref ol), some (.ref d1), some (.ref g1), some (.ref d2), some (.ref g2), some (.ref x), some (.ref l1), some (.ref l2), some (.ref du), v, none, none, none] ∧ H' d1 = some (.frz od (.dK kv1)) ∧ But1 du Hf H' ∧ TD H' du ((n1.take i).filter fun n => decide (n ∉ gs2)) t1)
      ⟨none, rfl, hf1, But1.refl, [], hduf, TK.nil⟩ (fun i σ H' _ J => by obtain ⟨_, _, J, _⟩ := J; exact J) ?_ ?_
    · rintro i k v σ H' hkv ⟨v0, rfl, hd1', b', hdu'⟩
      have hki : (kv1.map (·.1))[i]? = some k := by rw [List.getElem?_map, hkv]; rfl
      rw [k1.key, List.getElem?_map] at hki
      obtain ⟨n, hn, rfl⟩ := Option.map_eq_some_iff.mp hki
      have hi : i < n1.length := (List.getElem?_eq_some_iff.mp hn).1
      obtain ⟨kvu, hdu2, ku⟩ := id hdu'
      have hg2' := b' _ _ g2f ndg2
      simp only [ap_tVar, ap_tC, ap_t2I, ap_tAdd, ap_tSub, ap_tMul, ap_tCmp, ap_tIsN, ap_tNotN, ap_tB, ap_tAnd, ap_tOr, ap_tNot, ap_tAndV, ap_tOrV, ap_tNotV, ap_tIf, ap_tNext, ap_tBreak, ap_tCont, ap_tDrop, ap_tRet, ap_tRetN, ap_tIfS, ap_tNever, ap_gName, ap_gNil, ap_gCons, ap_gTup, ap_gSub, ap_tAsg, ap_tPar, ap_tAug, ap_tAugS, ap_ipI, ap_iList, ap_iTup, ap_iRng1, ap_iRng2, ap_tOp, ap_tUn, ap_rI, ap_rI0, ap_rU, ap_rEq, ap_rNe, ap_tTest, ap_tChain, ap_tFld, ap_tCon, ap_sFld, ap_sFldAug, ap_rAdd, ap_rSub, ap_tNil, ap_tCons, ap_tTup, ap_tLst, ap_tCall, ap_tMeth, ap_tMake, ap_tCallK, ap_tCB, ap_tNoPart, ap_tPart, ap_tSl, ap_rSlT, ap_rLtT, ap_rCatT, ap_rIxL, ap_rIxT, ap_rIxS, ap_rIx, ap_rSetL, ap_rSlL, ap_rIn, ap_tBM0, ap_tBM, ap_rAppend, ap_rExtend, ap_rPop, ap_rPopAt, ap_rReverse, ap_rClear, ap_rCat, ap_rRep, ap_rSum, ap_rMax, ap_rMin, ap_rSorted, ap_rSortedS, ap_rSort, ap_rIndex, ap_rAny, ap_rAll, ap_tYes, ap_tDGet, ap_tDIn, ap_tDNotIn, ap_sDPut, ap_sDAug, ap_sDDel, ap_tDNewK, ap_tDNewT, ap_tDisp, ap_tDGet1, ap_tDGet2, ap_tDPop1, ap_tDPop2, ap_tLock, ap_tLockE, ap_iRng3, ap_iRev, ap_iStr, ap_iKeys, ap_iVals, ap_iItems, ap_iKeysM, ap_iEnum, ap_iZip, ap_rNewStrs, ap_tM0, ap_tM1, ap_rSlS, ap_gUnl, ap_rIsB,  ap_tFor, ap_tLc, if_true, if_false, Bool.false_eq_true, Bool.true_eq_false, Bool.not_true, Bool.not_false, not_true_eq_false, not_false_eq_true, cx_K, nox_K, blk_K, List.getElem?_cons_succ, List.getElem?_cons_zero, Option.some.injEq, exists_eq_left', exists_eq_left, exists_eq, exists_eq', V.int.injEq, V.bl.injEq, V.str.injEq, V.ref.injEq, V.ty.injEq, List.cons.injEq, and_true, true_and, exists_and_left, List.set_cons_succ, List.set_cons_zero, List.append_nil, List.nil_append, and_assoc, decide_eq_true_eq, Bool.not_eq_true', decide_eq_false_iff_not, scal, List.length_cons, List.length_nil, Nat.zero_add, Nat.reduceAdd, ap_tCs, ap_tDcB, ap_tLam, ap_tSortK, ap_tDNotIn, ap_tDIn, ap_sDPut, ap_tSetDefF, ap_rLenOf, ap_rTupOf, ap_rNeE, ap_rMaxD, ap_tSortedK, ap_rSortedD, ap_tLockV, ap_rMulS, ap_iEnumS, ap_rRange, ap_rListR, ap_rListD, ap_rDictOf, ap_rNeDs, ap_rEqDs, ap_rListOf, ap_rIsO, ap_rSortedSet, ap_rSortedSA, ap_rDClear, ap_rDUpd, ap_tSl3, ap_rSameL, ap_iItemsL]
      refine ⟨_, .inl (.of hg2'), rfl, flat_strs _, ?_⟩
      rw [show kV (Sum.inr n) = V.str n from rfl, in_strs, take_next hn, List.filter_append]
      refine ite2 (fun hc => ?_) (fun hc => ?_)
      · have hny : n ∉ gs2 := by simpa using hc
        rw [List.filter_cons_of_pos (by simpa using hny), List.filter_nil]
        obtain ⟨p0, hv0, hp0⟩ := (kf.tk (.but hduf (by intro xs z; cases z) b')).get (List.mem_of_getElem? hn)
        have hul := ku.len
        have hfl := List.length_filter_le (fun n => decide (n ∉ gs2)) (n1.take i)
        rw [List.length_take] at hfl
        refine ⟨_, .inl ⟨kv1, .inr n, .inr ⟨od, hd1'⟩, rfl, hv0.symm⟩, _, .inl ⟨kvu, .inr n, hdu2, rfl, small1000 (by omega), rfl⟩, by rw [upd_ne nduu.symm]; exact hd1', b'.trans But1.put, _, upd_same, ?_⟩
        have := ku.put (n := n) hp0
        rw [txPut_self, if_neg fun z => not_take O1.tx.nd hn (List.mem_filter.mp z).1] at this
        exact this.tk (.upd hdu2 (by intro xs z; cases z))
      · have hny : n ∈ gs2 := by simpa using hc
        rw [List.filter_cons_of_neg (by simpa using hny), List.filter_nil, List.append_nil]
        exact ⟨hd1', b', hdu'⟩
    · rintro σ H' ⟨v0, rfl, hd1', b', hdu'⟩
      rw [nlen1, List.take_length] at hdu'
      have b13 := back H' b'
      refine ⟨hd1', ?_⟩
      have hdu3 : TD (upd H' d1 (.dK kv1)) du (n1.filter fun n => decide (n ∉ gs2)) t1 := by
        obtain ⟨kvu, e, ku⟩ := hdu'
        exact ⟨kvu, by rw [upd_ne nduu]; exact e, ku.tk (.upd hd1' (by intro xs z; cases z))⟩
      generalize upd H' d1 (.dK kv1) = H13 at *
      have d1d : TD H13 d1 n1 t1 := (d1b.same s12).but hdu1 (by intro xs z; cases z) nduu.symm b13
      have nd2u : d2 ≠ du := by
        obtain ⟨kv, e, _⟩ := d2b
        exact ne_of_none e hdu
      have d2d : TD H13 d2 n2 t2 := (d2b.same s12).but hdu1 (by intro xs z; cases z) nd2u b13
      obtain ⟨kvu, hku, ku⟩ := hdu3
      obtain ⟨kv2, hk2, k2⟩ := id d2d
      obtain ⟨ksD, tD, kD, oD, mD, uD, vD⟩ := TK.merge k2 O2.tx ku (O1.tx.filter _)
      rw [ap_tSeq]
      simp only [ap_tVar, ap_tC, ap_t2I, ap_tAdd, ap_tSub, ap_tMul, ap_tCmp, ap_tIsN, ap_tNotN, ap_tB, ap_tAnd, ap_tOr, ap_tNot, ap_tAndV, ap_tOrV, ap_tNotV, ap_tIf, ap_tNext, ap_tBreak, ap_tCont, ap_tDrop, ap_tRet, ap_tRetN, ap_tIfS, ap_tNever, ap_gName, ap_gNil, ap_gCons, ap_gTup, ap_gSub, ap_tAsg, ap_tPar, ap_tAug, ap_tAugS, ap_ipI, ap_iList, ap_iTup, ap_iRng1, ap_iRng2, ap_tOp, ap_tUn, ap_rI, ap_rI0, ap_rU, ap_rEq, ap_rNe, ap_tTest, ap_tChain, ap_tFld, ap_tCon, ap_sFld, ap_sFldAug, ap_rAdd, ap_rSub, ap_tNil, ap_tCons, ap_tTup, ap_tLst, ap_tCall, ap_tMeth, ap_tMake, ap_tCallK, ap_tCB, ap_tNoPart, ap_tPart, ap_tSl, ap_rSlT, ap_rLtT, ap_rCatT, ap_rIxL, ap_rIxT, ap_rIxS, ap_rIx, ap_rSetL, ap_rSlL, ap_rIn, ap_tBM0, ap_tBM, ap_rAppend, ap_rExtend, ap_rPop, ap_rPopAt, ap_rReverse, ap_rClear, ap_rCat, ap_rRep, ap_rSum, ap_rMax, ap_rMin, ap_rSorted, ap_rSortedS, ap_rSort, ap_rIndex, ap_rAny, ap_rAll, ap_tYes, ap_tDGet, ap_tDIn, ap_tDNotIn, ap_sDPut, ap_sDAug, ap_sDDel, ap_tDNewK, ap_tDNewT, ap_tDisp, ap_tDGet1, ap_tDGet2, ap_tDPop1, ap_tDPop2, ap_tLock, ap_tLockE, ap_iRng3, ap_iRev, ap_iStr, ap_iKeys, ap_iVals, ap_iItems, ap_iKeysM, ap_iEnum, ap_iZip, ap_rNewStrs, ap_tM0, ap_tM1, ap_rSlS, ap_gUnl, ap_rIsB,  ap_tFor, ap_tLc, if_true, if_false, Bool.false_eq_true, Bool.true_eq_false, Bool.not_true, Bool.not_false, not_true_eq_false, not_false_eq_true, cx_K, nox_K, blk_K, List.getElem?_cons_succ, List.getElem?_cons_zero, Option.some.injEq, exists_eq_left', exists_eq_left, exists_eq, exists_eq', V.int.injEq, V.bl.injEq, V.str.injEq, V.ref.injEq, V.ty.injEq, List.cons.injEq, and_true, true_and, exists_and_left, List.set_cons_succ, List.set_cons_zero, List.append_nil, List.nil_append, and_assoc, decide_eq_true_eq, Bool.not_eq_true', decide_eq_false_iff_not, scal, List.length_cons, List.length_nil, Nat.zero_add, Nat.reduceAdd, ap_tCs, ap_tDcB, ap_tLam, ap_tSortK, ap_tDNotIn, ap_tDIn, ap_sDPut, ap_tSetDefF, ap_rLenOf, ap_rTupOf, ap_rNeE, ap_rMaxD, ap_tSortedK, ap_rSortedD, ap_tLockV, ap_rMulS, ap_iEnumS, ap_rRange, ap_rListR, ap_rListD, ap_rDictOf, ap_rNeDs, ap_rEqDs, ap_rListOf, ap_rIsO, ap_rSortedSet, ap_rSortedSA, ap_rDClear, ap_rDUpd, ap_tSl3, ap_rSameL, ap_iItemsL]
      have lku := ku.len
      have lk2 := k2.len
      have fle := List.length_filter_le (fun n => decide (n ∉ gs2)) n1
      refine ⟨.inr (.inr (.inl ⟨rfl, .inl ⟨_, hku⟩⟩)), nd2u.symm, kvu, hku, kv2, .inl hk2, Nat.le_of_lt (small1000 (by omega)), ?_⟩
      have b14 : But1 du H12 (upd H13 du (.dK (mergeK kvu kv2))) := b13.trans But1.put
      have hd14 : TD (upd H13 du (.dK (mergeK kvu kv2))) du ksD tD := ⟨_, upd_same, kD.tk (.upd hku (by intro xs z; cases z))⟩
      generalize upd H13 du (.dK (mergeK kvu kv2)) = H14 at *
      have d1e : TD H14 d1 n1 t1 := (d1b.same s12).but hdu1 (by intro xs z; cases z) nduu.symm b14
      have d2e : TD H14 d2 n2 t2 := (d2b.same s12).but hdu1 (by intro xs z; cases z) nd2u b14
      have s14 : Same H11 H14 := fun u o e => b14 u o (s12 u o e) (ne_of_none e hdu)
      have L1e := L1b.same s14
      have L2e := L2.same s14
      have g1e := s14 _ _ g1b
      have g2e := s14 _ _ g2b
      clear b14 b13 b' back kf k1 ku kD k2 d1d d2d d2b d1b L1b L2 g1b g2b g2c g2f hduf hf1 hd1c hdu1 hku hk2 hdu' hd1' s12 s14 s911 s10 s11 u1 u2 u3
      rw [ap_tSeq]
      simp only [ap_tVar, ap_tC, ap_t2I, ap_tAdd, ap_tSub, ap_tMul, ap_tCmp, ap_tIsN, ap_tNotN, ap_tB, ap_tAnd, ap_tOr, ap_tNot, ap_tAndV, ap_tOrV, ap_tNotV, ap_tIf, ap_tNext, ap_tBreak, ap_tCont, ap_tDrop, ap_tRet, ap_tRetN, ap_tIfS, ap_tNever, ap_gName, ap_gNil, ap_gCons, ap_gTup, ap_gSub, ap_tAsg, ap_tPar, ap_tAug, ap_tAugS, ap_ipI, ap_iList, ap_iTup, ap_iRng1, ap_iRng2, ap_tOp, ap_tUn, ap_rI, ap_rI0, ap_rU, ap_rEq, ap_rNe, ap_tTest, ap_tChain, ap_tFld, ap_tCon, ap_sFld, ap_sFldAug, ap_rAdd, ap_rSub, ap_tNil, ap_tCons, ap_tTup, ap_tLst, ap_tCall, ap_tMeth, ap_tMake, ap_tCallK, ap_tCB, ap_tNoPart, ap_tPart, ap_tSl, ap_rSlT, ap_rLtT, ap_rCatT, ap_rIxL, ap_rIxT, ap_rIxS, ap_rIx, ap_rSetL, ap_rSlL, ap_rIn, ap_tBM0, ap_tBM, ap_rAppend, ap_rExtend, ap_rPop, ap_rPopAt, ap_rReverse, ap_rClear, ap_rCat, ap_rRep, ap_rSum, ap_rMax, ap_rMin, ap_rSorted, ap_rSortedS, ap_rSort, ap_rIndex, ap_rAny, ap_rAll, ap_tYes, ap_tDGet, ap_tDIn, ap_tDNotIn, ap_sDPut, ap_sDAug, ap_sDDel, ap_tDNewK, ap_tDNewT, ap_tDisp, ap_tDGet1, ap_tDGet2, ap_tDPop1, ap_tDPop2, ap_tLock, ap_tLockE, ap_iRng3, ap_iRev, ap_iStr, ap_iKeys, ap_iVals, ap_iItems, ap_iKeysM, ap_iEnum, ap_iZip, ap_rNewStrs, ap_tM0, ap_tM1, ap_rSlS, ap_gUnl, ap_rIsB,  ap_tFor, ap_tLc, if_true, if_false, Bool.false_eq_true, Bool.true_eq_false, Bool.not_true, Bool.not_false, not_true_eq_false, not_false_eq_true, cx_K, nox_K, blk_K, List.getElem?_cons_succ, List.getElem?_cons_zero, Option.some.injEq, exists_eq_left', exists_eq_left, exists_eq, exists_eq', V.int.injEq, V.bl.injEq, V.str.injEq, V.ref.injEq, V.ty.injEq, List.cons.injEq, and_true, true_and, exists_and_left, List.set_cons_succ, List.set_cons_zero, List.append_nil, List.nil_append, and_assoc, decide_eq_true_eq, Bool.not_eq_true', decide_eq_false_iff_not, scal, List.length_cons, List.length_nil, Nat.zero_add, Nat.reduceAdd, ap_tCs, ap_tDcB, ap_tLam, ap_tSortK, ap_tDNotIn, ap_tDIn, ap_sDPut, ap_tSetDefF, ap_rLenOf, ap_rTupOf, ap_rNeE, ap_rMaxD, ap_tSortedK, ap_rSortedD, ap_tLockV, ap_rMulS, ap_iEnumS, ap_rRange, ap_rListR, ap_rListD, ap_rDictOf, ap_rNeDs, ap_rEqDs, ap_rListOf, ap_rIsO, ap_rSortedSet, ap_rSortedSA, ap_rDClear, ap_rDUpd, ap_tSl3, ap_rSameL, ap_iItemsL]
      refine ⟨⟨_, .of g1e⟩, fun D0 hD0 => ?_⟩
      obtain ⟨kv2, hk2, k2⟩ := id d2e
      refine lcB_list (xs := gs1.map V.str) (fun i H' => Same H14 H' ∧ H' D0 = some (.lst (((gs1.take i).filter fun n => decide (n ∉ n2) && decide (n ∉ gs2)).map V.str))) ⟨Same.new hD0, upd_same⟩ (fun i H' _ J => .of (J.1 _ _ g1e)) ?_ ?_
      · rintro i v H7 hv ⟨s7, h7⟩
        obtain ⟨n, hn, rfl⟩ : ∃ n, gs1[i]? = some n ∧ v = .str n := by
          rw [List.getElem?_map] at hv
          obtain ⟨n, e1, e2⟩ := Option.map_eq_some_iff.mp hv
          exact ⟨n, e1, e2.symm⟩
        have hi : i < gs1.length := (List.getElem?_eq_some_iff.mp hn).1
        have hfl := List.length_filter_le (fun n => decide (n ∉ n2) && decide (n ∉ gs2)) (gs1.take i)
        rw [List.length_take] at hfl
        simp only [ap_tVar, ap_tC, ap_t2I, ap_tAdd, ap_tSub, ap_tMul, ap_tCmp, ap_tIsN, ap_tNotN, ap_tB, ap_tAnd, ap_tOr, ap_tNot, ap_tAndV, ap_tOrV, ap_tNotV, ap_tIf, ap_tNext, ap_tBreak, ap_tCont, ap_tDrop, ap_tRet, ap_tRetN, ap_tIfS, ap_tNever, ap_gName, ap_gNil, ap_gCons, ap_gTup, ap_gSub, ap_tAsg, ap_tPar, ap_tAug, ap_tAugS, ap_ipI, ap_iList, ap_iTup, ap_iRng1, ap_iRng2, ap_tOp, ap_tUn, ap_rI, ap_rI0, ap_rU, ap_rEq, ap_rNe, ap_tTest, ap_tChain, ap_tFld, ap_tCon, ap_sFld, ap_sFldAug, ap_rAdd, ap_rSub, ap_tNil, ap_tCons, ap_tTup, ap_tLst, ap_tCall, ap_tMeth, ap_tMake, ap_tCallK, ap_tCB, ap_tNoPart, ap_tPart, ap_tSl, ap_rSlT, ap_rLtT, ap_rCatT, ap_rIxL, ap_rIxT, ap_rIxS, ap_rIx, ap_rSetL, ap_rSlL, ap_rIn, ap_tBM0, ap_tBM, ap_rAppend, ap_rExtend, ap_rPop, ap_rPopAt, ap_rReverse, ap_rClear, ap_rCat, ap_rRep, ap_rSum, ap_rMax, ap_rMin, ap_rSorted, ap_rSortedS, ap_rSort, ap_rIndex, ap_rAny, ap_rAll, ap_tYes, ap_tDGet, ap_tDIn, ap_tDNotIn, ap_sDPut, ap_sDAug, ap_sDDel, ap_tDNewK, ap_tDNewT, ap_tDisp, ap_tDGet1, ap_tDGet2, ap_tDPop1, ap_tDPop2, ap_tLock, ap_tLockE, ap_iRng3, ap_iRev, ap_iStr, ap_iKeys, ap_iVals, ap_iItems, ap_iKeysM, ap_iEnum, ap_iZip, ap_rNewStrs, ap_tM0, ap_tM1, ap_rSlS, ap_gUnl, ap_rIsB,  ap_tFor, ap_tLc, if_true, if_false, Bool.false_eq_true, Bool.true_eq_false, Bool.not_true, Bool.not_false, not_true_eq_false, not_false_eq_true, cx_K, nox_K, blk_K, List.getElem?_cons_succ, List.getElem?_cons_zero, Option.some.injEq, exists_eq_left', exists_eq_left, exists_eq, exists_eq', V.int.injEq, V.bl.injEq, V.str.injEq, V.ref.injEq, V.ty.injEq, List.cons.injEq, and_true, true_and, exists_and_left, List.set_cons_succ, List.set_cons_zero, List.append_nil, List.nil_append, and_assoc, decide_eq_true_eq, Bool.not_eq_true', decide_eq_false_iff_not, scal, List.length_cons, List.length_nil, Nat.zero_add, Nat.reduceAdd, ap_tCs, ap_tDcB, ap_tLam, ap_tSortK, ap_tDNotIn, ap_tDIn, ap_sDPut, ap_tSetDefF, ap_rLenOf, ap_rTupOf, ap_rNeE, ap_rMaxD, ap_tSortedK, ap_rSortedD, ap_tLockV, ap_rMulS, ap_iEnumS, ap_rRange, ap_rListR, ap_rListD, ap_rDictOf, ap_rNeDs, ap_rEqDs, ap_rListOf, ap_rIsO, ap_rSortedSet, ap_rSortedSA, ap_rDClear, ap_rDUpd, ap_tSl3, ap_rSameL, ap_iItemsL]
        refine ⟨rfl, _, rfl, _, rfl, d2, rfl, _, .inl ⟨kv2, .inr n, .inl (s7 _ _ hk2), rfl, rfl⟩, ite2 (fun hv1 => ?_) (fun hv1 => ?_)⟩
        · have hn2 : n ∉ n2 := fun z => by
            obtain ⟨p0, e, _⟩ := k2.get z
            rw [e] at hv1; cases hv1
          refine ⟨_, rfl, _, rfl, g2, rfl, _, .inl (.of (s7 _ _ g2e)), rfl, flat_strs _, ?_⟩
          rw [in_strs]
          refine ite2 (fun hc => ?_) (fun hc => ?_)
          · have hny : n ∉ gs2 := by simpa using hc
            refine ⟨_, rfl, _, h7, by rw [List.length_map]; exact small1000 (by omega), Same.put s7 hD0, ?_⟩
            rw [upd_same, take_next hn, List.filter_append, List.filter_cons_of_pos (by simp [hn2, hny]), List.filter_nil, List.map_append]; rfl
          · have hny : n ∈ gs2 := by simpa using hc
            refine ⟨s7, ?_⟩
            rw [take_next hn, List.filter_append, List.filter_cons_of_neg (by simp [hny]), List.filter_nil, List.append_nil]; exact h7
        · have hn2 : n ∈ n2 := by
            by_cases z : n ∈ n2
            · exact z
            · rw [k2.lack z] at hv1
              exact absurd rfl hv1
          refine ⟨s7, ?_⟩
          rw [take_next hn, List.filter_append, List.filter_cons_of_neg (by simp [hn2]), List.filter_nil, List.append_nil]; exact h7
      · rintro H7 ⟨s7, h7⟩
        rw [List.length_map, List.take_length] at h7
        have fle2 := List.length_filter_le (fun n => decide (n ∉ n2) && decide (n ∉ gs2)) gs1
        refine ⟨_, h7, _, s7 _ _ g2e, by simp only [List.length_map]; exact Nat.le_of_lt (small1000 (by omega)), fun lo hlo => ?_⟩
        rw [← List.map_append]
        generalize hLo : (gs1.filter fun n => decide (n ∉ n2) && decide (n ∉ gs2)) ++ gs2 = Lo
        have s8 := Same.new hlo (o := .lst (Lo.map V.str))
        have hlo8 := upd_same (H := H7) (a := lo) (o := .lst (Lo.map V.str))
        generalize upd H7 lo (.lst (Lo.map V.str)) = H8 at *
        have s148 := s7.trans s8
        have nLo : Lo.Nodup := by
          rw [← hLo]
          refine List.nodup_append.mpr ⟨O1.gn.filter _, O2.gn, fun a ha b hb e => ?_⟩
          have := (List.mem_filter.mp ha).2
          simp at this
          exact this.2 (e ▸ hb)
        have mLo : ∀ n, n ∈ Lo ↔ n ∈ gs2 ∨ (n ∈ gs1 ∧ n ∉ n2 ∧ n ∉ gs2) := fun n => by
          rw [← hLo, List.mem_append, List.mem_filter]
          simp
          exact or_comm
        have mD2 : ∀ n, n ∈ ksD ↔ n ∈ n2 ∨ (n ∈ n1 ∧ n ∉ n2 ∧ n ∉ gs2) := fun n => by
          rw [mD n, List.mem_filter]
          simp
          constructor
          · rintro (⟨a, b⟩ | c)
            · by_cases z : n ∈ n2
              · exact .inl z
              · exact .inr ⟨a, z, b⟩
            · exact .inl c
          · rintro (c | ⟨a, _, b⟩)
            · exact .inr c
            · exact .inl ⟨a, b⟩
        rw [ap_tSeq]
        simp only [ap_tVar, ap_tC, ap_t2I, ap_tAdd, ap_tSub, ap_tMul, ap_tCmp, ap_tIsN, ap_tNotN, ap_tB, ap_tAnd, ap_tOr, ap_tNot, ap_tAndV, ap_tOrV, ap_tNotV, ap_tIf, ap_tNext, ap_tBreak, ap_tCont, ap_tDrop, ap_tRet, ap_tRetN, ap_tIfS, ap_tNever, ap_gName, ap_gNil, ap_gCons, ap_gTup, ap_gSub, ap_tAsg, ap_tPar, ap_tAug, ap_tAugS, ap_ipI, ap_iList, ap_iTup, ap_iRng1, ap_iRng2, ap_tOp, ap_tUn, ap_rI, ap_rI0, ap_rU, ap_rEq, ap_rNe, ap_tTest, ap_tChain, ap_tFld, ap_tCon, ap_sFld, ap_sFldAug, ap_rAdd, ap_rSub, ap_tNil, ap_tCons, ap_tTup, ap_tLst, ap_tCall, ap_tMeth, ap_tMake, ap_tCallK, ap_tCB, ap_tNoPart, ap_tPart, ap_tSl, ap_rSlT, ap_rLtT, ap_rCatT, ap_rIxL, ap_rIxT, ap_rIxS, ap_rIx, ap_rSetL, ap_rSlL, ap_rIn, ap_tBM0, ap_tBM, ap_rAppend, ap_rExtend, ap_rPop, ap_rPopAt, ap_rReverse, ap_rClear, ap_rCat, ap_rRep, ap_rSum, ap_rMax, ap_rMin, ap_rSorted, ap_rSortedS, ap_rSort, ap_rIndex, ap_rAny, ap_rAll, ap_tYes, ap_tDGet, ap_tDIn, ap_tDNotIn, ap_sDPut, ap_sDAug, ap_sDDel, ap_tDNewK, ap_tDNewT, ap_tDisp, ap_tDGet1, ap_tDGet2, ap_tDPop1, ap_tDPop2, ap_tLock, ap_tLockE, ap_iRng3, ap_iRev, ap_iStr, ap_iKeys, ap_iVals, ap_iItems, ap_iKeysM, ap_iEnum, ap_iZip, ap_rNewStrs, ap_tM0, ap_tM1, ap_rSlS, ap_gUnl, ap_rIsB,  ap_tFor, ap_tLc, if_true, if_false, Bool.false_eq_true, Bool.true_eq_false, Bool.not_true, Bool.not_false, not_true_eq_false, not_false_eq_true, cx_K, nox_K, blk_K, List.getElem?_cons_succ, List.getElem?_cons_zero, Option.some.injEq, exists_eq_left', exists_eq_left, exists_eq, exists_eq', V.int.injEq, V.bl.injEq, V.str.injEq, V.ref.injEq, V.ty.injEq, List.cons.injEq, and_true, true_and, exists_and_left, List.set_cons_succ, List.set_cons_zero, List.append_nil, List.nil_append, and_assoc, decide_eq_true_eq, Bool.not_eq_true', decide_eq_false_iff_not, scal, List.length_cons, List.length_nil, Nat.zero_add, Nat.reduceAdd, ap_tCs, ap_tDcB, ap_tLam, ap_tSortK, ap_tDNotIn, ap_tDIn, ap_sDPut, ap_tSetDefF, ap_rLenOf, ap_rTupOf, ap_rNeE, ap_rMaxD, ap_tSortedK, ap_rSortedD, ap_tLockV, ap_rMulS, ap_iEnumS, ap_rRange, ap_rListR, ap_rListD, ap_rDictOf, ap_rNeDs, ap_rEqDs, ap_rListOf, ap_rIsO, ap_rSortedSet, ap_rSortedSA, ap_rDClear, ap_rDUpd, ap_tSl3, ap_rSameL, ap_iItemsL, sp_pour]
        have lp1 := p1.length_eq
        have lp2 := p2.length_eq
        have lq1 := q1.length_eq
        have lq2 := q2.length_eq
        have pm : ∀ {as bs : List Str}, as.Nodup → bs.Nodup → (∀ n, n ∈ as ↔ n ∈ bs) → as.Perm bs := fun h1 h2 h => (List.perm_ext_iff_of_nodup h1 h2).mpr h
        refine ⟨x, x, n1', g1', n2', g2', t1, L1e.same s148, t2, L2e.same s148, by omega, fun bo nsB gsB tB H9 s9 _ LB PB => ?_⟩
        have s149 := s148.trans s9
        have pN : nsB.Perm ksD := pm LB.1.e.tx.nd oD.nd fun n => by rw [PB.n n, mD2 n, p2.mem_iff, p1.mem_iff, q2.mem_iff]
        have pG : gsB.Perm Lo := pm LB.1.e.gn nLo fun n => by rw [PB.g n, mLo n, q2.mem_iff, q1.mem_iff, p2.mem_iff]
        have tE : ∀ n ∈ nsB, tB n = tD n := fun n hn => by
          by_cases z : n ∈ n2
          · rw [PB.u n (p2.mem_iff.mpr z), uD n z]
          · rcases (PB.n n).mp hn with h | h
            · exact absurd (p2.mem_iff.mp h) z
            · rw [PB.l n h.1 h.2.1 h.2.2, vD n z]
        obtain ⟨dxB, kpB, gnB, hB⟩ := LB.obj
        rw [ap_tSeq]
        refine nx_gen fun nx hnx => ?_
        simp only [ap_tVar, ap_tC, ap_t2I, ap_tAdd, ap_tSub, ap_tMul, ap_tCmp, ap_tIsN, ap_tNotN, ap_tB, ap_tAnd, ap_tOr, ap_tNot, ap_tAndV, ap_tOrV, ap_tNotV, ap_tIf, ap_tNext, ap_tBreak, ap_tCont, ap_tDrop, ap_tRet, ap_tRetN, ap_tIfS, ap_tNever, ap_gName, ap_gNil, ap_gCons, ap_gTup, ap_gSub, ap_tAsg, ap_tPar, ap_tAug, ap_tAugS, ap_ipI, ap_iList, ap_iTup, ap_iRng1, ap_iRng2, ap_tOp, ap_tUn, ap_rI, ap_rI0, ap_rU, ap_rEq, ap_rNe, ap_tTest, ap_tChain, ap_tFld, ap_tCon, ap_sFld, ap_sFldAug, ap_rAdd, ap_rSub, ap_tNil, ap_tCons, ap_tTup, ap_tLst, ap_tCall, ap_tMeth, ap_tMake, ap_tCallK, ap_tCB, ap_tNoPart, ap_tPart, ap_tSl, ap_rSlT, ap_rLtT, ap_rCatT, ap_rIxL, ap_rIxT, ap_rIxS, ap_rIx, ap_rSetL, ap_rSlL, ap_rIn, ap_tBM0, ap_tBM, ap_rAppend, ap_rExtend, ap_rPop, ap_rPopAt, ap_rReverse, ap_rClear, ap_rCat, ap_rRep, ap_rSum, ap_rMax, ap_rMin, ap_rSorted, ap_rSortedS, ap_rSort, ap_rIndex, ap_rAny, ap_rAll, ap_tYes, ap_tDGet, ap_tDIn, ap_tDNotIn, ap_sDPut, ap_sDAug, ap_sDDel, ap_tDNewK, ap_tDNewT, ap_tDisp, ap_tDGet1, ap_tDGet2, ap_tDPop1, ap_tDPop2, ap_tLock, ap_tLockE, ap_iRng3, ap_iRev, ap_iStr, ap_iKeys, ap_iVals, ap_iItems, ap_iKeysM, ap_iEnum, ap_iZip, ap_rNewStrs, ap_tM0, ap_tM1, ap_rSlS, ap_gUnl, ap_rIsB,  ap_tFor, ap_tLc, if_true, if_false, Bool.false_eq_true, Bool.true_eq_false, Bool.not_true, Bool.not_false, not_true_eq_false, not_false_eq_true, cx_K, nox_K, blk_K, List.getElem?_cons_succ, List.getElem?_cons_zero, Option.some.injEq, exists_eq_left', exists_eq_left, exists_eq, exists_eq', V.int.injEq, V.bl.injEq, V.str.injEq, V.ref.injEq, V.ty.injEq, List.cons.injEq, and_true, true_and, exists_and_left, List.set_cons_succ, List.set_cons_zero, List.append_nil, List.nil_append, and_assoc, decide_eq_true_eq, Bool.not_eq_true', decide_eq_false_iff_not, scal, List.length_cons, List.length_nil, Nat.zero_add, Nat.reduceAdd, ap_tCs, ap_tDcB, ap_tLam, ap_tSortK, ap_tDNotIn, ap_tDIn, ap_sDPut, ap_tSetDefF, ap_rLenOf, ap_rTupOf, ap_rNeE, ap_rMaxD, ap_tSortedK, ap_rSortedD, ap_tLockV, ap_rMulS, ap_iEnumS, ap_rRange, ap_rListR, ap_rListD, ap_rDictOf, ap_rNeDs, ap_rEqDs, ap_rListOf, ap_rIsO, ap_rSortedSet, ap_rSortedSA, ap_rDClear, ap_rDUpd, ap_tSl3, ap_rSameL, ap_iItemsL, sp_right]
        refine ⟨dxB, _, hB, cls, io, x, nsB, gsB, ksD, Lo, tB, LB, tD, hd14.same s149, s9 _ _ hlo8, pN, pG, tE, fun H10 s10 => ?_⟩
        rw [hnx]
        dsimp only
        rw [ap_tSeq]
        refine nx_gen fun nx2 hnx2 => ?_
        simp only [ap_tVar, ap_tC, ap_t2I, ap_tAdd, ap_tSub, ap_tMul, ap_tCmp, ap_tIsN, ap_tNotN, ap_tB, ap_tAnd, ap_tOr, ap_tNot, ap_tAndV, ap_tOrV, ap_tNotV, ap_tIf, ap_tNext, ap_tBreak, ap_tCont, ap_tDrop, ap_tRet, ap_tRetN, ap_tIfS, ap_tNever, ap_gName, ap_gNil, ap_gCons, ap_gTup, ap_gSub, ap_tAsg, ap_tPar, ap_tAug, ap_tAugS, ap_ipI, ap_iList, ap_iTup, ap_iRng1, ap_iRng2, ap_tOp, ap_tUn, ap_rI, ap_rI0, ap_rU, ap_rEq, ap_rNe, ap_tTest, ap_tChain, ap_tFld, ap_tCon, ap_sFld, ap_sFldAug, ap_rAdd, ap_rSub, ap_tNil, ap_tCons, ap_tTup, ap_tLst, ap_tCall, ap_tMeth, ap_tMake, ap_tCallK, ap_tCB, ap_tNoPart, ap_tPart, ap_tSl, ap_rSlT, ap_rLtT, ap_rCatT, ap_rIxL, ap_rIxT, ap_rIxS, ap_rIx, ap_rSetL, ap_rSlL, ap_rIn, ap_tBM0, ap_tBM, ap_rAppend, ap_rExtend, ap_rPop, ap_rPopAt, ap_rReverse, ap_rClear, ap_rCat, ap_rRep, ap_rSum, ap_rMax, ap_rMin, ap_rSorted, ap_rSortedS, ap_rSort, ap_rIndex, ap_rAny, ap_rAll, ap_tYes, ap_tDGet, ap_tDIn, ap_tDNotIn, ap_sDPut, ap_sDAug, ap_sDDel, ap_tDNewK, ap_tDNewT, ap_tDisp, ap_tDGet1, ap_tDGet2, ap_tDPop1, ap_tDPop2, ap_tLock, ap_tLockE, ap_iRng3, ap_iRev, ap_iStr, ap_iKeys, ap_iVals, ap_iItems, ap_iKeysM, ap_iEnum, ap_iZip, ap_rNewStrs, ap_tM0, ap_tM1, ap_rSlS, ap_gUnl, ap_rIsB,  ap_tFor, ap_tLc, if_true, if_false, Bool.false_eq_true, Bool.true_eq_false, Bool.not_true, Bool.not_false, not_true_eq_false, not_false_eq_true, cx_K, nox_K, blk_K, List.getElem?_cons_succ, List.getElem?_cons_zero, Option.some.injEq, exists_eq_left', exists_eq_left, exists_eq, exists_eq', V.int.injEq, V.bl.injEq, V.str.injEq, V.ref.injEq, V.ty.injEq, List.cons.injEq, and_true, true_and, exists_and_left, List.set_cons_succ, List.set_cons_zero, List.append_nil, List.nil_append, and_assoc, decide_eq_true_eq, Bool.not_eq_true', decide_eq_false_iff_not, scal, List.length_cons, List.length_nil, Nat.zero_add, Nat.reduceAdd, ap_tCs, ap_tDcB, ap_tLam, ap_tSortK, ap_tDNotIn, ap_tDIn, ap_sDPut, ap_tSetDefF, ap_rLenOf, ap_rTupOf, ap_rNeE, ap_rMaxD, ap_tSortedK, ap_rSortedD, ap_tLockV, ap_rMulS, ap_iEnumS, ap_rRange, ap_rListR, ap_rListD, ap_rDictOf, ap_rNeDs, ap_rEqDs, ap_rListOf, ap_rIsO, ap_rSortedSet, ap_rSortedSA, ap_rDClear, ap_rDUpd, ap_tSl3, ap_rSameL, ap_iItemsL, sp_right, sp_low]
        have s1410 := s149.trans s10
        refine ⟨x, nsB, gsB, tB, LB.same s10, fun b1 nb1 J1 r1 _ LB1 pb1 => ⟨by decide, fun ee hee => ?_⟩⟩
        have r2 := Same.new hee (o := .lst [])
        have hee2 := upd_same (H := J1) (a := ee) (o := .lst [])
        generalize upd J1 ee (.lst []) = J2 at *
        have w2 := (s1410.trans r1).trans r2
        refine ⟨x, nb1, [], ksD, [], tB, LB1.same r2, tD, hd14.same w2, hee2, pb1.trans pN, .refl _, fun n hn => tE n (pb1.mem_iff.mp hn), fun J3 r3 => ?_⟩
        have w3 := w2.trans r3
        refine ⟨x, n2', g2', t2, L2e.same w3, fun b2 nb2 J4 r4 _ LB2 pb2 => ⟨by decide, fun ee2 hee2' => ?_⟩⟩
        have r5 := Same.new hee2' (o := .lst [])
        have hee5 := upd_same (H := J4) (a := ee2) (o := .lst [])
        generalize upd J4 ee2 (.lst []) = J5 at *
        have w5 := (w3.trans r4).trans r5
        refine ⟨x, nb2, [], n2, [], t2, LB2.same r5, t2, d2e.same w5, hee5, pb2.trans p2, .refl _, fun _ _ => rfl, fun J6 r6 => ?_⟩
        have w6 := w5.trans r6
        rw [hnx2]
        dsimp only
        rw [ap_tSeq]
        simp only [ap_tVar, ap_tC, ap_t2I, ap_tAdd, ap_tSub, ap_tMul, ap_tCmp, ap_tIsN, ap_tNotN, ap_tB, ap_tAnd, ap_tOr, ap_tNot, ap_tAndV, ap_tOrV, ap_tNotV, ap_tIf, ap_tNext, ap_tBreak, ap_tCont, ap_tDrop, ap_tRet, ap_tRetN, ap_tIfS, ap_tNever, ap_gName, ap_gNil, ap_gCons, ap_gTup, ap_gSub, ap_tAsg, ap_tPar, ap_tAug, ap_tAugS, ap_ipI, ap_iList, ap_iTup, ap_iRng1, ap_iRng2, ap_tOp, ap_tUn, ap_rI, ap_rI0, ap_rU, ap_rEq, ap_rNe, ap_tTest, ap_tChain, ap_tFld, ap_tCon, ap_sFld, ap_sFldAug, ap_rAdd, ap_rSub, ap_tNil, ap_tCons, ap_tTup, ap_tLst, ap_tCall, ap_tMeth, ap_tMake, ap_tCallK, ap_tCB, ap_tNoPart, ap_tPart, ap_tSl, ap_rSlT, ap_rLtT, ap_rCatT, ap_rIxL, ap_rIxT, ap_rIxS, ap_rIx, ap_rSetL, ap_rSlL, ap_rIn, ap_tBM0, ap_tBM, ap_rAppend, ap_rExtend, ap_rPop, ap_rPopAt, ap_rReverse, ap_rClear, ap_rCat, ap_rRep, ap_rSum, ap_rMax, ap_rMin, ap_rSorted, ap_rSortedS, ap_rSort, ap_rIndex, ap_rAny, ap_rAll, ap_tYes, ap_tDGet, ap_tDIn, ap_tDNotIn, ap_sDPut, ap_sDAug, ap_sDDel, ap_tDNewK, ap_tDNewT, ap_tDisp, ap_tDGet1, ap_tDGet2, ap_tDPop1, ap_tDPop2, ap_tLock, ap_tLockE, ap_iRng3, ap_iRev, ap_iStr, ap_iKeys, ap_iVals, ap_iItems, ap_iKeysM, ap_iEnum, ap_iZip, ap_rNewStrs, ap_tM0, ap_tM1, ap_rSlS, ap_gUnl, ap_rIsB,  ap_tFor, ap_tLc, if_true, if_false, Bool.false_eq_true, Bool.true_eq_false, Bool.not_true, Bool.not_false, not_true_eq_false, not_false_eq_true, cx_K, nox_K, blk_K, List.getElem?_cons_succ, List.getElem?_cons_zero, Option.some.injEq, exists_eq_left', exists_eq_left, exists_eq, exists_eq', V.int.injEq, V.bl.injEq, V.str.injEq, V.ref.injEq, V.ty.injEq, List.cons.injEq, and_true, true_and, exists_and_left, List.set_cons_succ, List.set_cons_zero, List.append_nil, List.nil_append, and_assoc, decide_eq_true_eq, Bool.not_eq_true', decide_eq_false_iff_not, scal, List.length_cons, List.length_nil, Nat.zero_add, Nat.reduceAdd, ap_tCs, ap_tDcB, ap_tLam, ap_tSortK, ap_tDNotIn, ap_tDIn, ap_sDPut, ap_tSetDefF, ap_rLenOf, ap_rTupOf, ap_rNeE, ap_rMaxD, ap_tSortedK, ap_rSortedD, ap_tLockV, ap_rMulS, ap_iEnumS, ap_rRange, ap_rListR, ap_rListD, ap_rDictOf, ap_rNeDs, ap_rEqDs, ap_rListOf, ap_rIsO, ap_rSortedSet, ap_rSortedSA, ap_rDClear, ap_rDUpd, ap_tSl3, ap_rSameL, ap_iItemsL]
        obtain ⟨kv1', hk1', k1'⟩ := d1e.same w6
        obtain ⟨kv2', hk2', k2'⟩ := d2e.same w6
        refine ⟨kv1', .inl hk1', fun ev hev => ?_⟩
        have r7 := Same.new hev (o := .dK kv1')
        have hev7 := upd_same (H := J6) (a := ev) (o := .dK kv1')
        have nev : ev ≠ d2 := (ne_of_none hk2' hev).symm
        have hk27 := r7 _ _ hk2'
        generalize upd J6 ev (.dK kv1') = J7 at *
        rw [ap_tSeq]
        simp only [ap_tVar, ap_tC, ap_t2I, ap_tAdd, ap_tSub, ap_tMul, ap_tCmp, ap_tIsN, ap_tNotN, ap_tB, ap_tAnd, ap_tOr, ap_tNot, ap_tAndV, ap_tOrV, ap_tNotV, ap_tIf, ap_tNext, ap_tBreak, ap_tCont, ap_tDrop, ap_tRet, ap_tRetN, ap_tIfS, ap_tNever, ap_gName, ap_gNil, ap_gCons, ap_gTup, ap_gSub, ap_tAsg, ap_tPar, ap_tAug, ap_tAugS, ap_ipI, ap_iList, ap_iTup, ap_iRng1, ap_iRng2, ap_tOp, ap_tUn, ap_rI, ap_rI0, ap_rU, ap_rEq, ap_rNe, ap_tTest, ap_tChain, ap_tFld, ap_tCon, ap_sFld, ap_sFldAug, ap_rAdd, ap_rSub, ap_tNil, ap_tCons, ap_tTup, ap_tLst, ap_tCall, ap_tMeth, ap_tMake, ap_tCallK, ap_tCB, ap_tNoPart, ap_tPart, ap_tSl, ap_rSlT, ap_rLtT, ap_rCatT, ap_rIxL, ap_rIxT, ap_rIxS, ap_rIx, ap_rSetL, ap_rSlL, ap_rIn, ap_tBM0, ap_tBM, ap_rAppend, ap_rExtend, ap_rPop, ap_rPopAt, ap_rReverse, ap_rClear, ap_rCat, ap_rRep, ap_rSum, ap_rMax, ap_rMin, ap_rSorted, ap_rSortedS, ap_rSort, ap_rIndex, ap_rAny, ap_rAll, ap_tYes, ap_tDGet, ap_tDIn, ap_tDNotIn, ap_sDPut, ap_sDAug, ap_sDDel, ap_tDNewK, ap_tDNewT, ap_tDisp, ap_tDGet1, ap_tDGet2, ap_tDPop1, ap_tDPop2, ap_tLock, ap_tLockE, ap_iRng3, ap_iRev, ap_iStr, ap_iKeys, ap_iVals, ap_iItems, ap_iKeysM, ap_iEnum, ap_iZip, ap_rNewStrs, ap_tM0, ap_tM1, ap_rSlS, ap_gUnl, ap_rIsB,  ap_tFor, ap_tLc, if_true, if_false, Bool.false_eq_true, Bool.true_eq_false, Bool.not_true, Bool.not_false, not_true_eq_false, not_false_eq_true, cx_K, nox_K, blk_K, List.getElem?_cons_succ, List.getElem?_cons_zero, Option.some.injEq, exists_eq_left', exists_eq_left, exists_eq, exists_eq', V.int.injEq, V.bl.injEq, V.str.injEq, V.ref.injEq, V.ty.injEq, List.cons.injEq, and_true, true_and, exists_and_left, List.set_cons_succ, List.set_cons_zero, List.append_nil, List.nil_append, and_assoc, decide_eq_true_eq, Bool.not_eq_true', decide_eq_false_iff_not, scal, List.length_cons, List.length_nil, Nat.zero_add, Nat.reduceAdd, ap_tCs, ap_tDcB, ap_tLam, ap_tSortK, ap_tDNotIn, ap_tDIn, ap_sDPut, ap_tSetDefF, ap_rLenOf, ap_rTupOf, ap_rNeE, ap_rMaxD, ap_tSortedK, ap_rSortedD, ap_tLockV, ap_rMulS, ap_iEnumS, ap_rRange, ap_rListR, ap_rListD, ap_rDictOf, ap_rNeDs, ap_rEqDs, ap_rListOf, ap_rIsO, ap_rSortedSet, ap_rSortedSA, ap_rDClear, ap_rDUpd, ap_tSl3, ap_rSameL, ap_iItemsL]
        have lk1' := k1'.len
        have lk2' := k2'.len
        refine ⟨.inr (.inr (.inl ⟨rfl, .inl ⟨_, hev7⟩⟩)), nev, kv1', hev7, kv2', .inl hk27, Nat.le_of_lt (small1000 (by omega)), ?_⟩
        obtain ⟨ksE, tE2, kE, oE, mE, uE, vE⟩ := TK.merge (k2'.tk (.of r7)) O2.tx (k1'.tk (.of r7)) O1.tx
        have w8 : Same H14 (upd J7 ev (.dK (mergeK kv1' kv2'))) := Same.put (w6.trans r7) (w6.free hev)
        have v6 : Same H9 J6 := ((((s10.trans r1).trans r2).trans r3).trans r4).trans (r5.trans r6)
        have v8 : Same H9 (upd J7 ev (.dK (mergeK kv1' kv2'))) := Same.put (v6.trans r7) (v6.free hev)
        have hev8 : TD (upd J7 ev (.dK (mergeK kv1' kv2'))) ev ksE tE2 := ⟨_, upd_same, kE.tk (.upd hev7 (by intro xs z; cases z))⟩
        generalize upd J7 ev (.dK (mergeK kv1' kv2')) = J8 at *
        rw [ap_tSeq]
        refine nx_gen fun nx3 hnx3 => ?_
        simp only [ap_tVar, ap_tC, ap_t2I, ap_tAdd, ap_tSub, ap_tMul, ap_tCmp, ap_tIsN, ap_tNotN, ap_tB, ap_tAnd, ap_tOr, ap_tNot, ap_tAndV, ap_tOrV, ap_tNotV, ap_tIf, ap_tNext, ap_tBreak, ap_tCont, ap_tDrop, ap_tRet, ap_tRetN, ap_tIfS, ap_tNever, ap_gName, ap_gNil, ap_gCons, ap_gTup, ap_gSub, ap_tAsg, ap_tPar, ap_tAug, ap_tAugS, ap_ipI, ap_iList, ap_iTup, ap_iRng1, ap_iRng2, ap_tOp, ap_tUn, ap_rI, ap_rI0, ap_rU, ap_rEq, ap_rNe, ap_tTest, ap_tChain, ap_tFld, ap_tCon, ap_sFld, ap_sFldAug, ap_rAdd, ap_rSub, ap_tNil, ap_tCons, ap_tTup, ap_tLst, ap_tCall, ap_tMeth, ap_tMake, ap_tCallK, ap_tCB, ap_tNoPart, ap_tPart, ap_tSl, ap_rSlT, ap_rLtT, ap_rCatT, ap_rIxL, ap_rIxT, ap_rIxS, ap_rIx, ap_rSetL, ap_rSlL, ap_rIn, ap_tBM0, ap_tBM, ap_rAppend, ap_rExtend, ap_rPop, ap_rPopAt, ap_rReverse, ap_rClear, ap_rCat, ap_rRep, ap_rSum, ap_rMax, ap_rMin, ap_rSorted, ap_rSortedS, ap_rSort, ap_rIndex, ap_rAny, ap_rAll, ap_tYes, ap_tDGet, ap_tDIn, ap_tDNotIn, ap_sDPut, ap_sDAug, ap_sDDel, ap_tDNewK, ap_tDNewT, ap_tDisp, ap_tDGet1, ap_tDGet2, ap_tDPop1, ap_tDPop2, ap_tLock, ap_tLockE, ap_iRng3, ap_iRev, ap_iStr, ap_iKeys, ap_iVals, ap_iItems, ap_iKeysM, ap_iEnum, ap_iZip, ap_rNewStrs, ap_tM0, ap_tM1, ap_rSlS, ap_gUnl, ap_rIsB,  ap_tFor, ap_tLc, if_true, if_false, Bool.false_eq_true, Bool.true_eq_false, Bool.not_true, Bool.not_false, not_true_eq_false, not_false_eq_true, cx_K, nox_K, blk_K, List.getElem?_cons_succ, List.getElem?_cons_zero, Option.some.injEq, exists_eq_left', exists_eq_left, exists_eq, exists_eq', V.int.injEq, V.bl.injEq, V.str.injEq, V.ref.injEq, V.ty.injEq, List.cons.injEq, and_true, true_and, exists_and_left, List.set_cons_succ, List.set_cons_zero, List.append_nil, List.nil_append, and_assoc, decide_eq_true_eq, Bool.not_eq_true', decide_eq_false_iff_not, scal, List.length_cons, List.length_nil, Nat.zero_add, Nat.reduceAdd, ap_tCs, ap_tDcB, ap_tLam, ap_tSortK, ap_tDNotIn, ap_tDIn, ap_sDPut, ap_tSetDefF, ap_rLenOf, ap_rTupOf, ap_rNeE, ap_rMaxD, ap_tSortedK, ap_rSortedD, ap_tLockV, ap_rMulS, ap_iEnumS, ap_rRange, ap_rListR, ap_rListD, ap_rDictOf, ap_rNeDs, ap_rEqDs, ap_rListOf, ap_rIsO, ap_rSortedSet, ap_rSortedSA, ap_rDClear, ap_rDUpd, ap_tSl3, ap_rSameL, ap_iItemsL, sp_right, sp_low, sp_pour]
        refine ⟨x, n1', g1', t1, L1e.same w8, fun c1 m1 J9 r9 _ LC1 pc1 => ⟨x, n2', g2', t2, L2e.same (w8.trans r9), fun c2 m2 J10 r10 _ LC2 pc2 => ?_⟩⟩
        have lm1' := pc1.length_eq
        have lm2' := pc2.length_eq
        refine ⟨x, x, m1, [], m2, [], t1, LC1.same r10, t2, LC2, by simp only [List.length_nil]; omega, fun co nsC gsC tC J11 r11 _ LC PC => ⟨by decide, fun ee3 hee3 => ?_⟩⟩
        have r12 := Same.new hee3 (o := .lst [])
        have hee12 := upd_same (H := J11) (a := ee3) (o := .lst [])
        generalize upd J11 ee3 (.lst []) = J12 at *
        have w12 := (((w8.trans r9).trans r10).trans r11).trans r12
        have w8_12 := ((r9.trans r10).trans r11).trans r12
        have gnil : gsC = [] := by
          rw [List.eq_nil_iff_forall_not_mem]
          intro n hn
          have := (PC.g n).mp hn
          simp at this
        subst gnil
        refine ⟨x, nsC, [], ksE, [], tC, LC.same r12, tE2, hev8.same w8_12, hee12, pm LC.1.e.tx.nd oE.nd (fun n => ?_), .refl _, fun n hn => ?_, fun J13 r13 => ?_⟩
        · rw [PC.n n, mE n, pc2.mem_iff, pc1.mem_iff, p2.mem_iff, p1.mem_iff]
          simp
          constructor
          · rintro (h | ⟨h, _⟩)
            · exact .inr h
            · exact .inl h
          · rintro (h | h)
            · by_cases z : n ∈ n2
              · exact .inl z
              · exact .inr ⟨h, z⟩
            · exact .inl h
        · have e2 : n ∈ m2 ↔ n ∈ n2 := by rw [pc2.mem_iff, p2.mem_iff]
          by_cases z : n ∈ n2
          · rw [PC.u n (e2.mpr z), uE n z]
          · rcases (PC.n n).mp hn with h | h
            · exact absurd (e2.mp h) z
            · rw [PC.l n h.1 h.2.1 h.2.2, vE n z]
        have w13 := w12.trans r13
        rw [hnx3]
        dsimp only
        simp only [ap_tVar, ap_tC, ap_t2I, ap_tAdd, ap_tSub, ap_tMul, ap_tCmp, ap_tIsN, ap_tNotN, ap_tB, ap_tAnd, ap_tOr, ap_tNot, ap_tAndV, ap_tOrV, ap_tNotV, ap_tIf, ap_tNext, ap_tBreak, ap_tCont, ap_tDrop, ap_tRet, ap_tRetN, ap_tIfS, ap_tNever, ap_gName, ap_gNil, ap_gCons, ap_gTup, ap_gSub, ap_tAsg, ap_tPar, ap_tAug, ap_tAugS, ap_ipI, ap_iList, ap_iTup, ap_iRng1, ap_iRng2, ap_tOp, ap_tUn, ap_rI, ap_rI0, ap_rU, ap_rEq, ap_rNe, ap_tTest, ap_tChain, ap_tFld, ap_tCon, ap_sFld, ap_sFldAug, ap_rAdd, ap_rSub, ap_tNil, ap_tCons, ap_tTup, ap_tLst, ap_tCall, ap_tMeth, ap_tMake, ap_tCallK, ap_tCB, ap_tNoPart, ap_tPart, ap_tSl, ap_rSlT, ap_rLtT, ap_rCatT, ap_rIxL, ap_rIxT, ap_rIxS, ap_rIx, ap_rSetL, ap_rSlL, ap_rIn, ap_tBM0, ap_tBM, ap_rAppend, ap_rExtend, ap_rPop, ap_rPopAt, ap_rReverse, ap_rClear, ap_rCat, ap_rRep, ap_rSum, ap_rMax, ap_rMin, ap_rSorted, ap_rSortedS, ap_rSort, ap_rIndex, ap_rAny, ap_rAll, ap_tYes, ap_tDGet, ap_tDIn, ap_tDNotIn, ap_sDPut, ap_sDAug, ap_sDDel, ap_tDNewK, ap_tDNewT, ap_tDisp, ap_tDGet1, ap_tDGet2, ap_tDPop1, ap_tDPop2, ap_tLock, ap_tLockE, ap_iRng3, ap_iRev, ap_iStr, ap_iKeys, ap_iVals, ap_iItems, ap_iKeysM, ap_iEnum, ap_iZip, ap_rNewStrs, ap_tM0, ap_tM1, ap_rSlS, ap_gUnl, ap_rIsB,  ap_tFor, ap_tLc, if_true, if_false, Bool.false_eq_true, Bool.true_eq_false, Bool.not_true, Bool.not_false, not_true_eq_false, not_false_eq_true, cx_K, nox_K, blk_K, List.getElem?_cons_succ, List.getElem?_cons_zero, Option.some.injEq, exists_eq_left', exists_eq_left, exists_eq, exists_eq', V.int.injEq, V.bl.injEq, V.str.injEq, V.ref.injEq, V.ty.injEq, List.cons.injEq, and_true, true_and, exists_and_left, List.set_cons_succ, List.set_cons_zero, List.append_nil, List.nil_append, and_assoc, decide_eq_true_eq, Bool.not_eq_true', decide_eq_false_iff_not, scal, List.length_cons, List.length_nil, Nat.zero_add, Nat.reduceAdd, ap_tCs, ap_tDcB, ap_tLam, ap_tSortK, ap_tDNotIn, ap_tDIn, ap_sDPut, ap_tSetDefF, ap_rLenOf, ap_rTupOf, ap_rNeE, ap_rMaxD, ap_tSortedK, ap_rSortedD, ap_tLockV, ap_rMulS, ap_iEnumS, ap_rRange, ap_rListR, ap_rListD, ap_rDictOf, ap_rNeDs, ap_rEqDs, ap_rListOf, ap_rIsO, ap_rSortedSet, ap_rSortedSA, ap_rDClear, ap_rDUpd, ap_tSl3, ap_rSameL, ap_iItemsL, sp_right]
        have v13 : Same H9 J13 := v8.trans (w8_12.trans r13)
        refine ⟨x, n1', g1', n1, gs1, t1, L1e.same w13, t1, d1e.same w13, w13 _ _ g1e, p1, q1, fun _ _ => rfl, fun J14 r14 => ?_⟩
        have w14 := w13.trans r14
        refine ⟨x, n2', g2', n2, gs2, t2, L2e.same w14, t2, d2e.same w14, w14 _ _ g2e, p2, q2, fun _ _ => rfl, fun J15 r15 => ?_⟩
        have v15 := (v13.trans r14).trans r15
        have w15 := w14.trans r15
        refine ⟨x, nsB, gsB, ksD, Lo, tB, LB.same v15, tD, hd14.same w15, v15 _ _ (s9 _ _ hlo8), pN, pG, tE, fun J16 r16 => q J16⟩
end
end My
open PySem PySem.W PyProof.Rows
set_option maxRecDepth 100000 in
set_option maxHeartbeats 0 in
theorem PySem.Challenge.cw_shownranks_k31_layers_poured_holds : PySem.Challenge.rw_shownranks_k31_layers_poured.Holds := by
  w_on; o_law; k_head; (case hw => w_witness2)
  k_fill
  refine L2.walkT (l := PySem.Challenge.rw_shownranks_k31_layers_poured) (p := "_law_script") (k := 7) (My.spLaw 157) [(159, 157)] rfl rfl ⟨rfl, by decide, by decide⟩ (fun w h Y => ⟨PySem.W.km_in_of Y, L2.tabs_all (PySem.W.km_tabs_of Y)⟩) (fun w h X => L2.tabs_code X (by kernel_rfl)) (fun w => L2.tabs_out (by kernel_rfl)) (fun K H a ns hl hb hT hS => ⟨a, ns, rfl, hS, hl, hb, hT _ (List.mem_singleton.mpr rfl), fun _ => rfl⟩) ?F
  case F =>
    intro w mg fa h KX G hmg
    have D_is_small_letter : L2.Def (L2.KOf KX) mg "is_small_letter" My.s_is_small_letter := by
      dsimp only [L2.KOf]
      refine' L2.def_mk KX G ?a ?l ?c ?k
      (case a => k_is); (case l => k_is); (case c => k_is); (case k => k_is)
    have D_is_figure : L2.Def (L2.KOf KX) mg "is_figure" My.s_is_figure := by
      dsimp only [L2.KOf]
      refine' L2.def_mk KX G ?a ?l ?c ?k
      (case a => k_is); (case l => k_is); (case c => k_is); (case k => k_is)
    have D_is_plain_sign : L2.Def (L2.KOf KX) mg "is_plain_sign" My.s_is_plain_sign := by
      dsimp only [L2.KOf]
      refine' L2.def_mk KX G ?a ?l ?c ?k
      (case a => k_is); (case l => k_is); (case c => k_is); (case k => k_is)
    have D_are_small_letters : L2.Def (L2.KOf KX) mg "are_small_letters" My.s_are_small_letters := by
      dsimp only [L2.KOf]
      refine' L2.def_mk KX G ?a ?l ?c ?k
      (case a => k_is); (case l => k_is); (case c => k_is); (case k => k_is)
    have D_is_plain_word : L2.Def (L2.KOf KX) mg "is_plain_word" My.s_is_plain_word := by
      dsimp only [L2.KOf]
      refine' L2.def_mk KX G ?a ?l ?c ?k
      (case a => k_is); (case l => k_is); (case c => k_is); (case k => k_is)
    have D_check_ending : L2.Def (L2.KOf KX) mg "check_ending" My.s_check_ending := by
      dsimp only [L2.KOf]
      refine' L2.def_mk KX G ?a ?l ?c ?k
      (case a => k_is); (case l => k_is); (case c => k_is); (case k => k_is)
    have D_check_silent_word : L2.Def (L2.KOf KX) mg "check_silent_word" My.s_check_silent_word := by
      dsimp only [L2.KOf]
      refine' L2.def_mk KX G ?a ?l ?c ?k
      (case a => k_is); (case l => k_is); (case c => k_is); (case k => k_is)
    have D_check_no_twice : L2.Def (L2.KOf KX) mg "check_no_twice" My.s_check_no_twice := by
      dsimp only [L2.KOf]
      refine' L2.def_mk KX G ?a ?l ?c ?k
      (case a => k_is); (case l => k_is); (case c => k_is); (case k => k_is)
    have D_poured : L2.Def (L2.KOf KX) mg "poured" My.s_poured := by
      dsimp only [L2.KOf]
      refine' L2.def_mk KX G ?a ?l ?c ?k
      (case a => k_is); (case l => k_is); (case c => k_is); (case k => k_is)
    have D_lowest : L2.Def (L2.KOf KX) mg "lowest" My.s_lowest := by
      dsimp only [L2.KOf]
      refine' L2.def_mk KX G ?a ?l ?c ?k
      (case a => k_is); (case l => k_is); (case c => k_is); (case k => k_is)
    have D_l_nth : L2.Def (L2.KOf KX) mg "_law_nth" My.s_l_nth := by
      dsimp only [L2.KOf]
      refine' L2.def_mk KX G ?a ?l ?c ?k
      (case a => k_is); (case l => k_is); (case c => k_is); (case k => k_is)
    have D_l_tape : L2.Def (L2.KOf KX) mg "_law_tape" My.s_l_tape := by
      dsimp only [L2.KOf]
      refine' L2.def_mk KX G ?a ?l ?c ?k
      (case a => k_is); (case l => k_is); (case c => k_is); (case k => k_is)
    have D_l_digit : L2.Def (L2.KOf KX) mg "_law_digit" My.s_l_digit := by
      dsimp only [L2.KOf]
      refine' L2.def_mk KX G ?a ?l ?c ?k
      (case a => k_is); (case l => k_is); (case c => k_is); (case k => k_is)
    have D_l_name : L2.Def (L2.KOf KX) mg "_law_name" My.s_l_name := by
      dsimp only [L2.KOf]
      refine' L2.def_mk KX G ?a ?l ?c ?k
      (case a => k_is); (case l => k_is); (case c => k_is); (case k => k_is)
    have D_l_text : L2.Def (L2.KOf KX) mg "_law_text" My.s_l_text := by
      dsimp only [L2.KOf]
      refine' L2.def_mk KX G ?a ?l ?c ?k
      (case a => k_is); (case l => k_is); (case c => k_is); (case k => k_is)
    have D_l_parts : L2.Def (L2.KOf KX) mg "_law_parts" My.s_l_parts := by
      dsimp only [L2.KOf]
      refine' L2.def_mk KX G ?a ?l ?c ?k
      (case a => k_is); (case l => k_is); (case c => k_is); (case k => k_is)
    have D_l_entries : L2.Def (L2.KOf KX) mg "_law_entries" My.s_l_entries := by
      dsimp only [L2.KOf]
      refine' L2.def_mk KX G ?a ?l ?c ?k
      (case a => k_is); (case l => k_is); (case c => k_is); (case k => k_is)
    have D_l_right : L2.Def (L2.KOf KX) mg "_law_right" My.s_l_right := by
      dsimp only [L2.KOf]
      refine' L2.def_mk KX G ?a ?l ?c ?k
      (case a => k_is); (case l => k_is); (case c => k_is); (case k => k_is)
    have D_l_layer : L2.Def (L2.KOf KX) mg "_law_layer" My.s_l_layer := by
      dsimp only [L2.KOf]
      refine' L2.def_mk KX G ?a ?l ?c ?k
      (case a => k_is); (case l => k_is); (case c => k_is); (case k => k_is)
    have D_law : L2.Def (L2.KOf KX) mg "law" My.s_law := by
      dsimp only [L2.KOf]
      refine' L2.def_mk KX G ?a ?l ?c ?k
      (case a => k_is); (case l => k_is); (case c => k_is); (case k => k_is)
    have n_len : mg "len" = none := by
      refine' PySem.W.mg_none_of KX G ?z
      (case z => k_is)
    have n_range : mg "range" = none := by
      refine' PySem.W.mg_none_of KX G ?z
      (case z => k_is)
    have n_list : mg "list" = none := by
      refine' PySem.W.mg_none_of KX G ?z
      (case z => k_is)
    have n_isinstance : mg "isinstance" = none := by
      refine' PySem.W.mg_none_of KX G ?z
      (case z => k_is)
    have n_int : mg "int" = none := by
      refine' PySem.W.mg_none_of KX G ?z
      (case z => k_is)
    have n_all : mg "all" = none := by
      refine' PySem.W.mg_none_of KX G ?z
      (case z => k_is)
    have n_set : mg "set" = none := by
      refine' PySem.W.mg_none_of KX G ?z
      (case z => k_is)
    have n_sorted : mg "sorted" = none := by
      refine' PySem.W.mg_none_of KX G ?z
      (case z => k_is)
    have n_tuple : mg "tuple" = none := by
      refine' PySem.W.mg_none_of KX G ?z
      (case z => k_is)
    have n_dict : mg "dict" = none := by
      refine' PySem.W.mg_none_of KX G ?z
      (case z => k_is)
    refine' L2.with_class (x := "Rulebook") (qual := "Rulebook.__init__") (st := My.s_Rulebook_init) KX G ?a ?i ?ifn ?l ?c ?k ?pg ?hd ?po ?sa ?mk ?kc (fun hm_Rulebook cls_Rulebook mk_Rulebook F_Rulebook_init => ?_)
    (case a => k_is); (case i => k_is); (case ifn => k_is); (case l => k_is); (case c => k_is); (case k => k_is); (case pg => k_is); (case hd => k_is); (case po => k_is); (case sa => k_is); (case mk => k_is); (case kc => k_is)
    have na_Rulebook_longest_first := L2.noattr_mk cls_Rulebook "longest_first" (by k_is)
    have na_Rulebook_silent_words := L2.noattr_mk cls_Rulebook "silent_words" (by k_is)
    refine' L2.with_class (x := "Layer") (qual := "Layer.__init__") (st := My.s_Layer_init) KX G ?a ?i ?ifn ?l ?c ?k ?pg ?hd ?po ?sa ?mk ?kc (fun hm_Layer cls_Layer mk_Layer F_Layer_init => ?_)
    (case a => k_is); (case i => k_is); (case ifn => k_is); (case l => k_is); (case c => k_is); (case k => k_is); (case pg => k_is); (case hd => k_is); (case po => k_is); (case sa => k_is); (case mk => k_is); (case kc => k_is)
    have na_Layer_rules := L2.noattr_mk cls_Layer "rules" (by k_is)
    have na_Layer_kept_parts := L2.noattr_mk cls_Layer "kept_parts" (by k_is)
    have na_Layer_gone_names := L2.noattr_mk cls_Layer "gone_names" (by k_is)
    refine' L2.with_meth (m := "names") (qual := "Layer.names") (st := My.s_Layer_names) cls_Layer ?i ?ifn ?l ?c ?k (fun me_Layer_names F_Layer_names => ?_)
    (case i => k_is); (case ifn => k_is); (case l => k_is); (case c => k_is); (case k => k_is)
    refine' L2.with_meth (m := "gone") (qual := "Layer.gone") (st := My.s_Layer_gone) cls_Layer ?i ?ifn ?l ?c ?k (fun me_Layer_gone F_Layer_gone => ?_)
    (case i => k_is); (case ifn => k_is); (case l => k_is); (case c => k_is); (case k => k_is)
    refine' L2.with_meth (m := "texts") (qual := "Layer.texts") (st := My.s_Layer_texts) cls_Layer ?i ?ifn ?l ?c ?k (fun me_Layer_texts F_Layer_texts => ?_)
    (case i => k_is); (case ifn => k_is); (case l => k_is); (case c => k_is); (case k => k_is)
    have T : My.Txt mg := ⟨n_len, n_range, n_list, n_isinstance, n_int, n_all, n_set, n_sorted, n_tuple, n_dict⟩
    refine L2.law_ofT hmg D_law (fun _ _ _ _ _ _ us hl => match us, hl with | [_], _ => rfl) fun base kb nb bb => ?_
    have NT := My.c_nth (P := PySem.Challenge.rw_shownranks_k31_layers_poured.prog) (w := w) (base := base) T D_l_nth
    have TP := My.c_tape (P := PySem.Challenge.rw_shownranks_k31_layers_poured.prog) (w := w) (base := base) T D_l_tape
    have DG := My.c_digit (P := PySem.Challenge.rw_shownranks_k31_layers_poured.prog) (w := w) (base := base) T D_l_digit
    have NM := My.c_name T D_l_name DG
    have TX := My.c_text T D_l_text DG
    have EN := My.c_entries T D_l_entries TP DG NM (My.c_parts3 T D_l_parts TX)
    have S := My.c_small (P := PySem.Challenge.rw_shownranks_k31_layers_poured.prog) (w := w) (base := base) D_is_small_letter
    have F := My.c_figure (P := PySem.Challenge.rw_shownranks_k31_layers_poured.prog) (w := w) (base := base) D_is_figure
    have E1 := My.c_chkE T D_check_ending (My.c_sml T D_are_small_letters S)
    have E2 := My.c_chkS T D_check_silent_word (My.c_pl T D_is_plain_word (My.c_psign D_is_plain_sign S F))
    have KR := My.c_rb (Pt := 157) T F_Rulebook_init mk_Rulebook hm_Rulebook cls_Rulebook na_Rulebook_longest_first na_Rulebook_silent_words (codeHd_of_K kb (by kernel_rfl)) bb E1 E2 (My.c_chkT T D_check_no_twice)
    have KL := My.c_lyI (P := PySem.Challenge.rw_shownranks_k31_layers_poured.prog) (w := w) (base := base) T F_Layer_init mk_Layer hm_Layer cls_Layer na_Layer_rules na_Layer_kept_parts na_Layer_gone_names
    have LN := My.c_lyn (P := PySem.Challenge.rw_shownranks_k31_layers_poured.prog) (w := w) (base := base) T F_Layer_names me_Layer_names cls_Layer na_Layer_kept_parts na_Layer_gone_names
    have LG := My.c_lyg (P := PySem.Challenge.rw_shownranks_k31_layers_poured.prog) (w := w) (base := base) T F_Layer_gone me_Layer_gone cls_Layer na_Layer_gone_names
    have LT := My.c_lyt (P := PySem.Challenge.rw_shownranks_k31_layers_poured.prog) (w := w) (base := base) T F_Layer_texts me_Layer_texts cls_Layer na_Layer_kept_parts
    have PO := My.c_pour T cls_Layer na_Layer_rules D_poured LN LG LT KL
    have LO := My.c_low T cls_Layer na_Layer_rules D_lowest LT KL
    exact My.c_law T cls_Layer ⟨by kernel_rfl, by kernel_rfl, by kernel_rfl, by kernel_rfl⟩ hm_Layer D_law NT EN KR (My.c_llay T D_l_layer KL) (My.c_right T D_l_right LN LG LT) PO LO
