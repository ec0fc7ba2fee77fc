import PyProof.Rows.All
import Wide.All
import OpenK.AllK
import Wide.FinOn
import Lean
import PyProof.EqAt
import PyProof.EqKinds
import PyProof.TupleCall
import PySem.Challenge.RW_rimehold_k04_errors
set_option Elab.async false
set_option linter.all false
set_option maxRecDepth 100000
/-! THE HAND LAYER, for ints, bools, texts, own classes, LISTS and tuples (index, slices, in, append, pop ..), calls, loops. Paste it whole ahead of your own text; what your proof does not reach may be deleted. -/
namespace L2
open PySem PySem.Spec PyProof.Rows

/-- a key: an int or a str -/
abbrev Key := Sum Int Str
def keyIs : Key → Value → Bool
  | .inl k, v => Value.isInt k v
  | .inr x, v => Value.isStrOf x v
def keyH (w : World) : Key → Int
  | .inl k => hashInt k
  | .inr x => hashStr w x
theorem keyIs_shape : ∀ {k : Key} {v : Value}, keyIs k v = true → (∃ i t, k = Sum.inl i ∧ v = Value.int i t) ∨ (∃ x t, k = Sum.inr x ∧ v = Value.str x t)
  | .inl i, v, h => by
    obtain ⟨t, e⟩ := Value.isInt_shape (k := i) (v := v) h
    exact .inl ⟨i, t, rfl, e⟩
  | .inr x, v, h => by
    obtain ⟨t, e⟩ := Value.isStrOf_shape (x := x) (v := v) h
    exact .inr ⟨x, t, rfl, e⟩
theorem key_ll (a b : Int) : decide ((Sum.inl a : Key) = Sum.inl b) = (a == b) := by
  by_cases e : a = b
  · subst e; simp
  · have h : ¬ (Sum.inl a : Key) = Sum.inl b := fun q => e (Sum.inl.inj q)
    rw [decide_eq_false h]
    exact (beq_eq_false_iff_ne.mpr e).symm
theorem key_rr (a b : Str) : decide ((Sum.inr a : Key) = Sum.inr b) = decide (a = b) := by
  by_cases e : a = b
  · subst e; simp
  · have h : ¬ (Sum.inr a : Key) = Sum.inr b := fun q => e (Sum.inr.inj q)
    rw [decide_eq_false h, decide_eq_false e]
theorem key_lr (a : Int) (b : Str) : decide ((Sum.inl a : Key) = Sum.inr b) = false := decide_eq_false (fun q => nomatch q)
theorem key_rl (a : Str) (b : Int) : decide ((Sum.inr a : Key) = Sum.inl b) = false := decide_eq_false (fun q => nomatch q)

def mixKind (prog : Program) (w : World) : PySem.KeyKind prog w Key where
  is := keyIs
  hash := keyH w
  inj := fun v a b ha hb => by
    rcases keyIs_shape ha with ⟨i, t, rfl, rfl⟩ | ⟨x, t, rfl, rfl⟩
    · rcases keyIs_shape hb with ⟨j, u, rfl, e⟩ | ⟨y, u, rfl, e⟩
      · injection e with e1 _; rw [e1]
      · exact nomatch e
    · rcases keyIs_shape hb with ⟨j, u, rfl, e⟩ | ⟨y, u, rfl, e⟩
      · exact nomatch e
      · injection e with e1 _; rw [e1]
  byValue := fun k v h => by
    rcases keyIs_shape h with ⟨i, t, rfl, rfl⟩ | ⟨x, t, rfl, rfl⟩ <;> rfl
  pyHash := fun hv h => by
    rcases keyIs_shape hv with ⟨i, t, rfl, rfl⟩ | ⟨x, t, rfl, rfl⟩
    · exact wpAny_pyHash_int h
    · exact wpAny_pyHash_str h
  eqBool := fun hu hv h => by
    rcases keyIs_shape hu with ⟨i, t, rfl, rfl⟩ | ⟨x, t, rfl, rfl⟩
    · rcases keyIs_shape hv with ⟨j, u, rfl, rfl⟩ | ⟨y, u, rfl, rfl⟩
      · rw [key_ll] at h; exact wpAny_eqBool_int h
      · rw [key_lr] at h; exact SeqAt.EqAt.int_str i t y u _ _ _ _ h
    · rcases keyIs_shape hv with ⟨j, u, rfl, rfl⟩ | ⟨y, u, rfl, rfl⟩
      · rw [key_rl] at h; exact SeqAt.EqAt.str_int x t j u _ _ _ _ h
      · rw [key_rr] at h; exact wpAny_eqBool_str h
  «strs» := fun k x t v h => by
    rcases keyIs_shape h with ⟨i, u, rfl, e⟩ | ⟨y, u, rfl, e⟩
    · exact nomatch e
    · injection e with e1 _
      subst e1
      cases v <;> rfl

end L2

namespace L2
open PySem PySem.Spec PyProof.Rows

/-- a value, without the heap -/
inductive V where
  | non | bl (b : Bool) | int (i : Int) | str (x : Str) | byt (b : Array UInt8) | flt (b : UInt64) | ref (a : Addr) | ty (n : String)
  deriving DecidableEq

def RelV : V → Value → Prop
  | .non, u => u = Value.none
  | .bl b, u => u = Value.bool b
  | .int i, u => ∃ t, u = Value.int i t
  | .str x, u => ∃ t, u = Value.str x t
  | .byt b, u => ∃ t, u = Value.bytes b t
  | .flt b, u => ∃ t, u = Value.float b t
  | .ref a, u => u = Value.ref a
  | .ty n, u => u = Value.type n

abbrev Vals : List V → List Value → Prop := Paired RelV
theorem Vals.length {xs : List V} {us : List Value} (r : Vals xs us) : xs.length = us.length := Paired.length r
theorem Vals.get : ∀ {xs : List V} {us : List Value} {i : Nat} {x : V}, Vals xs us → xs[i]? = some x → ∃ u, us[i]? = some u ∧ RelV x u
  | _, _, _, _, .nil, e => by simp at e
  | _, _, 0, _, .cons r _, e => by simp at e; subst e; exact ⟨_, rfl, r⟩
  | _, _, i + 1, x, .cons _ t, e => by
    obtain ⟨u, h1, h2⟩ := Vals.get (i := i) (x := x) t (by simpa using e)
    exact ⟨u, by simpa using h1, h2⟩
theorem Vals.set {x : V} {u : Value} (r : RelV x u) : ∀ {xs : List V} {us : List Value} (i : Nat), Vals xs us → Vals (xs.set i x) (us.set i u)
  | _, _, _, .nil => .nil
  | _, _, 0, .cons _ t => .cons r t
  | _, _, i + 1, .cons q t => .cons q (Vals.set r i t)
theorem Vals.append : ∀ {xs ys : List V} {us ws : List Value}, Vals xs us → Vals ys ws → Vals (xs ++ ys) (us ++ ws)
  | _, _, _, _, .nil, s => s
  | _, _, _, _, .cons r t, s => .cons r (Vals.append t s)
def RelO : Option V → Option Value → Prop
  | some v, some u => RelV v u
  | none, none => True
  | _, _ => False
def KV {κ : Type} : List (κ × V) → List (κ × Value) → Prop := Paired fun (p : κ × V) (q : κ × Value) => p.1 = q.1 ∧ RelV p.2 q.2

/-- a key of a dict (00_mix): an int or a text -/
def kV : Key → V
  | .inl i => .int i
  | .inr x => .str x

/-- what stands at a tracked address -/
inductive HO where
  /-- a list -/
  | lst (xs : List V)
  /-- a tuple (never changes) -/
  | tup (xs : List V)
  /-- a dict whose keys are ints and texts; one whose keys are tuples of ints and texts (the empty one is both) -/
  | dK (kvs : List (Key × V)) | dT (kvs : List (List Key × V))
  /-- a set of ints: its members, its size -/
  | set (S : Int → Bool) (n : Nat)
  /-- an instance of the class at C, its dict at dx, its attributes -/
  | ins (C dx : Addr) (fs : List (Str × V))
  /-- the dict of the instance at x -/
  | own (x : Addr)
  /-- the dict of an exception -/
  | xd (fs : List (Str × V))
  /-- a bound method, f of x -/
  | met (f x : Addr)
  /-- a range object lo, lo + 1, .. below hi -/
  | rng (lo hi : Int)
  /-- a thing that is known to the object (the script; a dict while a loop walks it): read, never written while it is so -/
  | frz (o : Obj) (u : HO)
  /-- a code object's table -/
  | tbl (ps : Array Value)
  /-- any other thing, by what is true of its one object (a def of one's own: SetO a S n := HO.ext fun h => ..) -/
  | ext (φ : Heap → Prop)

abbrev Hp := Addr → Option HO
def upd (H : Hp) (a : Addr) (o : HO) : Hp := fun b => if b = a then some o else H b
theorem upd_same {H : Hp} {a : Addr} {o : HO} : upd H a o a = some o := by unfold upd; rw [if_pos rfl]
theorem upd_ne {H : Hp} {a b : Addr} {o : HO} (h : b ≠ a) : upd H a o b = H b := by unfold upd; rw [if_neg h]
theorem ne_of_none {H : Hp} {a b : Addr} {o : HO} (h : H a = some o) (h' : H b = none) : a ≠ b := by
  intro e; subst e; rw [h] at h'; cases h'

section
variable (P : Program) (w : World)
def ObjOk (H : Hp) (h : Heap) (a : Addr) : HO → Prop
  | .lst xs => xs.length ≤ sizeLine ∧ ∃ (its : List Value) (n : Nat), Vals xs its ∧ h.get? a = some { cls := .type "list", data := .seq its.toArray n }
  | .tup xs => xs.length ≤ sizeLine ∧ ∃ its : List Value, Vals xs its ∧ IsTup h a its.toArray
  | .dK kvs => kvs.length ≤ sizeLine ∧ (a == sysModules) = false ∧ ∃ vs, KV kvs vs ∧ h.DictOf (mixKind P w) a vs
  | .dT kvs => kvs.length ≤ sizeLine ∧ (a == sysModules) = false ∧ ∃ xs : List (List Key × Addr × Value),
      Paired (fun (p : List Key × V) (q : List Key × Addr × Value) => p.1 = q.1 ∧ H q.2.1 = some (.tup (p.1.map kV)) ∧ RelV p.2 q.2.2) kvs xs ∧
      ∃ o es ep, h.get? a = some o ∧ o.ExactDict ∧ o.data = .dict es ep ∧ es.toList = xs.map (entryOfKey (tupleKind (mixKind P w))) ∧ (xs.map (·.1)).Nodup
  | .set S n => h.SetOf (intKind P w) a S n
  | .ins C dx fs => H dx = some (.own a) ∧ fs.length ≤ 1000 ∧ dx ≠ a ∧ h.get? a = some (PySem.W.instObj C dx) ∧
      ∃ mA, h.Ns1 dx mA ∧ (∀ f, RelO (fs.lookup f) (mA f)) ∧ PySem.Within mA (fs.map (·.1))
  | .own _ => ∃ o, h.get? a = some o
  | .xd fs => ∃ mA, h.Ns1 a mA ∧ ∀ f, RelO (fs.lookup f) (mA f)
  | .rng lo hi => ∃ t u v, h.get? a = some { cls := .type "range", data := .fields #[.int lo t, .int hi u, .int 1 v] }
  | .frz o u => h.get? a = some o ∧ ObjOk H h a u
  | .tbl ps => h.get? a = some { cls := .none, data := .fields ps }
  | .met f x => h.get? a = some (PySem.W.methodObj (.ref f) (.ref x))
  | .ext φ => φ h ∧ (∃ o, h.get? a = some o) ∧ ∀ h1 h2 : Heap, φ h1 → (∀ o, h1.get? a = some o → h2.get? a = some o) → φ h2
/-- the abstract heap is held -/
def HOk (H : Hp) (h : Heap) : Prop := ∀ a o, H a = some o → ObjOk P w H h a o
end

section
variable {P : Program} {w : World} {H H' : Hp} {h h' : Heap} {a : Addr} {o : HO}
theorem ObjOk.lt (x : ObjOk P w H h a o) : a < h.objs.size := by
  cases o with
  | lst xs => obtain ⟨_, _, _, _, e⟩ := x; exact Heap.lt_size e
  | tup xs => obtain ⟨_, _, _, p⟩ := x; exact p.lt
  | dK kvs => obtain ⟨_, _, _, _, o, _, _, e, _⟩ := x; exact Heap.lt_size e
  | dT kvs => obtain ⟨_, _, _, _, o, _, _, e, _⟩ := x; exact Heap.lt_size e
  | set S n => obtain ⟨o, _, _, _, e, _⟩ := x; exact Heap.lt_size e
  | ins C dx fs => obtain ⟨_, _, _, e, _⟩ := x; exact Heap.lt_size e
  | own y => obtain ⟨_, e⟩ := x; exact Heap.lt_size e
  | xd fs => obtain ⟨_, ⟨_, _, _, e, _⟩, _⟩ := x; exact Heap.lt_size e
  | rng lo hi => obtain ⟨_, _, _, e⟩ := x; exact Heap.lt_size e
  | frz ob u => obtain ⟨e, _⟩ := x; exact Heap.lt_size e
  | tbl ps => exact Heap.lt_size (show h.get? a = some _ from x)
  | met f y => exact Heap.lt_size (show h.get? a = some _ from x)
  | ext φ => obtain ⟨_, ⟨_, e⟩, _⟩ := x; exact Heap.lt_size e
theorem Paired.mapP {α β : Type} {F G : α → β → Prop} : ∀ {l₁ : List α} {l₂ : List β}, Paired F l₁ l₂ → (∀ a b, F a b → G a b) → Paired G l₁ l₂
  | _, _, .nil, _ => .nil
  | _, _, .cons r t, f => .cons (f _ _ r) (Paired.mapP t f)
/-- what an object's description leans on: its own object, its own dict, the tuples -/
theorem ObjOk.stay (x : ObjOk P w H h a o) (k : ∀ b u, (b = a ∨ H b = some (.own a)) → h.get? b = some u → h'.get? b = some u)
    (ho : ∀ b, H b = some (.own a) → H' b = some (.own a)) (ht : ∀ b xs, H b = some (.tup xs) → H' b = some (.tup xs)) : ObjOk P w H' h' a o := by
  induction o with
  | lst xs => obtain ⟨z, its, n, r, e⟩ := x; exact ⟨z, its, n, r, k _ _ (.inl rfl) e⟩
  | tup xs => obtain ⟨z, its, r, ob, e, c⟩ := x; exact ⟨z, its, r, ob, k _ _ (.inl rfl) e, c⟩
  | dK kvs => obtain ⟨z, y, vs, r, ob, es, ep, e, c⟩ := x; exact ⟨z, y, vs, r, ob, es, ep, k _ _ (.inl rfl) e, c⟩
  | dT kvs =>
    obtain ⟨z, y, xs, r, ob, es, ep, e, c⟩ := x
    exact ⟨z, y, xs, Paired.mapP r fun p q z => ⟨z.1, ht _ _ z.2.1, z.2.2⟩, ob, es, ep, k _ _ (.inl rfl) e, c⟩
  | set S n => obtain ⟨ob, es, ep, t, e, c⟩ := x; exact ⟨ob, es, ep, t, k _ _ (.inl rfl) e, c⟩
  | ins C dx fs =>
    obtain ⟨d, z, ne, e, mA, ⟨od, es, ep, e2, c⟩, r⟩ := x
    exact ⟨ho _ d, z, ne, k _ _ (.inl rfl) e, mA, ⟨od, es, ep, k _ _ (.inr d) e2, c⟩, r⟩
  | own y => obtain ⟨ob, e⟩ := x; exact ⟨ob, k _ _ (.inl rfl) e⟩
  | xd fs => obtain ⟨mA, ⟨od, es, ep, e, c⟩, r⟩ := x; exact ⟨mA, ⟨od, es, ep, k _ _ (.inl rfl) e, c⟩, r⟩
  | rng lo hi => obtain ⟨t, u, v, e⟩ := x; exact ⟨t, u, v, k _ _ (.inl rfl) e⟩
  | frz ob u ih => obtain ⟨e, q⟩ := x; exact ⟨k _ _ (.inl rfl) e, ih q⟩
  | tbl ps =>
    have e : h.get? a = some { cls := .none, data := .fields ps } := x
    show h'.get? a = some { cls := .none, data := .fields ps }
    exact k a _ (.inl rfl) e
  | met f y =>
    have e : h.get? a = some (PySem.W.methodObj (.ref f) (.ref y)) := x
    show h'.get? a = some (PySem.W.methodObj (.ref f) (.ref y))
    exact k a _ (.inl rfl) e
  | ext φ => obtain ⟨p, ⟨o, e⟩, st⟩ := x; exact ⟨st _ _ p fun o q => k _ _ (.inl rfl) q, ⟨o, k _ _ (.inl rfl) e⟩, st⟩
theorem HOk.lt (x : HOk P w H h) (e : H a = some o) : a < h.objs.size := (x a o e).lt
theorem HOk.fresh (x : HOk P w H h) (e : h.objs.size ≤ a) : H a = none := by
  cases q : H a with
  | none => rfl
  | some u => exact absurd (Nat.lt_of_lt_of_le (x.lt q) e) (Nat.lt_irrefl _)
/-- every object of the heap is kept -/
theorem HOk.kept (x : HOk P w H h) (k : ∀ b u, h.get? b = some u → h'.get? b = some u) : HOk P w H h' := fun a o e =>
  (x a o e).stay (fun b u _ q => k b u q) (fun _ q => q) fun _ _ q => q
/-- a new object is laid and tracked -/
theorem HOk.laid (x : HOk P w H h) (k : ∀ b u, h.get? b = some u → h'.get? b = some u) (hp : h.objs.size ≤ a) (new : ObjOk P w (upd H a o) h' a o) : HOk P w (upd H a o) h' := fun b u e => by
  have hn := x.fresh hp
  by_cases hb : b = a
  · subst hb; rw [upd_same] at e; cases e; exact new
  · rw [upd_ne hb] at e
    exact (x b u e).stay (fun c v _ q => k c v q) (fun c q => by rw [upd_ne (ne_of_none q hn)]; exact q) fun c xs q => by rw [upd_ne (ne_of_none q hn)]; exact q
end

/-- what may be read as u: it is u, or a known u -/
def Rd (H : Hp) (a : Addr) (u : HO) : Prop := H a = some u ∨ ∃ o, H a = some (.frz o u)
theorem Rd.ok {P : Program} {w : World} {H : Hp} {h : Heap} {a : Addr} {u : HO} (r : Rd H a u) (x : HOk P w H h) : ObjOk P w H h a u := by
  rcases r with r | ⟨o, r⟩
  · exact x a u r
  · obtain ⟨_, q⟩ := x a _ r
    exact q
/-- what may be written -/
def Mut : Option HO → Prop
  | some (.lst _) => True
  | some (.dK _) => True
  | some (.dT _) => True
  | some (.set _ _) => True
  | some (.ins _ _ _) => True
  | some (.ext _) => True
  | _ => False
section
variable {P : Program} {w : World} {H : Hp} {h h' : Heap} {x e : Addr} {o' : HO}
/-- the object at e is changed: x itself, or the dict of the instance x -/
theorem HOk.write (ok : HOk P w H h) (mu : Mut (H x)) (he : e = x ∨ H e = some (.own x)) (k : ∀ b u, b ≠ e → h.get? b = some u → h'.get? b = some u) (heo : ∃ u, h'.get? e = some u)
    (new : ObjOk P w (upd H x o') h' x o') : HOk P w (upd H x o') h' := fun b u q => by
  have nown : ∀ c y, H c = some (.own y) → c ≠ x := fun c y r z => by subst z; rw [r] at mu; exact mu
  have ntup : ∀ c xs, H c = some (.tup xs) → c ≠ x := fun c xs r z => by subst z; rw [r] at mu; exact mu
  by_cases hb : b = x
  · subst hb; rw [upd_same] at q; cases q; exact new
  · rw [upd_ne hb] at q
    by_cases hbe : b = e
    · have q' : H b = some (.own x) := by
        rcases he with z | z
        · exact absurd (hbe.trans z) hb
        · rw [hbe]; exact z
      rw [q] at q'; cases q'
      obtain ⟨v, hv⟩ := heo
      exact ⟨v, by rw [hbe]; exact hv⟩
    · refine (ok b u q).stay (fun c v hc r => k c v ?_ r) (fun c r => by rw [upd_ne (nown c b r)]; exact r) fun c xs r => by rw [upd_ne (ntup c xs r)]; exact r
      rcases hc with rfl | hc
      · exact hbe
      · rintro rfl
        rcases he with z | z
        · exact nown c b hc z
        · rw [hc] at z; cases z; exact hb rfl
end

/-! ### kept unless tracked; of the frames at fs (the callers') the slots may change (an exception that passes writes there); of the records at ex (iterators) nothing is said -/
structure Un (fs ex : List Addr) (H H' : Hp) (h h' : Heap) : Prop where
  keep : ∀ b o, h.get? b = some o → H b = none → b ∉ fs → b ∉ ex → h'.get? b = some o
  slot : ∀ b o, h.get? b = some o → H b = none → b ∈ fs → b ∉ ex → ∃ sl, h'.get? b = some { o with slots := sl }
  free : ∀ b o, h.get? b = some o → H b = none → b ∉ ex → H' b = none
  there : ∀ b o, h.get? b = some o → b ∉ ex → ∃ o', h'.get? b = some o'
  tups : ∀ b xs, H b = some (.tup xs) → H' b = some (.tup xs)
  frzs : ∀ b o u, H b = some (.frz o u) → H' b = some (.frz o u)
  tbls : ∀ b ps, H b = some (.tbl ps) → ∃ more, H' b = some (.tbl (ps ++ more))
section
variable {fs fs' ex ex' : List Addr} {H H1 H2 : Hp} {h h1 h2 h' : Heap} {a x e : Addr} {o : HO}
theorem Un.any (u : Un fs ex H H1 h h1) {b : Addr} {ob : Obj} (q : h.get? b = some ob) (n : H b = none) (hx : b ∉ ex) : ∃ sl, h1.get? b = some { ob with slots := sl } := by
  by_cases hb : b ∈ fs
  · exact u.slot b ob q n hb hx
  · exact ⟨ob.slots, u.keep b ob q n hb hx⟩
theorem Un.kept (k : ∀ b u, h.get? b = some u → h'.get? b = some u) : Un fs ex H H h h' :=
  ⟨fun b ob q _ _ _ => k b ob q, fun b ob q _ _ _ => ⟨ob.slots, k b ob q⟩, fun _ _ _ n _ => n, fun b ob q _ => ⟨ob, k b ob q⟩, fun _ _ q => q, fun _ _ _ q => q, fun _ ps q => ⟨#[], by rw [q]; simp⟩⟩
theorem Un.refl : Un fs ex H H h h := Un.kept fun _ _ q => q
theorem Un.laid (k : ∀ b u, h.get? b = some u → h'.get? b = some u) (hp : h.objs.size ≤ a) (hn : H a = none) : Un fs ex H (upd H a o) h h' where
  keep := fun b u q _ _ _ => k b u q
  slot := fun b u q _ _ _ => ⟨u.slots, k b u q⟩
  free := fun b u q n _ => by rw [upd_ne (Nat.ne_of_lt (Nat.lt_of_lt_of_le (Heap.lt_size q) hp))]; exact n
  there := fun b u q _ => ⟨u, k b u q⟩
  tups := fun b xs q => by rw [upd_ne (ne_of_none q hn)]; exact q
  frzs := fun b u xs q => by rw [upd_ne (ne_of_none q hn)]; exact q
  tbls := fun b ps q => ⟨#[], by rw [upd_ne (ne_of_none q hn), q]; simp⟩
theorem Un.write (mu : Mut (H x)) (he : e = x ∨ H e = some (.own x)) (k : ∀ b u, b ≠ e → h.get? b = some u → h'.get? b = some u) (heo : ∃ u, h'.get? e = some u) : Un fs ex H (upd H x o) h h' := by
  have hx : ∀ b, H b = none → b ≠ x := fun b n z => by subst z; rw [n] at mu; exact mu
  have hb : ∀ b, H b = none → b ≠ e := fun b n z => by
    subst z
    rcases he with r | r
    · exact hx b n r
    · rw [n] at r; cases r
  have hm : ∀ b u, H b = some u → ¬ Mut (some u) → b ≠ x := fun b u q nm z => by subst z; rw [q] at mu; exact nm mu
  refine ⟨fun b u q n _ _ => k b u (hb b n) q, fun b u q n _ _ => ⟨u.slots, k b u (hb b n) q⟩, fun b u q n _ => by rw [upd_ne (hx b n)]; exact n, fun b u q _ => ?_,
    fun b xs q => by rw [upd_ne (hm b _ q fun z => z)]; exact q, fun b u xs q => by rw [upd_ne (hm b _ q fun z => z)]; exact q, fun b ps q => ⟨#[], by rw [upd_ne (hm b _ q fun z => z), q]; simp⟩⟩
  by_cases hbe : b = e
  · subst hbe; exact heo
  · exact ⟨u, k b u hbe q⟩
end

/-! ### the heap without what is tracked -/
def trk (h : Heap) (H : Hp) : List Addr := (List.range h.objs.size).filter fun a => (H a).isSome
def hidT (h : Heap) (H : Hp) : Heap := PySem.W.hideAll h (trk h H)
theorem hidT_size (h : Heap) (H : Hp) : (hidT h H).objs.size = h.objs.size := PySem.W.hideAll_size _ _
theorem hidT_get {h : Heap} {H : Hp} {b : Addr} {o : Obj} (e : h.get? b = some o) (n : H b = none) : (hidT h H).get? b = some o :=
  PySem.W.hideAll_get _ e fun hm => by
    have q : (H b).isSome = true := (List.mem_filter.mp hm).2
    rw [n] at q; simp at q
theorem of_hidT {h : Heap} {H : Hp} {b : Addr} {o : Obj} (e : (hidT h H).get? b = some o) : h.get? b = some o ∧ H b = none := by
  have e' : h.get? b = some o := PySem.W.of_hideAll (trk h H) e
  refine ⟨e', ?_⟩
  cases q : H b with
  | none => rfl
  | some x =>
    have hm : b ∈ trk h H := List.mem_filter.mpr ⟨List.mem_range.mpr (Heap.lt_size e'), by simp [q]⟩
    have z : (hidT h H).get? b = none := PySem.W.hideAll_none (trk h H) hm
    rw [z] at e; cases e

/-! ### OpenK's ledger, filled with every new object but one -/
end L2

namespace L2
open PySem PySem.Spec PyProof.Rows

/-- the module's facts, over the base: the heap at the law's entry without what is tracked there -/
structure Mod (K : PySem.W.Frag) (mg : Str → Option Value) (base : Heap) : Prop where
  kin : K.In base
  glob : base.Ns mainGlobals mg
  blt : ∃ mb, base.Ns builtinsNs mb ∧ ∀ x : Str, x ≠ "__name__" → mb x = bootBuiltins x
  nolimit : base.NoLimit

/-- the context: a def's body (or a comprehension's block) running. base: fixed through the whole law; s₀, H₀: the entry; outer: the frames whose slots others may change (a def's callers); stack: all frames that run;
   ex: iterators that were made ahead of the entry and are walked here (a comprehension's); fn: the names whose cells were made at the entry (a def: all; a comprehension's block: its own); calm: not within an except suite; pn: pins that every state bears; xe: what is wanted of an exception that leaves the code -/
structure Cx where
  prog : Program
  w : World
  K : PySem.W.Frag
  mg : Str → Option Value
  base : Heap
  A : Around
  N : List Str
  s₀ : Shared
  H₀ : Hp
  env : Env
  outer : List Env
  stack : List Env
  ex : List Addr
  fn : Str → Bool
  calm : Bool
  pn : List (Addr × Obj)
  xe : Value → Shared → Prop
/-- the callers' frames -/
def frs (l : List Env) : List Addr := l.filterMap (·.frame)
abbrev Cx.fs (X : Cx) : List Addr := frs X.outer

def Vis (sc : Scope) (x : Str) : Prop := sc.names.lookup x = some .local ∨ sc.names.lookup x = some .cell ∨ sc.names.lookup x = some .free
def Loc (sc : Scope) (x : Str) : Prop := sc.names.lookup x = some .local ∨ sc.names.lookup x = some .cell
def Look (env : Env) (h : Heap) (m : Str → Option Value) (x : Str) (u : Value) : Prop :=
  (env.kindOf x = some .local ∧ m x = some u) ∨ ((env.kindOf x = some .cell ∨ env.kindOf x = some .free) ∧ ∃ c, env.cells.lookup x = some c ∧ h.IsCell c (some u))

structure Cx.Ok (X : Cx) : Prop where
  mod : Mod X.K X.mg X.base
  kind : X.env.scope.kind = .function
  glob : X.env.globals = mainGlobals
  blt : X.env.builtins = builtinsNs
  above : X.s₀.heap.objs.size ≤ X.env.locals
  inj : ∀ x y c, X.env.cells.lookup x = some c → X.env.cells.lookup y = some c → x = y
  has : ∀ x, (X.env.kindOf x = some .cell ∨ X.env.kindOf x = some .free) → ∃ c, X.env.cells.lookup x = some c
  cab : ∀ x c, X.fn x = true → X.env.cells.lookup x = some c → X.s₀.heap.objs.size ≤ c
  hd : X.calm = true → X.A.handled = none
  frames : X.A.frames = some X.stack
  stk : X.stack = X.outer ∨ (X.stack = X.env :: X.outer ∧ X.env.frame = some X.env.locals)
  exf : ∀ b ∈ X.ex, b ≠ X.env.locals ∧ ∀ x c, X.env.cells.lookup x = some c → c ≠ b
  bs : ∀ b o, X.base.get? b = some o → X.s₀.heap.get? b = some o ∧ X.H₀ b = none
  bsz : X.base.objs.size ≤ X.s₀.heap.objs.size
  noex : ∀ b o, X.base.get? b = some o → b ∉ X.ex
  exfs : ∀ b ∈ X.ex, b ∉ X.fs
  funs : X.s₀.heap.FunFrames X.base X.outer
  frf : ∀ b ∈ X.fs, X.H₀ b = none

structure Inv (X : Cx) (pins : List (Addr × Obj)) (σ : List (Option V)) (H : Hp) (s : Shared) : Prop where
  ok : X.Ok
  os : s.os = X.s₀.os
  bare : AllBare s.gens
  base : Un X.fs X.ex X.H₀ H X.s₀.heap s.heap
  loc : ∃ m, s.heap.Ns X.env.locals m ∧ ∀ (i : Nat) (x : Str) (v : V), X.N[i]? = some x → σ[i]? = some (some v) → Vis X.env.scope x → ∃ u, RelV v u ∧ Look X.env s.heap m x u
  cell : ∀ x c, X.env.cells.lookup x = some c → ∃ v, s.heap.IsCell c v
  free : H X.env.locals = none
  freeC : ∀ x c, X.env.cells.lookup x = some c → H c = none
  pin : ∀ p ∈ X.pn ++ pins, s.heap.get? p.1 = some p.2 ∧ H p.1 = none ∧ p.1 ≠ X.env.locals ∧ p.1 ∉ X.fs ∧ ∀ v, p.2.data ≠ .cell v
  hok : HOk X.prog X.w H s.heap
  len : σ.length = X.N.length

section
variable {X : Cx} {pins : List (Addr × Obj)} {σ : List (Option V)} {H H' : Hp} {s : Shared} {h' : Heap}

theorem Cx.Ok.nofr (ok : X.Ok) {b : Addr} {o : Obj} (e : X.base.get? b = some o) : b ∉ X.fs := fun hb => by
  have := (ok.funs.mem hb).1
  rw [e] at this; cases this
theorem Inv.bs (I : Inv X pins σ H s) : ∀ b o, X.base.get? b = some o → s.heap.get? b = some o ∧ H b = none := fun b o e =>
  ⟨I.base.keep b o (I.ok.bs b o e).1 (I.ok.bs b o e).2 (I.ok.nofr e) (I.ok.noex b o e), I.base.free b o (I.ok.bs b o e).1 (I.ok.bs b o e).2 (I.ok.noex b o e)⟩
theorem Inv.bk (I : Inv X pins σ H s) : ∀ b o, X.base.get? b = some o → s.heap.get? b = some o := fun b o e => (I.bs b o e).1
theorem Inv.mod (I : Inv X pins σ H s) : Mod X.K X.mg X.base := I.ok.mod
theorem Inv.kIn (I : Inv X pins σ H s) : X.K.In s.heap := I.ok.mod.kin.keeps I.bk
theorem Inv.lt (I : Inv X pins σ H s) : X.env.locals < s.heap.objs.size := let ⟨_, hn, _⟩ := I.loc; hn.lt
theorem Inv.sz (I : Inv X pins σ H s) : X.s₀.heap.objs.size ≤ s.heap.objs.size := Nat.le_trans I.ok.above (Nat.le_of_lt I.lt)
theorem Inv.nofs (I : Inv X pins σ H s) {a : Addr} (h : s.heap.objs.size ≤ a) : a ∉ X.fs := fun hb => by
  obtain ⟨_, o, ho, _⟩ := I.ok.funs.mem hb
  exact absurd (Nat.lt_of_lt_of_le (Heap.lt_size ho) (Nat.le_trans I.sz h)) (Nat.lt_irrefl _)
theorem Inv.cne (I : Inv X pins σ H s) : ∀ x c, X.env.cells.lookup x = some c → c ≠ X.env.locals := fun x c e z => by
  obtain ⟨v, o, ho, hd⟩ := I.cell x c e
  obtain ⟨m, ⟨o', es, ep, ho', hd', _⟩, _⟩ := I.loc
  rw [z, ho'] at ho; cases ho; rw [hd'] at hd; cases hd
theorem Inv.funs (I : Inv X pins σ H s) : s.heap.FunFrames X.base X.outer := by
  have all : ∀ (l : List Env), (∀ b ∈ frs l, b ∈ X.fs) → X.s₀.heap.FunFrames X.base l → s.heap.FunFrames X.base l := by
    intro l
    induction l with
    | nil => intro _ _; trivial
    | cons env r ih =>
      intro hs hl
      obtain ⟨hk, ⟨L, o, hf, hn, ho, hd⟩, hr⟩ := hl
      have hL : L ∈ X.fs := hs L (by unfold frs; rw [List.filterMap_cons, hf]; exact List.mem_cons_self)
      obtain ⟨sl, e⟩ := I.base.slot L o ho (I.ok.frf L hL) hL fun z => I.ok.exfs L z hL
      exact ⟨hk, ⟨L, _, hf, hn, e, hd⟩, ih (fun b hb => hs b (by unfold frs; rw [List.filterMap_cons, hf]; exact List.mem_cons_of_mem _ hb)) hr⟩
  exact all X.outer (fun _ hb => hb) I.ok.funs

/-- the frames that run, for a call -/
theorem Inv.stack (I : Inv X pins σ H s) : s.heap.FunFrames X.base X.stack := by
  rcases I.ok.stk with e | ⟨e, hf⟩
  · rw [e]; exact I.funs
  · rw [e]
    obtain ⟨m, hn, _⟩ := I.loc
    refine .cons (by rw [I.ok.kind]; decide) hf hn ?_ I.funs
    exact Heap.get?_none_of_le (Nat.le_trans I.ok.bsz I.ok.above)
theorem Inv.stkSub (I : Inv X pins σ H s) : ∀ b ∈ frs X.stack, b ∈ X.env.locals :: X.fs := fun b hb => by
  rcases I.ok.stk with e | ⟨e, hf⟩
  · rw [e] at hb; exact List.mem_cons_of_mem _ hb
  · rw [e] at hb
    unfold frs at hb
    rw [List.filterMap_cons, hf] at hb
    exact hb
theorem Inv.stkFree (I : Inv X pins σ H s) : ∀ b ∈ frs X.stack, H b = none := fun b hb => by
  rcases List.mem_cons.mp (I.stkSub b hb) with e | hb
  · rw [e]; exact I.free
  · obtain ⟨_, o, ho, _⟩ := I.ok.funs.mem hb
    exact I.base.free b o ho (I.ok.frf b hb) fun z => I.ok.exfs b z hb

/-- THE STEP: the untracked objects but the frame and the records at ch are kept (the callers' frames up to slots), the frame's map is kept, the new abstract heap is held -/
theorem Inv.step {g' : Array GenState} {t' : Nat} {d' : Drawn} {ch : List Addr} (I : Inv X pins σ H s)
    (hch : ∀ b ∈ ch, (b ∈ X.ex ∨ X.s₀.heap.objs.size ≤ b) ∧ b ≠ X.env.locals ∧ (∀ x c, X.env.cells.lookup x = some c → c ≠ b) ∧ ∀ p ∈ X.pn ++ pins, p.1 ≠ b)
    (keep : ∀ b o, b ≠ X.env.locals → b ∉ X.fs → b ∉ ch → s.heap.get? b = some o → H b = none → h'.get? b = some o)
    (slot : ∀ b o, b ≠ X.env.locals → b ∈ X.fs → b ∉ ch → s.heap.get? b = some o → H b = none → ∃ sl, h'.get? b = some { o with slots := sl }) (free : ∀ b o, b ∉ ch → s.heap.get? b = some o → H b = none → H' b = none)
    (there : ∀ b o, b ∉ ch → s.heap.get? b = some o → ∃ o', h'.get? b = some o')
    (tups : ∀ b xs, H b = some (.tup xs) → H' b = some (.tup xs)) (frzs : ∀ b o u, H b = some (.frz o u) → H' b = some (.frz o u)) (tbls : ∀ b ps, H b = some (.tbl ps) → ∃ more, H' b = some (.tbl (ps ++ more)))
    (ns : ∀ m, s.heap.Ns X.env.locals m → h'.Ns X.env.locals m) (hok : HOk X.prog X.w H' h') (hg : AllBare g') :
    Inv X pins σ H' { s with heap := h', gens := g', drawn := d', toks := t' } := by
  have neL : ∀ b o, X.s₀.heap.get? b = some o → b ≠ X.env.locals := fun b o e => Nat.ne_of_lt (Nat.lt_of_lt_of_le (Heap.lt_size e) I.ok.above)
  have neC : ∀ b o, X.s₀.heap.get? b = some o → b ∉ X.ex → b ∉ ch := fun b o e hx hb => by
    rcases (hch b hb).1 with z | z
    · exact hx z
    · exact absurd (Nat.lt_of_lt_of_le (Heap.lt_size e) z) (Nat.lt_irrefl _)
  have cellK : ∀ x c, X.env.cells.lookup x = some c → ∀ v, s.heap.IsCell c v → h'.IsCell c v := fun x c e v ⟨o, ho, hd⟩ => by
    have nch : c ∉ ch := fun z => (hch c z).2.2.1 x c e rfl
    by_cases hc : c ∈ X.fs
    · obtain ⟨sl, q⟩ := slot c o (I.cne x c e) hc nch ho (I.freeC x c e)
      exact ⟨_, q, hd⟩
    · exact ⟨o, keep c o (I.cne x c e) hc nch ho (I.freeC x c e), hd⟩
  refine ⟨I.ok, I.os, hg, ⟨fun b o e n hb hx => ?_, fun b o e n hb hx => ?_, fun b o e n hx => ?_, fun b o e hx => ?_, fun b xs e => tups b xs (I.base.tups b xs e), fun b o xs e => frzs b o xs (I.base.frzs b o xs e), fun b ps e => ?_⟩, ?_, fun x c e => ?_, ?_, fun x c e => ?_, fun p hp => ?_, hok, I.len⟩
  · exact keep b o (neL b o e) hb (neC b o e hx) (I.base.keep b o e n hb hx) (I.base.free b o e n hx)
  · obtain ⟨sl, e1⟩ := I.base.slot b o e n hb hx
    obtain ⟨sl', e2⟩ := slot b _ (neL b o e) hb (neC b o e hx) e1 (I.base.free b o e n hx)
    exact ⟨sl', e2⟩
  · obtain ⟨o', e1⟩ := I.base.there b o e hx
    exact free b o' (neC b o e hx) e1 (I.base.free b o e n hx)
  · obtain ⟨o', e1⟩ := I.base.there b o e hx
    exact there b o' (neC b o e hx) e1
  · obtain ⟨m1, e1⟩ := I.base.tbls b ps e
    obtain ⟨m2, e2⟩ := tbls b _ e1
    exact ⟨m1 ++ m2, by rw [e2, Array.append_assoc]⟩
  · obtain ⟨m, hn, hl⟩ := I.loc
    refine ⟨m, ns m hn, fun i x v e1 e2 e3 => ?_⟩
    obtain ⟨u, r, l⟩ := hl i x v e1 e2 e3
    refine ⟨u, r, ?_⟩
    rcases l with l | ⟨k, c, e, z⟩
    · exact .inl l
    · exact .inr ⟨k, c, e, cellK x c e _ z⟩
  · obtain ⟨v, z⟩ := I.cell x c e
    exact ⟨v, cellK x c e v z⟩
  · obtain ⟨m, ⟨o, _, _, ho, _⟩, _⟩ := I.loc
    exact free _ o (fun z => (hch _ z).2.1 rfl) ho I.free
  · obtain ⟨v, o, ho, hd⟩ := I.cell x c e
    exact free c o (fun z => (hch c z).2.2.1 x c e rfl) ho (I.freeC x c e)
  · obtain ⟨e, n, ne, nf, d⟩ := I.pin p hp
    have nch : p.1 ∉ ch := fun z => (hch p.1 z).2.2.2 p hp rfl
    exact ⟨keep p.1 p.2 ne nf nch e n, free p.1 p.2 nch e n, ne, nf, d⟩
/-- .. where the frame's own object is kept too -/
theorem Inv.un {t' : Nat} (I : Inv X pins σ H s) (u : Un X.fs [] H H' s.heap h') (hok : HOk X.prog X.w H' h') : Inv X pins σ H' { s with heap := h', toks := t' } := by
  obtain ⟨m, ⟨o, es, ep, ho, r⟩, _⟩ := id I.loc
  obtain ⟨sl, hL⟩ := u.any ho I.free (by simp)
  exact I.step (g' := s.gens) (d' := s.drawn) (ch := []) (fun _ z => nomatch z) (fun b o _ hb _ e n => u.keep b o e n hb (by simp)) (fun b o _ hb _ e n => u.slot b o e n hb (by simp)) (fun b o _ e n => u.free b o e n (by simp)) (fun b o _ e => u.there b o e (by simp)) u.tups u.frzs u.tbls (fun m' hm => by
    obtain ⟨o', es', ep', ho', r'⟩ := hm
    rw [ho] at ho'; cases ho'
    exact ⟨_, es', ep', hL, r'⟩) hok I.bare
/-- behind a call (or a comprehension's block): the slots of this frame may have changed too, the records at ch may have turned -/
theorem Inv.call {g' : Array GenState} {t' : Nat} {d' : Drawn} {ch : List Addr} (I : Inv X pins σ H s) (u : Un (frs X.stack) ch H H' s.heap h') (hok : HOk X.prog X.w H' h') (hg : AllBare g')
    (hch : ∀ b ∈ ch, (b ∈ X.ex ∨ X.s₀.heap.objs.size ≤ b) ∧ b ≠ X.env.locals ∧ (∀ x c, X.env.cells.lookup x = some c → c ≠ b) ∧ ∀ p ∈ X.pn ++ pins, p.1 ≠ b) :
    Inv X pins σ H' { s with heap := h', gens := g', drawn := d', toks := t' } := by
  obtain ⟨m, ⟨o, es, ep, ho, r⟩, _⟩ := id I.loc
  obtain ⟨sl, hL⟩ := u.any ho I.free fun z => (hch _ z).2.1 rfl
  exact I.step (ch := ch) hch (fun b o hL hb hc e n => u.keep b o e n (fun z => (List.mem_cons.mp (I.stkSub b z)).elim hL hb) hc) (fun b o _ _ hc e n => u.any e n hc) (fun b o hc e n => u.free b o e n hc) (fun b o hc e => u.there b o e hc) u.tups u.frzs u.tbls (fun m' hm => by
    obtain ⟨o', es', ep', ho', r'⟩ := hm
    rw [ho] at ho'; cases ho'
    exact ⟨_, es', ep', hL, r'⟩) hok hg
/-- an untracked record of ours (an iterator) has turned -/
theorem Inv.turned {t' : Nat} {it : Addr} (I : Inv X pins σ H s) (k : ∀ b o, b ≠ it → s.heap.get? b = some o → h'.get? b = some o) (hn : H it = none) (hL : it ≠ X.env.locals)
    (h1 : it ∈ X.ex ∨ X.s₀.heap.objs.size ≤ it) (h2 : ∀ x c, X.env.cells.lookup x = some c → c ≠ it) (h3 : ∀ p ∈ X.pn ++ pins, p.1 ≠ it) : Inv X pins σ H { s with heap := h', toks := t' } := by
  have nit : ∀ b u, H b = some u → b ≠ it := fun b u e z => by rw [z, hn] at e; cases e
  refine I.step (g' := s.gens) (d' := s.drawn) (ch := [it]) (fun b hb => ?_) (fun b o _ _ hc e _ => k b o (fun z => hc (by simp [z])) e) (fun b o _ _ hc e _ => ⟨o.slots, k b o (fun z => hc (by simp [z])) e⟩) (fun _ _ _ _ n => n)
    (fun b o hc e => ⟨o, k b o (fun z => hc (by simp [z])) e⟩) (fun _ _ e => e) (fun _ _ _ e => e) (fun b ps e => ⟨#[], by rw [e]; simp⟩) (fun m hm => ?_) (fun b u e => ?_) I.bare
  · have e : b = it := by simpa using hb
    subst e
    exact ⟨h1, hL, h2, h3⟩
  · obtain ⟨o, es, ep, ho, r⟩ := hm
    exact ⟨o, es, ep, k _ o (Ne.symm hL) ho, r⟩
  · refine (I.hok b u e).stay (fun c v hc q => k c v ?_ q) (fun _ q => q) fun _ _ q => q
    rcases hc with z | z
    · rw [z]; exact nit b u e
    · exact nit c _ z
theorem Inv.tok (I : Inv X pins σ H s) (t : Nat) : Inv X pins σ H { s with toks := t } := I.un (h' := s.heap) (t' := t) Un.refl I.hok
/-- all objects kept -/
theorem Inv.kept {t' : Nat} (I : Inv X pins σ H s) (k : ∀ b u, s.heap.get? b = some u → h'.get? b = some u) : Inv X pins σ H { s with heap := h', toks := t' } := I.un (Un.kept k) (I.hok.kept k)
/-- a new object laid and tracked -/
theorem Inv.laid {a : Addr} {o : HO} {t' : Nat} (I : Inv X pins σ H s) (k : ∀ b u, s.heap.get? b = some u → h'.get? b = some u) (hp : s.heap.objs.size ≤ a) (new : ObjOk X.prog X.w (upd H a o) h' a o) :
    Inv X pins σ (upd H a o) { s with heap := h', toks := t' } := I.un (Un.laid k hp (I.hok.fresh hp)) (I.hok.laid k hp new)
/-- an object written -/
theorem Inv.write {x e : Addr} {o : HO} {t' : Nat} (I : Inv X pins σ H s) (mu : Mut (H x)) (he : e = x ∨ H e = some (.own x)) (k : ∀ b u, b ≠ e → s.heap.get? b = some u → h'.get? b = some u) (heo : ∃ u, h'.get? e = some u)
    (new : ObjOk X.prog X.w (upd H x o) h' x o) : Inv X pins σ (upd H x o) { s with heap := h', toks := t' } := I.un (Un.write mu he k heo) (I.hok.write mu he k heo new)
theorem Inv.pins_of {pins' : List (Addr × Obj)} (I : Inv X pins σ H s) (h : ∀ p ∈ pins', s.heap.get? p.1 = some p.2 ∧ H p.1 = none ∧ p.1 ≠ X.env.locals ∧ p.1 ∉ X.fs ∧ ∀ v, p.2.data ≠ .cell v) : Inv X pins' σ H s :=
  ⟨I.ok, I.os, I.bare, I.base, I.loc, I.cell, I.free, I.freeC, fun p hp => (List.mem_append.mp hp).elim (fun z => I.pin p (List.mem_append_left _ z)) (h p), I.hok, I.len⟩

theorem nodup_ix {N : List Str} (hN : N.Nodup) {i j : Nat} {x : Str} (a : N[i]? = some x) (b : N[j]? = some x) : i = j := by
  obtain ⟨h1, e1⟩ := List.getElem?_eq_some_iff.mp a
  obtain ⟨h2, e2⟩ := List.getElem?_eq_some_iff.mp b
  exact (List.getElem_inj hN).mp (e1.trans e2.symm)

/-- a name is stored; what changed -/
theorem store_ok2 {M : Model} {A : Around} {E : Value → Shared → Prop} {i : Nat} {x : Str} {v : V} {u : Value} {Q : Unit → Shared → Prop} (I : Inv X pins σ H s) (hN : X.N.Nodup) (hi : X.N[i]? = some x) (hx : Loc X.env.scope x) (r : RelV v u)
    (h : ∀ s', Inv X pins (σ.set i (some v)) H s' → (∃ a, Heap.SameBut a s.heap s'.heap ∧ (a = X.env.locals ∨ X.env.cells.lookup x = some a)) → Q () s') (hf : X.fn x = true ∨ X.env.scope.names.lookup x = some .local := by first | exact .inl rfl | exact .inr rfl | assumption) : wpAny M A (storeName X.env x u) Q E s := by
  obtain ⟨m, hn, hl⟩ := id I.loc
  have hcls : (X.env.scope.kind == .class || (X.env.scope.kind == .module && X.env.locals != X.env.globals)) = false := by rw [I.ok.kind]; rfl
  have hiσ : i < σ.length := by rw [I.len]; exact (List.getElem?_eq_some_iff.mp hi).1
  have cne := I.cne
  have tracked : ∀ {a : Addr} {h' : Heap}, (∃ o, s.heap.get? a = some o ∧ H a = none) → Heap.SameBut a s.heap h' → HOk X.prog X.w H h' := fun {a h'} ha hs b ob e => by
    obtain ⟨_, _, hfree⟩ := ha
    refine (I.hok b ob e).stay (fun c w' hc q => (hs.2 c ?_).trans q) (fun _ q => q) fun _ _ q => q
    rintro rfl
    rcases hc with rfl | hc
    · rw [hfree] at e; cases e
    · rw [hfree] at hc; cases hc
  rcases hx with hk | hk
  · refine wpAny_storeName_local hk hn (fun h' hn' hs => ?_) hcls
    obtain ⟨oL, _, _, hoL, _⟩ := id hn
    refine h _ ⟨I.ok, I.os, I.bare, ⟨fun b o e n hb hx => ?_, fun b o e n hb hx => ?_, I.base.free, fun b o e hx => ?_, I.base.tups, I.base.frzs, I.base.tbls⟩, ⟨_, hn', fun j y v' e1 e2 e3 => ?_⟩, fun y c e => ?_, I.free, I.freeC, fun p hp => ?_, tracked ⟨oL, hoL, I.free⟩ hs, by simpa using I.len⟩ ⟨_, hs, .inl rfl⟩
    · exact (hs.2 b (Nat.ne_of_lt (Nat.lt_of_lt_of_le (Heap.lt_size e) I.ok.above))).trans (I.base.keep b o e n hb hx)
    · obtain ⟨sl, e1⟩ := I.base.slot b o e n hb hx
      exact ⟨sl, (hs.2 b (Nat.ne_of_lt (Nat.lt_of_lt_of_le (Heap.lt_size e) I.ok.above))).trans e1⟩
    · obtain ⟨o', e1⟩ := I.base.there b o e hx
      exact ⟨o', (hs.2 b (Nat.ne_of_lt (Nat.lt_of_lt_of_le (Heap.lt_size e) I.ok.above))).trans e1⟩
    · by_cases hj : j = i
      · subst hj
        rw [hi] at e1; cases e1
        rw [List.getElem?_set_self hiσ] at e2
        cases e2
        exact ⟨u, r, .inl ⟨hk, by simp⟩⟩
      · rw [List.getElem?_set_ne (Ne.symm hj)] at e2
        obtain ⟨u', r', q⟩ := hl j y v' e1 e2 e3
        refine ⟨u', r', ?_⟩
        rcases q with ⟨k, e⟩ | ⟨k, c, e, z⟩
        · refine .inl ⟨k, ?_⟩
          have : y ≠ x := fun e => hj (nodup_ix hN e1 (e ▸ hi))
          simp [this, e]
        · exact .inr ⟨k, c, e, z.sameBut hs (cne y c e)⟩
    · obtain ⟨w', z⟩ := I.cell y c e
      exact ⟨w', z.sameBut hs (cne y c e)⟩
    · obtain ⟨e, n, ne, nf, d⟩ := I.pin p hp
      exact ⟨(hs.2 p.1 ne).trans e, n, ne, nf, d⟩
  · have hfn : X.fn x = true := by
      rcases hf with z | z
      · exact z
      · rw [z] at hk; cases hk
    obtain ⟨c, hc⟩ := I.ok.has x (.inl hk)
    obtain ⟨w', z⟩ := I.cell x c hc
    refine wpAny_storeName_cell I.ok.kind hk hc z (fun h' hc' hs => ?_)
    obtain ⟨oc, hoc, hocd⟩ := id z
    refine h { s with heap := h' } ⟨I.ok, I.os, I.bare, ⟨fun b o e n hb hx => ?_, fun b o e n hb hx => ?_, I.base.free, fun b o e hx => ?_, I.base.tups, I.base.frzs, I.base.tbls⟩, ⟨m, hn.sameBut hs (Ne.symm (cne x c hc)), fun j y v' e1 e2 e3 => ?_⟩, fun y c' e => ?_, I.free, I.freeC, fun p hp => ?_, tracked ⟨oc, hoc, I.freeC x c hc⟩ hs, by simpa using I.len⟩ ⟨c, hs, .inr hc⟩
    · exact (hs.2 b (Nat.ne_of_lt (Nat.lt_of_lt_of_le (Heap.lt_size e) (I.ok.cab x c hfn hc)))).trans (I.base.keep b o e n hb hx)
    · obtain ⟨sl, e1⟩ := I.base.slot b o e n hb hx
      exact ⟨sl, (hs.2 b (Nat.ne_of_lt (Nat.lt_of_lt_of_le (Heap.lt_size e) (I.ok.cab x c hfn hc)))).trans e1⟩
    · obtain ⟨o', e1⟩ := I.base.there b o e hx
      exact ⟨o', (hs.2 b (Nat.ne_of_lt (Nat.lt_of_lt_of_le (Heap.lt_size e) (I.ok.cab x c hfn hc)))).trans e1⟩
    · by_cases hj : j = i
      · subst hj
        rw [hi] at e1; cases e1
        rw [List.getElem?_set_self hiσ] at e2
        cases e2
        exact ⟨u, r, .inr ⟨.inl hk, c, hc, hc'⟩⟩
      · rw [List.getElem?_set_ne (Ne.symm hj)] at e2
        obtain ⟨u', r', q⟩ := hl j y v' e1 e2 e3
        refine ⟨u', r', ?_⟩
        rcases q with q | ⟨k, c', e, z'⟩
        · exact .inl q
        · refine .inr ⟨k, c', e, z'.sameBut hs ?_⟩
          rintro rfl
          exact hj (nodup_ix hN e1 (I.ok.inj _ _ _ e hc ▸ hi))
    · by_cases hcc : c' = c
      · subst hcc; exact ⟨_, hc'⟩
      · obtain ⟨w2, z2⟩ := I.cell y c' e
        exact ⟨w2, z2.sameBut hs hcc⟩
    · obtain ⟨e, n, ne, nf, d⟩ := I.pin p hp
      refine ⟨(hs.2 p.1 ?_).trans e, n, ne, nf, d⟩
      intro q
      rw [q, hoc] at e
      have q' : oc = p.2 := Option.some.inj e
      exact d w' (by rw [← q']; exact hocd)
theorem store_ok {M : Model} {A : Around} {E : Value → Shared → Prop} {i : Nat} {x : Str} {v : V} {u : Value} {Q : Unit → Shared → Prop} (I : Inv X pins σ H s) (hN : X.N.Nodup) (hi : X.N[i]? = some x) (hx : Loc X.env.scope x) (r : RelV v u)
    (h : ∀ s', Inv X pins (σ.set i (some v)) H s' → Q () s') (hf : X.fn x = true ∨ X.env.scope.names.lookup x = some .local := by first | exact .inl rfl | exact .inr rfl | assumption) : wpAny M A (storeName X.env x u) Q E s :=
  store_ok2 I hN hi hx r (fun s' I' _ => h s' I') hf
/-- behind a call or a block, the state as it is -/
theorem Inv.call' {s' : Shared} {ch : List Addr} (I : Inv X pins σ H s) (ho : s'.os = s.os) (u : Un (frs X.stack) ch H H' s.heap s'.heap) (hok : HOk X.prog X.w H' s'.heap) (hg : AllBare s'.gens)
    (hch : ∀ b ∈ ch, (b ∈ X.ex ∨ X.s₀.heap.objs.size ≤ b) ∧ b ≠ X.env.locals ∧ (∀ x c, X.env.cells.lookup x = some c → c ≠ b) ∧ ∀ p ∈ X.pn ++ pins, p.1 ≠ b) : Inv X pins σ H' s' := by
  obtain ⟨h', g', d', t', o'⟩ := s'
  have e : o' = s.os := ho
  subst e
  exact I.call (g' := g') (t' := t') (d' := d') u hok hg hch
end

/-! ### the judgements -/
/-- an exception: its class, its own dict's address (where it has one), the abstract heap behind it -/
abbrev XK := Value → Option Addr → Hp → Prop
abbrev St := List (Option V)
abbrev VK := V → Hp → Prop
/-- an expression's reading; a test's; an argument list's -/
abbrev TE := St → Hp → VK → Prop
abbrev TT := St → Hp → (Bool → Hp → Prop) → Prop
abbrev TA := St → Hp → (List V → Hp → Prop) → Prop
/-- what is wanted behind a statement -/
structure Ends where
  nx : St → Hp → Prop
  rt : VK
  bk : St → Hp → Prop := fun _ _ => False
  ct : St → Hp → Prop := fun _ _ => False
abbrev TS := Ends → St → Hp → Prop

def EP (X : Cx) (pins : List (Addr × Obj)) (σ : St) (Q : VK) (u : Value) (s' : Shared) : Prop := ∃ v H', Inv X pins σ H' s' ∧ RelV v u ∧ Q v H'
def TP (X : Cx) (pins : List (Addr × Obj)) (σ : St) (Q : Bool → Hp → Prop) (b : Bool) (s' : Shared) : Prop := ∃ H', Inv X pins σ H' s' ∧ Q b H'
def AP (X : Cx) (pins : List (Addr × Obj)) (σ : St) (Q : List V → Hp → Prop) (us : List Value) (s' : Shared) : Prop := ∃ vs H', Inv X pins σ H' s' ∧ Vals vs us ∧ Q vs H'
def SP (X : Cx) (pins : List (Addr × Obj)) (D : Ends) (f : Flow) (s' : Shared) : Prop :=
  match f with
  | .next => ∃ σ' H', Inv X pins σ' H' s' ∧ D.nx σ' H'
  | .brk => ∃ σ' H', Inv X pins σ' H' s' ∧ D.bk σ' H'
  | .cont => ∃ σ' H', Inv X pins σ' H' s' ∧ D.ct σ' H'
  | .ret u => ∃ v σ' H', Inv X pins σ' H' s' ∧ RelV v u ∧ D.rt v H'

def PE (X : Cx) (e : Expr) (t : TE) : Prop :=
  ∀ (pins : List (Addr × Obj)) (s : Shared) (σ : St) (H : Hp) (Q : VK), Inv X pins σ H s → t σ H Q → wpAny (model X.prog X.w) X.A (eval e X.env) (EP X pins σ Q) X.xe s
def PT (X : Cx) (e : Expr) (t : TT) : Prop :=
  ∀ (pins : List (Addr × Obj)) (s : Shared) (σ : St) (H : Hp) (Q : Bool → Hp → Prop), Inv X pins σ H s → t σ H Q → wpAny (model X.prog X.w) X.A (isTrue e X.env (eval e X.env)) (TP X pins σ Q) X.xe s
/-- a test whatever its 'whole' is (and, or) -/
def PW (X : Cx) (e : Expr) (t : TT) : Prop :=
  ∀ (whole : Sem Value) (pins : List (Addr × Obj)) (s : Shared) (σ : St) (H : Hp) (Q : Bool → Hp → Prop), Inv X pins σ H s → t σ H Q → wpAny (model X.prog X.w) X.A (isTrue e X.env whole) (TP X pins σ Q) X.xe s
theorem PW.pt {X : Cx} {e : Expr} {t : TT} (h : PW X e t) : PT X e t := h _
/-- an argument list (no star), from the left -/
def PA (X : Cx) (es : List Expr) (t : TA) : Prop :=
  ∀ (pos : Pos) (pins : List (Addr × Obj)) (s : Shared) (σ : St) (H : Hp) (Q : List V → Hp → Prop), Inv X pins σ H s → t σ H Q → wpAny (model X.prog X.w) X.A (spliced (backTo pos (starEach es X.env))) (AP X pins σ Q) X.xe s
def PS (X : Cx) (st : Stmt) (t : TS) : Prop :=
  ∀ (pins : List (Addr × Obj)) (s : Shared) (σ : St) (H : Hp) (D : Ends), Inv X pins σ H s → t D σ H → wpAny (model X.prog X.w) X.A (exec st X.env) (SP X pins D) X.xe s
def PSs (X : Cx) (st : List Stmt) (t : TS) : Prop :=
  ∀ (pins : List (Addr × Obj)) (s : Shared) (σ : St) (H : Hp) (D : Ends), Inv X pins σ H s → t D σ H → wpAny (model X.prog X.w) X.A (execs st X.env) (SP X pins D) X.xe s
/-- weaken the end -/
theorem thn {α : Type} {t : Sem α} {Q Q' : α → Shared → Prop} {M : Model} {A : Around} {E : Value → Shared → Prop} {s : Shared} (h : wpAny M A t Q E s) (hQ : ∀ a s, Q a s → Q' a s) : wpAny M A t Q' E s := wpAny_mono h hQ fun _ _ x => x
end L2

namespace L2
open PySem PySem.Spec PyProof.Rows
section
variable {X : Cx}

/-- two expressions in a row -/
theorem bin {a b : Expr} {ta tb : TE} (ha : PE X a ta) (hb : PE X b tb) {pins : List (Addr × Obj)} {s : Shared} {σ : St} {H : Hp} {R : V → V → Hp → Prop} (I : Inv X pins σ H s) (h : ta σ H fun x H1 => tb σ H1 fun y H2 => R x y H2)
    {α : Type} {Q : α → Shared → Prop} {f : Value → Value → Sem α}
    (hf : ∀ v u s2 x y H2, Inv X pins σ H2 s2 → RelV x v → RelV y u → R x y H2 → wpAny (model X.prog X.w) X.A (f v u) Q X.xe s2) :
    wpAny (model X.prog X.w) X.A (eval a X.env) (fun v s₁ => wpAny (model X.prog X.w) X.A (eval b X.env) (fun u s₂ => wpAny (model X.prog X.w) X.A (f v u) Q X.xe s₂) X.xe s₁) X.xe s := by
  refine thn (ha pins s σ H _ I h) fun v s1 ⟨x, H1, I1, r1, q1⟩ => ?_
  refine thn (hb pins s1 σ H1 _ I1 q1) fun u s2 ⟨y, H2, I2, r2, q2⟩ => ?_
  exact hf v u s2 x y H2 I2 r1 r2 q2

/-! ### names and constants -/
def tVar (i : Nat) : TE := fun σ H Q => ∃ v, σ[i]? = some (some v) ∧ Q v H
def tC (v : V) : TE := fun _ H Q => Q v H
theorem pe_var {i : Nat} {x : Str} {pos : Pos} (hN : X.N[i]? = some x) (hv : Vis X.env.scope x) (hd : (x == ("__debug__" : Str)) = false := by decide) (hcd : (x == ("__classdict__" : Str)) = false := by decide) : PE X (.Name x pos) (tVar i) := by
  intro pins s σ H Q I h
  obtain ⟨v, e, h⟩ := h
  obtain ⟨m, hn, hl⟩ := I.loc
  obtain ⟨u, r, l⟩ := hl i x v hN e hv
  have fin : EP X pins σ Q u s := ⟨v, H, I, r, h⟩
  rcases l with ⟨hk, hm⟩ | ⟨hk, c, hc, hcell⟩
  · exact wpAny_Name (wpAny_loadName_local I.ok.kind hk hn hm fin) hd
  · rcases hk with hk | hk
    · exact wpAny_Name (wpAny_loadName_cell I.ok.kind hk hc hcell fin) hd
    · exact wpAny_Name (wpAny_loadName_free I.ok.kind hk hc hcell fin hcd) hd
theorem pe_int {i j pos} : PE X (.Constant (.int i) j pos) (tC (.int i)) := fun _ _ _ H _ I h => wpAny_Constant_int ⟨.int i, H, I.tok _, ⟨_, rfl⟩, h⟩
theorem pe_bl {b j pos} : PE X (.Constant (.bool b) j pos) (tC (.bl b)) := fun _ _ _ H _ I h => Constant_bool ⟨.bl b, H, I, rfl, h⟩
theorem pe_str {x j pos} : PE X (.Constant (.str x) j pos) (tC (.str x)) := fun _ _ _ H _ I h => Calls.Constant_str ⟨.str x, H, I.tok _, ⟨_, rfl⟩, h⟩

/-- a global name of the def -/
def Gl (X : Cx) (x : Str) : Prop := X.env.kindOf x = some .globalImplicit
theorem ld_glob {E : Value → Shared → Prop} {pins : List (Addr × Obj)} {s : Shared} {σ : St} {H : Hp} {x : Str} {u : Value} {pos : Pos} {Q : Value → Shared → Prop} (I : Inv X pins σ H s) (hg : Gl X x) (hm : X.mg x = some u) (h : Q u s)
    (hd : (x == ("__debug__" : Str)) = false := by decide) : wpAny (model X.prog X.w) X.A (eval (.Name x pos) X.env) Q E s :=
  Calls.Name_function_global I.ok.kind hg (Calls.loadGlobal_global (by rw [I.ok.glob]; exact I.mod.glob.keeps I.bk) hm h) hd
theorem ld_blt {E : Value → Shared → Prop} {pins : List (Addr × Obj)} {s : Shared} {σ : St} {H : Hp} {x : Str} {u : Value} {pos : Pos} {Q : Value → Shared → Prop} (I : Inv X pins σ H s) (hg : Gl X x) (hm : X.mg x = none) (hv : bootBuiltins x = some u) (h : Q u s)
    (hn : x ≠ "__name__" := by decide) (hd : (x == ("__debug__" : Str)) = false := by decide) : wpAny (model X.prog X.w) X.A (eval (.Name x pos) X.env) Q E s := by
  obtain ⟨mb, h1, h2⟩ := I.mod.blt
  exact Calls.Name_function_global I.ok.kind hg (Calls.loadGlobal_builtin (by rw [I.ok.glob]; exact I.mod.glob.keeps I.bk) hm (by rw [I.ok.blt]; exact h1.keeps I.bk) ((h2 x hn).trans hv) h) hd
/-- a module's constant, a class, a function, as a value -/
theorem pe_glob {x : Str} {v : V} {u : Value} {pos : Pos} (hg : Gl X x) (hm : X.mg x = some u) (r : RelV v u) (hd : (x == ("__debug__" : Str)) = false := by decide) : PE X (.Name x pos) (tC v) :=
  fun _ _ _ H _ I h => ld_glob I hg hm ⟨v, H, I, r, h⟩ hd
theorem pe_bltn {x : Str} {v : V} {u : Value} {pos : Pos} (hg : Gl X x) (hm : X.mg x = none) (hv : bootBuiltins x = some u) (r : RelV v u) (hn : x ≠ "__name__" := by decide) (hd : (x == ("__debug__" : Str)) = false := by decide) : PE X (.Name x pos) (tC v) :=
  fun _ _ _ H _ I h => ld_blt I hg hm hv ⟨v, H, I, r, h⟩ hn hd

/-! ### arithmetic -/
variable {a b : Expr} {ta tb : TE} {pos : Pos}
/-! ### comparisons -/
def PC (X : Cx) (op : CmpOp) (a b : Expr) (t : TE) : Prop :=
  ∀ (pins : List (Addr × Obj)) (s : Shared) (σ : St) (H : Hp) (Q : VK), Inv X pins σ H s → t σ H Q →
    wpAny (model X.prog X.w) X.A (eval a X.env) (fun v s₁ => wpAny (model X.prog X.w) X.A (eval b X.env) (fun u s₂ => wpAny (model X.prog X.w) X.A (compareOp op v u) (EP X pins σ Q) X.xe s₂) X.xe s₁) X.xe s
/-- a comparison as a value, as a test -/
def tB (t : TE) : TT := fun σ H Q => t σ H fun x H1 => ∃ c, x = .bl c ∧ Q c H1
theorem pt_cmp {op : CmpOp} {t : TE} (h : PC X op a b t) (h1 : behindInMarks op b = false := by first | exact nobehind _ (by decide) (by decide) | rfl) : PT X (.Compare a [op] [b] pos) (tB t) := by
  intro pins s σ H Q I hw
  refine wpAny_isTrue_Compare1 (thn (h pins s σ H _ I hw) fun v s1 h1 => thn h1 fun u s2 h2 => thn h2 fun c s3 ⟨x, H1, I1, r1, q1⟩ => ?_) h1
  obtain ⟨d, rfl, q⟩ := q1
  cases r1
  exact wpAny_truthy_bool ⟨H1, I1, q⟩
/-- an expression whose value is a bool, as a test -/
theorem pt_val {e : Expr} {t : TE} (h : PE X e t) (he : ∀ whole, isTrue e X.env whole = (do let v ← whole; standAt e.pos; holding [v] (truthy v)) := by intro _; rfl) : PT X e (tB t) := by
  intro pins s σ H Q I hw
  refine isTrue_plain (thn (h pins s σ H _ I hw) fun v s1 ⟨x, H1, I1, r1, q1⟩ => ?_) (he _)
  obtain ⟨d, rfl, q⟩ := q1
  cases r1
  exact wpAny_truthy_bool ⟨H1, I1, q⟩

/-! ### and, or, not -/
variable {tA tB' : TT} {rest : List Expr}
def tOr (t u : TT) : TT := fun σ H Q => t σ H fun c H1 => if c = true then Q true H1 else u σ H1 Q
def tNot (t : TT) : TT := fun σ H Q => t σ H fun c H1 => Q (!c) H1
theorem pw_or1 (ha : PT X a tA) : PW X (.BoolOp .Or [a] pos) tA := by
  intro wh pins s σ H Q I h
  refine isTrue_or (thn (ha pins s σ H Q I h) fun c s1 e => ?_)
  cases c with
  | false => exact isTrue_or_nil e
  | true => exact e
theorem pw_or (ha : PT X a tA) (hb : PW X (.BoolOp .Or (b :: rest) pos) tB') : PW X (.BoolOp .Or (a :: b :: rest) pos) (tOr tA tB') := by
  intro wh pins s σ H Q I h
  refine isTrue_or (thn (ha pins s σ H _ I h) fun c s1 ⟨H1, I1, q1⟩ => ?_)
  cases c with
  | true => exact ⟨H1, I1, q1⟩
  | false => exact hb wh pins s1 σ H1 Q I1 q1
theorem pt_not (ha : PT X a tA) : PT X (.UnaryOp .Not a pos) (tNot tA) := by
  intro pins s σ H Q I h
  exact isTrue_not (ha pins s σ H (fun c H1 => Q (!c) H1) I h)
/-- .. as values (bools) -/
def tAndV (ta tb : TE) : TE := fun σ H Q => ta σ H fun x H1 => ∃ c, x = .bl c ∧ if c = true then tb σ H1 Q else Q (.bl false) H1
theorem pe_and (ha : PE X a ta) (hb : PE X (.BoolOp .And (b :: rest) pos) tb) : PE X (.BoolOp .And (a :: b :: rest) pos) (tAndV ta tb) := by
  intro pins s σ H Q I h
  refine BoolOp_and (thn (ha pins s σ H _ I h) fun v s1 ⟨x, H1, I1, r1, q1⟩ => ?_)
  obtain ⟨c, rfl, q1⟩ := q1
  cases r1
  refine wpAny_truthy_bool ?_
  cases c with
  | true => exact hb pins s1 σ H1 Q I1 q1
  | false => exact ⟨.bl false, H1, I1, rfl, q1⟩
end
end L2

namespace L2
open PySem PySem.Spec PyProof.Rows

/-! ### a list, a tuple that is read: tracked, frozen, or an object of the module -/
def SqL (K : PySem.W.Frag) (H : Hp) (a : Addr) (xs : List V) : Prop :=
  Rd H a (.lst xs) ∨
    ∃ (o : Obj) (its : Array Value) (n : Nat), K.lookup a = some o ∧ o.cls = .type "list" ∧ o.dict = none ∧ o.data = .seq its n ∧ its.size ≤ sizeLine ∧ Vals xs its.toList
def SqT (K : PySem.W.Frag) (H : Hp) (a : Addr) (xs : List V) : Prop :=
  Rd H a (.tup xs) ∨
    ∃ (o : Obj) (its : Array Value) (n : Nat), K.lookup a = some o ∧ o.cls = .type "tuple" ∧ o.data = .seq its n ∧ its.size ≤ sizeLine ∧ Vals xs its.toList
section
variable {X : Cx} {pins : List (Addr × Obj)} {σ : St} {H : Hp} {s : Shared} {a : Addr} {xs ys : List V}
theorem SqL.of {K : PySem.W.Frag} (h : H a = some (.lst xs)) : SqL K H a xs := .inl (.inl h)
theorem Inv.list (I : Inv X pins σ H s) (h : SqL X.K H a xs) : ∃ its : List Value, Vals xs its ∧ PlainL s.heap a its.toArray ∧ xs.length ≤ sizeLine := by
  rcases h with h | ⟨o, its, n, hk, hc, hd, hs, hz, r⟩
  · obtain ⟨z, its, n, r, e⟩ := h.ok I.hok
    exact ⟨its, r, ⟨_, n, e, rfl, rfl, rfl⟩, z⟩
  · refine ⟨its.toList, r, ⟨o, n, I.kIn a o hk, hc, hd, by simpa using hs⟩, ?_⟩
    have e := r.length
    simp only [Array.length_toList] at e
    omega
theorem Inv.tuple (I : Inv X pins σ H s) (h : SqT X.K H a xs) : ∃ its : List Value, Vals xs its ∧ IsTup s.heap a its.toArray ∧ xs.length ≤ sizeLine := by
  rcases h with h | ⟨o, its, n, hk, hc, hs, hz, r⟩
  · obtain ⟨z, its, r, p⟩ := h.ok I.hok
    exact ⟨its, r, p, z⟩
  · refine ⟨its.toList, r, ⟨o, I.kIn a o hk, hc, n, by simpa using hs⟩, ?_⟩
    have e := r.length
    simp only [Array.length_toList] at e
    omega
end

/-! ### another wish about exceptions -/
abbrev Cx.wish (X : Cx) (E : Value → Shared → Prop) : Cx := { X with xe := E }
/-- no exception leaves -/
abbrev Cx.nox (X : Cx) : Cx := X.wish fun _ _ => False
theorem Cx.Ok.wish {X : Cx} (ok : X.Ok) (E : Value → Shared → Prop) : (X.wish E).Ok :=
  ⟨ok.mod, ok.kind, ok.glob, ok.blt, ok.above, ok.inj, ok.has, ok.cab, ok.hd, ok.frames, ok.stk, ok.exf, ok.bs, ok.bsz, ok.noex, ok.exfs, ok.funs, ok.frf⟩
theorem Cx.Ok.unwish {X : Cx} {E : Value → Shared → Prop} (ok : (X.wish E).Ok) : X.Ok :=
  ⟨ok.mod, ok.kind, ok.glob, ok.blt, ok.above, ok.inj, ok.has, ok.cab, ok.hd, ok.frames, ok.stk, ok.exf, ok.bs, ok.bsz, ok.noex, ok.exfs, ok.funs, ok.frf⟩
section
variable {X : Cx} {pins : List (Addr × Obj)} {σ : St} {H : Hp} {s : Shared} {E : Value → Shared → Prop}
theorem Inv.wish (I : Inv X pins σ H s) (E : Value → Shared → Prop) : Inv (X.wish E) pins σ H s := ⟨I.ok.wish E, I.os, I.bare, I.base, I.loc, I.cell, I.free, I.freeC, I.pin, I.hok, I.len⟩
theorem Inv.unwish (I : Inv (X.wish E) pins σ H s) : Inv X pins σ H s := ⟨I.ok.unwish, I.os, I.bare, I.base, I.loc, I.cell, I.free, I.freeC, I.pin, I.hok, I.len⟩
theorem SP.unwish {D : Ends} {f : Flow} {s' : Shared} (h : SP (X.wish E) pins D f s') : SP X pins D f s' := by
  cases f with
  | next => obtain ⟨σ', H', I, q⟩ := h; exact ⟨σ', H', I.unwish, q⟩
  | brk => obtain ⟨σ', H', I, q⟩ := h; exact ⟨σ', H', I.unwish, q⟩
  | cont => obtain ⟨σ', H', I, q⟩ := h; exact ⟨σ', H', I.unwish, q⟩
  | ret u => obtain ⟨v, σ', H', I, r, q⟩ := h; exact ⟨v, σ', H', I.unwish, r, q⟩
theorem PSs.nox {st : List Stmt} {t : TS} (h : PSs X.nox st t) : PSs X st t := fun pins s σ H D I hw =>
  wpAny_mono (h pins s σ H D (I.wish _) hw) (fun _ _ q => q.unwish) fun _ _ z => False.elim z
end

/-! ### blocks and small statements -/
section
variable {X : Cx} {st : Stmt} {rest : List Stmt} {t u : TS} {e : Expr} {te : TE} {pos : Pos}
def tNext : TS := fun D σ H => D.nx σ H
def tSeq (t u : TS) : TS := fun D σ H => t { D with nx := u D } σ H
theorem pss_nil : PSs X [] tNext := fun _ _ σ H _ I h => wpAny_execs_nil ⟨σ, H, I, h⟩
theorem pss_cons (h1 : PS X st t) (h2 : PSs X rest u) : PSs X (st :: rest) (tSeq t u) := by
  intro pins s σ H D I h
  refine wpAny_execs_cons (thn (h1 pins s σ H { D with nx := u D } I h) fun f s1 q => ?_)
  cases f with
  | next =>
    obtain ⟨σ', H', I', q⟩ := q
    exact h2 pins s1 σ' H' D I' q
  | ret v => exact q
  | brk => exact q
  | cont => exact q
theorem pss_one (h1 : PS X st t) : PSs X [st] t := by
  intro pins s σ H D I h
  refine wpAny_execs_cons (thn (h1 pins s σ H D I h) fun f s1 q => ?_)
  cases f with
  | next => exact wpAny_execs_nil q
  | ret v => exact q
  | brk => exact q
  | cont => exact q
/-- in a def's body nothing is shown -/
theorem Inv.quiet {pins : List (Addr × Obj)} {σ : St} {H : Hp} {s : Shared} (I : Inv X pins σ H s) : interactive X.env = false := by simp [interactive, I.ok.kind]
/-- an expression whose value is dropped -/
def tDrop (te : TE) : TS := fun D σ H => te σ H fun _ H1 => D.nx σ H1
theorem ps_expr (he : PE X e te) (hs : swapsWith e none pos.line X.env = pure false := by rfl) : PS X (.Expr e pos) (tDrop te) := by
  intro pins s σ H D I h
  exact wpAny_Expr_any (thn (he pins s σ H _ I h) fun v s1 ⟨x, H1, I1, r1, q1⟩ => ⟨σ, H1, I1, q1⟩) I.quiet hs
def tRet (te : TE) : TS := fun D σ H => te σ H D.rt
theorem ps_ret (he : PE X e te) : PS X (.Return (some e) pos) (tRet te) := by
  intro pins s σ H D I h
  exact wpAny_Return_some (thn (he pins s σ H _ I h) fun v s1 ⟨x, H1, I1, r1, q1⟩ => ⟨x, σ, H1, I1, r1, q1⟩)
def tIfS (c : TT) (t u : TS) : TS := fun D σ H => c σ H fun b H1 => if b = true then t D σ H1 else u D σ H1
theorem ps_if {c : Expr} {a b : List Stmt} {tc : TT} (hc : PT X c tc) (ha : PSs X a t) (hb : PSs X b u) : PS X (.If c a b pos) (tIfS tc t u) := by
  intro pins s σ H D I h
  refine wpAny_If (thn (hc pins s σ H _ I h) fun d s1 ⟨H1, I1, q1⟩ => ?_)
  cases d with
  | true => exact ha pins s1 σ H1 D I1 q1
  | false => exact hb pins s1 σ H1 D I1 q1
/-- code that the proof never comes to -/
def tNever : TS := fun _ _ _ => False
theorem pss_never {sts : List Stmt} : PSs X sts tNever := fun _ _ _ _ _ _ h => h.elim
end

/-! ### targets -/
abbrev TG := V → St → Hp → (St → Hp → Prop) → Prop
def PG (X : Cx) (target : Expr) (t : TG) : Prop :=
  ∀ (pins : List (Addr × Obj)) (s : Shared) (σ : St) (H : Hp) (v : V) (u : Value) (Q : St → Hp → Prop), Inv X pins σ H s → RelV v u → t v σ H Q →
    wpAny (model X.prog X.w) X.A (assign target X.env u) (fun _ s' => ∃ σ' H', Inv X pins σ' H' s' ∧ Q σ' H') X.xe s
/-- o[i] = v, by values -/
abbrev TSet := V → V → V → Hp → (Hp → Prop) → Prop
def PSet (X : Cx) (t : TSet) : Prop :=
  ∀ (pins : List (Addr × Obj)) (s : Shared) (σ : St) (H : Hp) (o i v : V) (ov iv u : Value) (Q : Hp → Prop), Inv X pins σ H s → RelV o ov → RelV i iv → RelV v u → t o i v H Q →
    wpAny (model X.prog X.w) X.A (setItem ov iv u) (fun _ s' => ∃ H', Inv X pins σ H' s' ∧ Q H') X.xe s
section
variable {X : Cx} {pos : Pos}
def gName (i : Nat) : TG := fun v σ H Q => Q (σ.set i (some v)) H
theorem pg_name {i : Nat} {x : Str} (hN : X.N.Nodup) (hi : X.N[i]? = some x) (hx : Loc X.env.scope x) (hf : X.fn x = true ∨ X.env.scope.names.lookup x = some .local := by first | exact .inl rfl | exact .inr rfl | assumption) : PG X (.Name x pos) (gName i) := by
  intro pins s σ H v u Q I r h
  exact wpAny_assign_Name (store_ok I hN hi hx r (fun s' I' => ⟨_, H, I', h⟩) hf)
/-- o[i] = .. -/
def gSub (to ti : TE) (t : TSet) : TG := fun v σ H Q => to σ H fun o H1 => ti σ H1 fun i H2 => t o i v H2 fun H3 => Q σ H3
theorem pg_sub {o i : Expr} {to ti : TE} {t : TSet} (ho : PE X o to) (hi : PE X i ti) (hs : PSet X t)
    (ha : ∀ v, assign (.Subscript o i pos) X.env v = (do
      let ov ← holding [v] (eval o X.env)
      let iv ← holding [v, ov] (eval i X.env)
      standAt pos
      holding [v, ov, iv] (setItem ov iv v)
      release [v, ov, iv] []) := by intro _; rfl) : PG X (.Subscript o i pos) (gSub to ti t) := by
  intro pins s σ H v u Q I r h
  rw [ha]
  refine wpAny_bind (wpAny_holding (thn (ho pins s σ H _ I h) fun ov s1 ⟨x, H1, I1, r1, q1⟩ => ?_))
  refine wpAny_bind (wpAny_holding (thn (hi pins s1 σ H1 _ I1 q1) fun iv s2 ⟨y, H2, I2, r2, q2⟩ => ?_))
  refine wpAny_bind (wpAny_standAt (wpAny_bind (wpAny_holding (thn (hs pins s2 σ H2 x y v ov iv u _ I2 r1 r2 r q2) fun _ s3 ⟨H3, I3, q3⟩ => ?_))))
  exact wpAny_release ⟨σ, H3, I3, q3⟩
/-- target = value -/
def tAsg (te : TE) (g : TG) : TS := fun D σ H => te σ H fun x H1 => g x σ H1 D.nx
theorem ps_asg {tg e : Expr} {te : TE} {g : TG} (he : PE X e te) (hg : PG X tg g) (hs : swapsWithSole [tg] e pos.line X.env = pure false := by rfl) (hw : swappedStores [tg] e X.env = pure none := by rfl)
    (h1 : (assignEach [tg] X.env).map (·.2) = [assign tg X.env] := by rfl) : PS X (.Assign [tg] e pos) (tAsg te g) := by
  intro pins s σ H D I h
  refine wpAny_Assign_stores (thn (he pins s σ H _ I h) fun v s1 ⟨x, H1, I1, r1, q1⟩ => ?_) hs hw
  rw [h1]
  exact thn (hg pins s1 σ H1 x v _ I1 r1 q1) fun _ s2 q => q
/-- name = value -/
theorem ps_set {i : Nat} {x : Str} {e : Expr} {te : TE} {pos' : Pos} (hN : X.N.Nodup) (hi : X.N[i]? = some x) (hx : Loc X.env.scope x) (he : PE X e te) (hs : swapsWith e (some (.Name x pos')) pos.line X.env = pure false := by rfl) (hf : X.fn x = true ∨ X.env.scope.names.lookup x = some .local := by first | exact .inl rfl | exact .inr rfl | assumption) :
    PS X (.Assign [.Name x pos'] e pos) (tAsg te (gName i)) := by
  intro pins s σ H D I h
  refine wpAny_Assign_Name (thn (he pins s σ H _ I h) fun v s1 ⟨y, H1, I1, r1, q1⟩ => ?_) hs
  exact store_ok I1 hN hi hx r1 (fun s2 I2 => ⟨_, H1, I2, q1⟩) hf
end

/-! ### while -/
section
variable {X : Cx} {pos : Pos}
end

/-! ### what a loop or a comprehension walks -/
/-- at turn i: it yields x (the heap may grow), or it stops -/
structure It where
  go : Nat → Hp → Prop
  yld : Nat → Hp → V → Hp → Prop
  stop : Nat → Hp → Prop
/-- the iterator's own objects may turn: they are not the frame's, not pinned, younger than the entry (or a comprehension's own) -/
def FpOk (X : Cx) (pins : List (Addr × Obj)) (H : Hp) (b : Addr) : Prop :=
  H b = none ∧ b ≠ X.env.locals ∧ b ∉ X.fs ∧ (b ∈ X.ex ∨ X.s₀.heap.objs.size ≤ b) ∧ (∀ x c, X.env.cells.lookup x = some c → c ≠ b) ∧ ∀ p ∈ X.pn ++ pins, p.1 ≠ b
theorem Inv.fpOk {X : Cx} {pins : List (Addr × Obj)} {σ : St} {H H' : Hp} {s : Shared} {b : Addr} (I : Inv X pins σ H s) (hb : s.heap.objs.size ≤ b) (hn : H' b = none) : FpOk X pins H' b := by
  refine ⟨hn, Nat.ne_of_gt (Nat.lt_of_lt_of_le I.lt hb), I.nofs hb, .inr (Nat.le_trans I.sz hb), fun x c e z => ?_, fun p hp z => ?_⟩
  · obtain ⟨v, q⟩ := I.cell x c e
    exact absurd (Nat.lt_of_lt_of_le q.lt (by rw [z]; exact hb)) (Nat.lt_irrefl _)
  · exact absurd (Nat.lt_of_lt_of_le (Heap.lt_size (I.pin p hp).1) (by rw [z]; exact hb)) (Nat.lt_irrefl _)
structure Turn (P : Program) (w : World) (K : PySem.W.Frag) (tg : Expr) (J : It) (fp : List Addr) (it : Addr) (tn : Nat → Heap → Prop) : Prop where
  mem : it ∈ fp
  obj : ∀ i h, tn i h → ∀ b ∈ fp, ∃ o, h.get? b = some o ∧ ∀ v, o.data ≠ .cell v
  keep : ∀ i h h', tn i h → (∀ b ∈ fp, ∀ o, h.get? b = some o → h'.get? b = some o) → tn i h'
  item : ∀ (X : Cx), X.prog = P → X.w = w → X.K = K → X.calm = true → ∀ (i : Nat) (pins : List (Addr × Obj)) (s : Shared) (σ : St) (H : Hp) (E : Value → Shared → Prop), Inv X pins σ H s → (∀ b ∈ fp, FpOk X pins H b) → tn i s.heap → J.go i H →
    wpAny (model P w) X.A (pyNext (.ref it)) (fun r s1 => ∃ u, r = some u ∧
      wpAny (model P w) X.A (letOwnedTupleGo tg (.ref it) u) (fun _ s2 => ∃ x H', Inv X pins σ H' s2 ∧ RelV x u ∧ J.yld i H x H' ∧ tn (i + 1) s2.heap ∧ ∀ b ∈ fp, H' b = none) E s1) E s
  done : ∀ (X : Cx), X.prog = P → X.w = w → X.K = K → X.calm = true → ∀ (i : Nat) (pins : List (Addr × Obj)) (s : Shared) (σ : St) (H : Hp) (E : Value → Shared → Prop), Inv X pins σ H s → (∀ b ∈ fp, FpOk X pins H b) → tn i s.heap → J.stop i H →
    wpAny (model P w) X.A (pyNext (.ref it)) (fun r s1 => r = none ∧ Inv X pins σ H s1) E s
  self : ∀ (A : Around) (i : Nat) (s : Shared) (Q : Value → Shared → Prop) (E : Value → Shared → Prop), tn i s.heap → Q (.ref it) s → wpAny (model P w) A (pyIter (.ref it)) Q E s
abbrev TI := St → Hp → (It → Hp → Prop) → Prop
/-- an iterator has come -/
def PIE (X : Cx) (pins : List (Addr × Obj)) (σ : St) (tg : Expr) (R : It → Hp → Prop) (itv : Value) (s2 : Shared) : Prop :=
  ∃ (it : Addr) (fp : List Addr) (tn : Nat → Heap → Prop) (J : It) (H' : Hp), itv = .ref it ∧ Inv X pins σ H' s2 ∧ Turn X.prog X.w X.K tg J fp it tn ∧ tn 0 s2.heap ∧ (∀ b ∈ fp, FpOk X pins H' b) ∧ R J H'
def PI (X : Cx) (tg iter : Expr) (wi : TI) : Prop :=
  ∀ (pins : List (Addr × Obj)) (s : Shared) (σ : St) (H : Hp) (R : It → Hp → Prop), Inv X pins σ H s → wi σ H R →
    wpAny (model X.prog X.w) X.A (eval iter X.env) (fun v s1 => wpAny (model X.prog X.w) X.A (pyIter v) (PIE X pins σ tg R) X.xe s1) X.xe s

/-- the step ahead of the store is nothing for an iterator that keeps no tuple -/
theorem go_of {M : Model} {A : Around} {E : Value → Shared → Prop} {s : Shared} {tg : Expr} {it : Addr} {u : Value} {o : Obj} {n : String} {vs : Array Value} {Q : Unit → Shared → Prop} (ho : s.heap.get? it = some o) (hc : o.cls = .type n) (hd : o.data = .fields vs)
    (hn : ["enumerate", "zip", "dict_itemiterator", "dict_reverseitemiterator", "odict_iterator", "itertools.zip_longest", "itertools.pairwise"].contains n = false) (hQ : Q () s) : wpAny M A (letOwnedTupleGo tg (.ref it) u) Q E s := by
  unfold letOwnedTupleGo
  cases tg <;> first
    | exact wpAny_pure hQ
    | (cases u <;> first
        | exact wpAny_pure hQ
        | (refine wpAny_bind (wpAny_load ho ?_)
           rw [hc, hd]
           show wpAny M A (if (["enumerate", "zip", "dict_itemiterator", "dict_reverseitemiterator", "odict_iterator", "itertools.zip_longest", "itertools.pairwise"].contains n && vs[0]? == some (rawInt _)) = true then _ else _) Q E s
           rw [if_neg (by intro h; rw [hn, Bool.false_and] at h; cases h)]
           exact wpAny_pure hQ))

/-- lo, lo + 1, .. (n of them) -/
def Itr (lo : Int) (n : Nat) : It := ⟨fun i _ => i < n, fun i H x H' => H' = H ∧ x = .int (lo + i), fun i _ => n ≤ i⟩
theorem turn_range {P : Program} {w : World} {K : PySem.W.Frag} {tg : Expr} (it : Addr) (lo : Int) (n : Nat) : Turn P w K tg (Itr lo n) [it] it (fun i h => IsRangeIter h it (lo + (i : Nat) * 1) ((n : Int) - (i : Nat)) 1) where
  mem := by simp
  obj := fun i h st b hb => by
    have e : b = it := by simpa using hb
    subst e
    exact ⟨_, st, fun v z => by
      have z' : Data.fields _ = Data.cell v := z
      cases z'⟩
  keep := fun i h h' st k => k it (by simp) _ st
  item := by
    intro X hP hw hK hc i pins s σ H E I hf st hg
    subst hP hw hK
    obtain ⟨f0, f1, f2, f3, f4, f5⟩ := hf it (by simp)
    have W := Walks.range (prog := X.prog) (w := X.w) (I.ok.hd hc) it lo 1 n
    refine W.item i s _ _ hg st fun v h' tk hv st' kk => ?_
    obtain ⟨t, rfl⟩ := hv
    have I1 : Inv X pins σ H { s with heap := h', toks := tk } := I.turned (fun b o hb e => kk b o (by simpa using hb) e) f0 f1 f3 f4 f5
    refine ⟨_, rfl, go_of (s := { s with heap := h', toks := tk }) (n := "range_iterator") st' rfl rfl (by decide) ⟨.int (lo + i), H, I1, ⟨t, ?_⟩, ⟨rfl, rfl⟩, st', fun b hb => (hf b hb).1⟩⟩
    rw [Int.mul_one]
  done := by
    intro X hP hw hK hc i pins s σ H E I hf st hg
    subst hP hw hK
    obtain ⟨f0, f1, f2, f3, f4, f5⟩ := hf it (by simp)
    exact wpAny_pyNext_range_end (I.ok.hd hc) st (by have : n ≤ i := hg; omega) fun h' eb => ⟨rfl, I.turned (t' := s.toks) (fun b o hb e => eb b o hb e) f0 f1 f3 f4 f5⟩
  self := fun _ _ _ _ _ st h => wpAny_pyIter_rangeiter st h
end L2

namespace L2
open PySem PySem.Spec PyProof.Rows
section
variable {X : Cx} {tg : Expr}
/-- a range object just made, walked -/
theorem range_it {pins : List (Addr × Obj)} {σ : St} {H : Hp} {s : Shared} {R : It → Hp → Prop} {E : Value → Shared → Prop} {lo hi : Int} {t u v : Tok} {tk : Nat} (I : Inv X pins σ H s) (h1 : -(2 ^ 62) ≤ lo) (h2 : lo < 2 ^ 62) (h3 : -(2 ^ 62) ≤ hi) (h4 : hi < 2 ^ 62)
    (q : R (Itr lo (hi - lo).toNat) H) : wpAny (model X.prog X.w) X.A (pyIter (.ref s.heap.objs.size)) (PIE X pins σ tg R) E { s with heap := s.heap.push { cls := .type "range", data := .fields #[.int lo t, .int hi u, .int 1 v] }, toks := tk } := by
  refine wpAny_pyIter_range (IsRange.new ..) (small_one h1 h2 h3 h4) ?_
  have I1 : Inv X pins σ H { s with heap := s.heap.push { cls := .type "range", data := .fields #[.int lo t, .int hi u, .int 1 v] }, toks := tk } := I.kept fun b o e => Heap.get?_push_of_some _ e
  refine ⟨(s.heap.push { cls := .type "range", data := .fields #[.int lo t, .int hi u, .int 1 v] }).objs.size, [(s.heap.push { cls := .type "range", data := .fields #[.int lo t, .int hi u, .int 1 v] }).objs.size], _, _, H, rfl,
    I1.kept (t' := tk) fun b o e => Heap.get?_push_of_some _ e, turn_range _ lo (hi - lo).toNat, ?_, fun b hb => ?_, q⟩
  · have e1 : lo + ((0 : Nat) : Int) * 1 = lo := by simp
    have e2 : (((hi - lo).toNat : Nat) : Int) - ((0 : Nat) : Int) = Builtin.Range.rangeSize lo hi 1 := by rw [rangeSize_one]; split <;> omega
    show IsRangeIter _ _ (lo + ((0 : Nat) : Int) * 1) ((((hi - lo).toNat : Nat) : Int) - ((0 : Nat) : Int)) 1
    rw [e1, e2]
    exact Heap.get?_push_size _ rfl
  · have e : b = (s.heap.push { cls := .type "range", data := .fields #[.int lo t, .int hi u, .int 1 v] }).objs.size := by simpa using hb
    subst e
    exact I1.fpOk (Nat.le_refl _) (I1.hok.fresh (Nat.le_refl _))
def iRng1 (ta : TA) : TI := fun σ H R => ta σ H fun vs H1 => ∃ j : Int, vs = [.int j] ∧ -(2 ^ 62) ≤ j ∧ j < 2 ^ 62 ∧ R (Itr 0 j.toNat) H1
theorem pi_range1 {a : Expr} {ta : TA} {p pos : Pos} (hg : Gl X "range") (hm : X.mg "range" = none) (ha : PA X [a] ta) (hs : starEach [a] X.env = [(false, eval a X.env)] := by rfl) : PI X tg (.Call (.Name "range" p) [a] [] pos) (iRng1 ta) := by
  intro pins s σ H R I h
  refine Call_ (ld_blt I hg hm boot_range (PyProof.Rows.callWith_type1 (thn (ha pos pins s σ H _ I h) fun us s1 ⟨vs, H1, I1, r1, q1⟩ => ?_) hs rfl))
  obtain ⟨j, e, q1, q2, q⟩ := q1
  subst e
  cases r1 with
  | cons r rr =>
    cases rr
    obtain ⟨t, rfl⟩ := r
    exact call_range_1 (range_it I1 (by omega) (by omega) q1 q2 (by simpa using q))
/-! ### for -/
/-- W: the invariant by the turn and a measure; N: what the body is to reach -/
def tFor (wi : TI) (g : TG) (tb : TS) : TS := fun D σ H => wi σ H fun J H1 => ∃ W : Nat → Nat → St → Hp → Prop, (∃ m, W 0 m σ H1) ∧ ∀ i m σ H, W i m σ H →
  (J.stop i H ∧ D.nx σ H) ∨ (J.go i H ∧ ∃ N : St → Hp → Prop, (∀ σ' H', N σ' H' → ∃ m', m' < m ∧ W (i + 1) m' σ' H') ∧ ∀ x H', J.yld i H x H' → g x σ H' fun σ2 H2 => tb { D with nx := N, ct := N, bk := D.nx } σ2 H2)
/-- the records at fp as they stand -/
def pinsAt (fp : List Addr) (h : Heap) : List (Addr × Obj) := fp.filterMap fun b => (h.get? b).map fun o => (b, o)
theorem mem_pinsAt {fp : List Addr} {h : Heap} {b : Addr} {o : Obj} (hb : b ∈ fp) (e : h.get? b = some o) : (b, o) ∈ pinsAt fp h := List.mem_filterMap.mpr ⟨b, hb, by rw [e]; rfl⟩
theorem of_pinsAt {fp : List Addr} {h : Heap} {p : Addr × Obj} (hp : p ∈ pinsAt fp h) : p.1 ∈ fp ∧ h.get? p.1 = some p.2 := by
  obtain ⟨b, hb, e⟩ := List.mem_filterMap.mp hp
  cases q : h.get? b with
  | none => rw [q] at e; cases e
  | some o =>
    rw [q] at e
    have e' : (b, o) = p := Option.some.inj e
    subst e'
    exact ⟨hb, q⟩
theorem Inv.pinned {pins : List (Addr × Obj)} {σ : St} {H : Hp} {s : Shared} {fp : List Addr} (I : Inv X pins σ H s) (hf : ∀ b ∈ fp, FpOk X pins H b) (ho : ∀ b ∈ fp, ∃ o, s.heap.get? b = some o ∧ ∀ v, o.data ≠ .cell v) : Inv X (pins ++ pinsAt fp s.heap) σ H s :=
  I.pins_of fun p hp => (List.mem_append.mp hp).elim (fun z => I.pin p (List.mem_append_right _ z)) fun z => by
    obtain ⟨hb, e⟩ := of_pinsAt z
    obtain ⟨f0, f1, f2, _⟩ := hf p.1 hb
    obtain ⟨o, e', d⟩ := ho p.1 hb
    rw [e] at e'; cases e'
    exact ⟨e, f0, f1, f2, d⟩
theorem Inv.unpinned {pins pl : List (Addr × Obj)} {σ : St} {H : Hp} {s : Shared} (I : Inv X (pins ++ pl) σ H s) : Inv X pins σ H s := I.pins_of fun p hp => I.pin p (List.mem_append_right _ (List.mem_append_left _ hp))
theorem ps_for {iter : Expr} {body : List Stmt} {wi : TI} {g : TG} {tb : TS} {pos : Pos} (hp : PassesOwn (model X.prog X.w) X.A X.env X.xe) (hc : X.calm = true) (hi : PI X tg iter wi) (hg : PG X tg g) (hb : PSs X body tb)
    (hs : ∀ x, foldedSetIterable iter X.env x = pure x := by intro _; rfl) : PS X (.For tg iter body [] pos) (tFor wi g tb) := by
  intro pins s σ H D I h
  refine wpAny_For (thn (hi pins s σ H _ I h) fun v s1 h1 => thn h1 fun itv s2 h2 => ?_) hs
  obtain ⟨it, fp, tn, J, H2, e, I2, T, st2, f2, W, ⟨m0, w0⟩, turn⟩ := h2
  subst e
  -- what stays true of the iterator's objects through the loop
  have stat : ∀ {H' : Hp}, (∀ b ∈ fp, H' b = none) → ∀ b ∈ fp, FpOk X pins H' b := fun hn b hb => ⟨hn b hb, (f2 b hb).2⟩
  refine codeAny_forLoop_any (fun n s' => ∃ i σ' H', Inv X pins σ' H' s' ∧ tn i s'.heap ∧ (∀ b ∈ fp, H' b = none) ∧ W i n σ' H') ?_ m0 ⟨0, σ, H2, I2, st2, fun b hb => (f2 b hb).1, w0⟩
  rintro n s3 ⟨i, σ3, H3, I3, st3, fr3, w3⟩
  rcases turn i n σ3 H3 w3 with ⟨stop, qn⟩ | ⟨go, N, hN, step⟩
  · refine wpAny_passesOwn hp (thn (T.done X rfl rfl rfl hc i pins s3 σ3 H3 X.xe I3 (stat fr3) st3 stop) fun r s4 ⟨hr, I4⟩ => ?_)
    subst hr
    exact wpAny_execs_nil ⟨σ3, H3, I4, qn⟩
  · refine wpAny_passesOwn hp (thn (T.item X rfl rfl rfl hc i pins s3 σ3 H3 X.xe I3 (stat fr3) st3 go) fun r s4 ⟨u, hr, h4⟩ => ?_)
    subst hr
    refine wpAny_passesOwn hp (thn h4 fun _ s5 ⟨x, H5, I5, r5, y5, st5, fr5⟩ => ?_)
    have I5' := I5.pinned (stat fr5) (T.obj _ _ st5)
    refine wpAny_passesOwn hp (thn (hg _ s5 σ3 H5 x u _ I5' r5 (step x H5 y5)) fun _ s6 ⟨σ6, H6, I6, q6⟩ => ?_)
    refine wpAny_passesOwn hp (thn (hb _ s6 σ6 H6 _ I6 q6) fun f s7 q7 => ?_)
    have again : ∀ {σ7 : St} {H7 : Hp}, Inv X (pins ++ pinsAt fp s5.heap) σ7 H7 s7 → N σ7 H7 → ∃ m, m < n ∧ ∃ i σ' H', Inv X pins σ' H' s7 ∧ tn i s7.heap ∧ (∀ b ∈ fp, H' b = none) ∧ W i m σ' H' := fun {σ7 H7} I7 n7 => by
      obtain ⟨m', hm, w7⟩ := hN σ7 H7 n7
      refine ⟨m', hm, i + 1, σ7, H7, I7.unpinned, T.keep _ _ _ st5 fun b hb o e => (I7.pin (b, o) (List.mem_append_right _ (List.mem_append_right _ (mem_pinsAt hb e)))).1, fun b hb => ?_, w7⟩
      obtain ⟨o, e, d⟩ := T.obj _ _ st5 b hb
      exact (I7.pin (b, o) (List.mem_append_right _ (List.mem_append_right _ (mem_pinsAt hb e)))).2.1
    cases f with
    | next => obtain ⟨σ7, H7, I7, n7⟩ := q7; exact again I7 n7
    | cont => obtain ⟨σ7, H7, I7, n7⟩ := q7; exact again I7 n7
    | brk => obtain ⟨σ7, H7, I7, q7⟩ := q7; exact ⟨σ7, H7, I7.unpinned, q7⟩
    | ret v => obtain ⟨x7, σ7, H7, I7, r7, q7⟩ := q7; exact ⟨x7, σ7, H7, I7.unpinned, r7, q7⟩
end

/-! ### the forms one uses -/
theorem for_range {lo : Int} {n : Nat} {g : TG} {tb : TS} {D : Ends} {σ : St} {H : Hp} (Pv : Nat → St → Hp → Prop) (h0 : Pv 0 σ H)
    (hs : ∀ i σ H, i < n → Pv i σ H → g (.int (lo + i)) σ H fun σ2 H2 => tb { D with nx := Pv (i + 1), ct := Pv (i + 1), bk := D.nx } σ2 H2) (hd : ∀ σ H, Pv n σ H → D.nx σ H) :
    ∃ W : Nat → Nat → St → Hp → Prop, (∃ m, W 0 m σ H) ∧ ∀ i m σ H, W i m σ H →
      ((Itr lo n).stop i H ∧ D.nx σ H) ∨ ((Itr lo n).go i H ∧ ∃ N : St → Hp → Prop, (∀ σ' H', N σ' H' → ∃ m', m' < m ∧ W (i + 1) m' σ' H') ∧ ∀ x H', (Itr lo n).yld i H x H' → g x σ H' fun σ2 H2 => tb { D with nx := N, ct := N, bk := D.nx } σ2 H2) := by
  refine ⟨fun i m σ H => m = n - i ∧ i ≤ n ∧ Pv i σ H, ⟨n, by simp, Nat.zero_le _, h0⟩, ?_⟩
  rintro i m σ H ⟨rfl, hi, p⟩
  by_cases hlt : i < n
  · refine .inr ⟨hlt, Pv (i + 1), fun σ' H' p' => ⟨n - (i + 1), by omega, rfl, hlt, p'⟩, fun x H' y => ?_⟩
    obtain ⟨e, y⟩ := y
    subst e y
    exact hs i σ _ hlt p
  · have e : i = n := by omega
    subst e
    exact .inl ⟨Nat.le_refl _, hd σ H p⟩
end L2

namespace L2
open PySem PySem.Spec PyProof.Rows

abbrev R2 := V → V → Hp → VK → Prop
/-- a two-place operation on values: f is binaryOp op, inplaceOp op or compareOp op -/
def OpR (X : Cx) (f : Value → Value → Sem Value) (r : R2) : Prop :=
  ∀ (pins : List (Addr × Obj)) (s : Shared) (σ : St) (H : Hp) (x y : V) (v u : Value) (Q : VK), Inv X pins σ H s → RelV x v → RelV y u → r x y H Q →
    wpAny (model X.prog X.w) X.A (f v u) (EP X pins σ Q) X.xe s
/-- a call of a value that is known (a builtin, a type) with values -/
def CallR (X : Cx) (f : Value) (r : List V → Hp → VK → Prop) : Prop :=
  ∀ (pins : List (Addr × Obj)) (s : Shared) (σ : St) (H : Hp) (xs : List V) (us : List Value) (Q : VK), Inv X pins σ H s → Vals xs us → r xs H Q →
    wpAny (model X.prog X.w) X.A (call f us) (EP X pins σ Q) X.xe s
def tOp (r : R2) (ta tb : TE) : TE := fun σ H Q => ta σ H fun x H1 => tb σ H1 fun y H2 => r x y H2 Q
/-- ints in, under C, and a value out -/
def rI (C : Int → Int → Prop) (g : Int → Int → V) : R2 := fun x y H Q => ∃ i j, x = .int i ∧ y = .int j ∧ C i j ∧ Q (g i j) H
def rI0 (g : Int → Int → V) : R2 := fun x y H Q => ∃ i j, x = .int i ∧ y = .int j ∧ Q (g i j) H
section
variable {X : Cx} {a b c : Expr} {ta tb tc : TE} {pos : Pos}

theorem binT (ha : PE X a ta) (hb : PE X b tb) {pins : List (Addr × Obj)} {s : Shared} {σ : St} {H : Hp} {R : V → V → Hp → Prop} (I : Inv X pins σ H s)
    (h : ta σ H fun x H1 => tb σ H1 fun y H2 => R x y H2) {Q : Value → Shared → Prop} {f : Value → Value → Sem Value}
    (hf : ∀ v u s2 x y H2, Inv X pins σ H2 s2 → RelV x v → RelV y u → R x y H2 → wpAny (model X.prog X.w) X.A (f v u) Q X.xe s2) :
    wpAny (model X.prog X.w) X.A (eval a X.env) (fun v s₁ => wpAny (model X.prog X.w) X.A (eval b X.env) (fun u s₂ => wpAny (model X.prog X.w) X.A (f v u) Q X.xe s₂) X.xe s₁) X.xe s := by
  refine thn (ha pins s σ H _ I h) fun v s1 ⟨x, H1, I1, r1, q1⟩ => ?_
  refine thn (hb pins s1 σ H1 _ I1 q1) fun u s2 ⟨y, H2, I2, r2, q2⟩ => ?_
  exact hf v u s2 x y H2 I2 r1 r2 q2

theorem pe_op {op : Operator} {r : R2} (ho : OpR X (binaryOp op) r) (ha : PE X a ta) (hb : PE X b tb) : PE X (.BinOp a op b pos) (tOp r ta tb) := by
  intro pins s σ H Q I h
  exact wpAny_BinOp (binT ha hb I h fun v u s2 x y H2 I2 rx ry q => ho pins s2 σ H2 x y v u Q I2 rx ry q)
/-! ### ints -/
theorem opI {f : Value → Value → Sem Value} {C : Int → Int → Prop} {g : Int → Int → Int}
    (rule : ∀ (i j : Int) (t u : Tok) (s : Shared) (Q : Value → Shared → Prop) (E : Value → Shared → Prop), C i j → Q (.int (g i j) s.toks) { s with toks := s.toks + 1 } → wpAny (model X.prog X.w) X.A (f (.int i t) (.int j u)) Q E s) :
    OpR X f (rI C fun i j => .int (g i j)) := by
  intro pins s σ H x y v u Q I rx ry h
  obtain ⟨i, j, rfl, rfl, hc, q⟩ := h
  obtain ⟨t, rfl⟩ := rx
  obtain ⟨t', rfl⟩ := ry
  exact rule i j t t' s _ _ hc ⟨.int (g i j), H, I.tok _, ⟨_, rfl⟩, q⟩
theorem opI0 {f : Value → Value → Sem Value} {g : Int → Int → Int}
    (rule : ∀ (i j : Int) (t u : Tok) (s : Shared) (Q : Value → Shared → Prop) (E : Value → Shared → Prop), Q (.int (g i j) s.toks) { s with toks := s.toks + 1 } → wpAny (model X.prog X.w) X.A (f (.int i t) (.int j u)) Q E s) :
    OpR X f (rI0 fun i j => .int (g i j)) := by
  intro pins s σ H x y v u Q I rx ry h
  obtain ⟨i, j, rfl, rfl, q⟩ := h
  obtain ⟨t, rfl⟩ := rx
  obtain ⟨t', rfl⟩ := ry
  exact rule i j t t' s _ _ ⟨.int (g i j), H, I.tok _, ⟨_, rfl⟩, q⟩
theorem opB0 {f : Value → Value → Sem Value} {g : Int → Int → Bool}
    (rule : ∀ (i j : Int) (t u : Tok) (s : Shared) (Q : Value → Shared → Prop) (E : Value → Shared → Prop), Q (.bool (g i j)) s → wpAny (model X.prog X.w) X.A (f (.int i t) (.int j u)) Q E s) :
    OpR X f (rI0 fun i j => .bl (g i j)) := by
  intro pins s σ H x y v u Q I rx ry h
  obtain ⟨i, j, rfl, rfl, q⟩ := h
  obtain ⟨t, rfl⟩ := rx
  obtain ⟨t', rfl⟩ := ry
  exact rule i j t t' s _ _ ⟨.bl (g i j), H, I, rfl, q⟩

def CDiv (i j : Int) : Prop := 0 < j ∧ j < 1073741824
def CPow (i j : Int) : Prop := 0 ≤ j ∧ j ≤ 1000000 ∧ i.natAbs < 2 ^ 64
def CMul (i j : Int) : Prop := (-(2 ^ 64) < i ∧ i < 2 ^ 64) ∨ (-(2 ^ 64) < j ∧ j < 2 ^ 64)
theorem CMul.ok {i j : Int} (h : CMul i j) : IntMulOk i j := by
  rcases h with ⟨h1, h2⟩ | ⟨h1, h2⟩
  · exact .of_left (intBits_le_64 h1 h2)
  · exact .of_right (intBits_le_64 h1 h2)
theorem op_add : OpR X (binaryOp .Add) (rI0 fun i j => .int (i + j)) := opI0 fun _ _ _ _ _ _ _ q => add_int q
theorem op_sub : OpR X (binaryOp .Sub) (rI0 fun i j => .int (i - j)) := opI0 fun _ _ _ _ _ _ _ q => sub_int q
theorem op_mul : OpR X (binaryOp .Mult) (rI CMul fun i j => .int (i * j)) := opI fun _ _ _ _ _ _ _ hc q => mul_int q hc.ok
/-- // by a positive divisor -/
theorem op_fdiv : OpR X (binaryOp .FloorDiv) (rI CDiv fun i j => .int (i / j)) := opI fun i j _ _ _ _ _ hc q => by
  have h1 : (0 : Int) < j := hc.1
  have h2 : j < 1073741824 := hc.2
  exact floordiv_int (by omega) (by rw [Int.fdiv_eq_ediv_of_nonneg i (by omega)]; exact q) (.inl (PyProof.noPylong_small (by omega)))
/-- % by a positive divisor of any size -/
theorem op_mod : OpR X (binaryOp .Mod) (rI (fun _ j => 0 < j) fun i j => .int (i % j)) := opI fun i j _ _ _ _ _ hc q => by
  have h1 : (0 : Int) < j := hc
  exact mod_int' (by omega) (by rw [Int.fmod_eq_emod_of_nonneg i (by omega)]; exact q)
theorem op_pow : OpR X (binaryOp .Pow) (rI CPow fun i j => .int (i ^ j.toNat)) := opI fun _ _ _ _ _ _ _ hc q => pow_int_small hc.1 hc.2.1 hc.2.2 q
/-! ### bools among ints: n += (a < b) -/
end

/-! ### comparisons -/
/-- the scalars that == tells apart as data does -/
def scal : V → V → Bool
  | .non, .non => true | .non, .int _ => true | .int _, .non => true | .non, .bl _ => true | .bl _, .non => true | .non, .str _ => true | .str _, .non => true
  | .int _, .int _ => true | .bl _, .bl _ => true | .str _, .str _ => true | .byt _, .byt _ => true
  | .int _, .str _ => true | .str _, .int _ => true | .bl _, .str _ => true | .str _, .bl _ => true
  | _, _ => false
def rEq : R2 := fun x y H Q => scal x y = true ∧ Q (.bl (decide (x = y))) H
def rNe : R2 := fun x y H Q => scal x y = true ∧ Q (.bl (!decide (x = y))) H

theorem dec_int {i j : Int} : decide (V.int i = V.int j) = (i == j) := by
  rw [Bool.eq_iff_iff]
  simp
theorem dec_bl {i j : Bool} : decide (V.bl i = V.bl j) = (i == j) := by
  rw [Bool.eq_iff_iff]
  simp
theorem dec_str {i j : Str} : decide (V.str i = V.str j) = (i == j) := by
  rw [Bool.eq_iff_iff]
  simp
theorem dec_byt {i j : Array UInt8} : decide (V.byt i = V.byt j) = (i.toList == j.toList) := by
  rw [Bool.eq_iff_iff]
  cases i
  cases j
  simp

section
variable {X : Cx} {a b c : Expr} {ta tb tc : TE} {pos : Pos}
theorem fin_bl {pins : List (Addr × Obj)} {σ : St} {H : Hp} {s : Shared} {Q : VK} {k k' : Bool} (I : Inv X pins σ H s) (q : Q (.bl k) H) (e : k = k') : EP X pins σ Q (.bool k') s := by
  subst e
  exact ⟨.bl k, H, I, rfl, q⟩
theorem op_eq : OpR X (compareOp .Eq) rEq := by
  intro pins s σ H x y v u Q I rx ry h
  obtain ⟨hs, q⟩ := h
  cases x with
  | non =>
    cases rx
    cases y with
    | non => cases ry; exact PySem.EqNone.eq_none_none (fin_bl I q (by simp))
    | bl j => cases ry; exact PySem.EqNone.eq_none_bool (fin_bl I q (by simp))
    | int j => obtain ⟨t', rfl⟩ := ry; exact PySem.EqNone.eq_none_int (fin_bl I q (by simp))
    | str j => obtain ⟨t', rfl⟩ := ry; exact PySem.EqNone.eq_none_str (fin_bl I q (by simp))
    | _ => exact absurd (show false = true from hs) Bool.false_ne_true
  | bl i =>
    cases rx
    cases y with
    | non => cases ry; exact PySem.EqNone.eq_bool_none (fin_bl I q (by simp))
    | bl j => cases ry; exact eq_bool (fin_bl I q dec_bl)
    | str j => obtain ⟨t', rfl⟩ := ry; exact PySem.EqMixed.eq_bool_str (fin_bl I q (by simp))
    | _ => exact absurd (show false = true from hs) Bool.false_ne_true
  | int i =>
    obtain ⟨t, rfl⟩ := rx
    cases y with
    | non => cases ry; exact PySem.EqNone.eq_int_none (fin_bl I q (by simp))
    | int j => obtain ⟨t', rfl⟩ := ry; exact eq_int (fin_bl I q dec_int)
    | str j => obtain ⟨t', rfl⟩ := ry; exact PySem.EqMixed.eq_int_str (fin_bl I q (by simp))
    | _ => exact absurd (show false = true from hs) Bool.false_ne_true
  | str i =>
    obtain ⟨t, rfl⟩ := rx
    cases y with
    | non => cases ry; exact PySem.EqNone.eq_str_none (fin_bl I q (by simp))
    | bl j => cases ry; exact PySem.EqMixed.eq_str_bool (fin_bl I q (by simp))
    | int j => obtain ⟨t', rfl⟩ := ry; exact PySem.EqMixed.eq_str_int (fin_bl I q (by simp))
    | str j => obtain ⟨t', rfl⟩ := ry; exact eq_str (fin_bl I q dec_str)
    | _ => exact absurd (show false = true from hs) Bool.false_ne_true
  | byt i =>
    obtain ⟨t, rfl⟩ := rx
    cases y with
    | byt j => obtain ⟨t', rfl⟩ := ry; exact PySem.W.eq_bytes (fin_bl I q dec_byt)
    | _ => exact absurd (show false = true from hs) Bool.false_ne_true
  | _ => cases y <;> exact absurd (show false = true from hs) Bool.false_ne_true
theorem op_ne : OpR X (compareOp .NotEq) rNe := by
  intro pins s σ H x y v u Q I rx ry h
  obtain ⟨hs, q⟩ := h
  cases x with
  | non =>
    cases rx
    cases y with
    | non => cases ry; exact PySem.EqNone.ne_none_none (fin_bl I q (by simp))
    | bl j => cases ry; exact PySem.EqNone.ne_none_bool (fin_bl I q (by simp))
    | int j => obtain ⟨t', rfl⟩ := ry; exact PySem.EqNone.ne_none_int (fin_bl I q (by simp))
    | str j => obtain ⟨t', rfl⟩ := ry; exact PySem.EqNone.ne_none_str (fin_bl I q (by simp))
    | _ => exact absurd (show false = true from hs) Bool.false_ne_true
  | bl i =>
    cases rx
    cases y with
    | non => cases ry; exact PySem.EqNone.ne_bool_none (fin_bl I q (by simp))
    | bl j => cases ry; exact ne_bool (fin_bl I q (congrArg not dec_bl))
    | str j => obtain ⟨t', rfl⟩ := ry; exact PySem.EqMixed.ne_bool_str (fin_bl I q (by simp))
    | _ => exact absurd (show false = true from hs) Bool.false_ne_true
  | int i =>
    obtain ⟨t, rfl⟩ := rx
    cases y with
    | non => cases ry; exact PySem.EqNone.ne_int_none (fin_bl I q (by simp))
    | int j => obtain ⟨t', rfl⟩ := ry; exact ne_int (fin_bl I q (congrArg not dec_int))
    | str j => obtain ⟨t', rfl⟩ := ry; exact PySem.EqMixed.ne_int_str (fin_bl I q (by simp))
    | _ => exact absurd (show false = true from hs) Bool.false_ne_true
  | str i =>
    obtain ⟨t, rfl⟩ := rx
    cases y with
    | non => cases ry; exact PySem.EqNone.ne_str_none (fin_bl I q (by simp))
    | bl j => cases ry; exact PySem.EqMixed.ne_str_bool (fin_bl I q (by simp))
    | int j => obtain ⟨t', rfl⟩ := ry; exact PySem.EqMixed.ne_str_int (fin_bl I q (by simp))
    | str j => obtain ⟨t', rfl⟩ := ry; exact ne_str (fin_bl I q (congrArg not dec_str))
    | _ => exact absurd (show false = true from hs) Bool.false_ne_true
  | byt i =>
    obtain ⟨t, rfl⟩ := rx
    cases y with
    | byt j => obtain ⟨t', rfl⟩ := ry; exact PySem.W.ne_bytes (fin_bl I q (congrArg not dec_byt))
    | _ => exact absurd (show false = true from hs) Bool.false_ne_true
  | _ => cases y <;> exact absurd (show false = true from hs) Bool.false_ne_true

theorem op_lt : OpR X (compareOp .Lt) (rI0 fun i j => .bl (decide (i < j))) := opB0 fun _ _ _ _ _ _ _ q => lt_int q
theorem op_ge : OpR X (compareOp .GtE) (rI0 fun i j => .bl (decide (j ≤ i))) := opB0 fun _ _ _ _ _ _ _ q => ge_int q
theorem nomark (b : Expr) {op : CmpOp} (h : op ≠ .In := by decide) (h2 : op ≠ .NotIn := by decide) : behindInMarks op b = false := by
  have e1 : (op == CmpOp.In) = false := by cases op <;> first | rfl | exact absurd rfl h
  have e2 : (op == CmpOp.NotIn) = false := by cases op <;> first | rfl | exact absurd rfl h2
  cases b <;> simp [behindInMarks, e1, e2]
/-- a reading of a value as a test -/
def tTest (t : TE) : TT := fun σ H Q => t σ H fun x H' => ∃ k, x = .bl k ∧ Q k H'
theorem pt_cmpR {op : CmpOp} {r : R2} (ho : OpR X (compareOp op) r) (ha : PE X a ta) (hb : PE X b tb) (hm : behindInMarks op b = false) : PT X (.Compare a [op] [b] pos) (tTest (tOp r ta tb)) := by
  intro pins s σ H Q I h
  refine wpAny_isTrue_Compare1 (thn (ha pins s σ H _ I h) fun v s1 ⟨x, H1, I1, r1, q1⟩ => thn (hb pins s1 σ H1 _ I1 q1) fun u s2 ⟨y, H2, I2, r2, q2⟩ =>
    thn (ho pins s2 σ H2 x y v u _ I2 r1 r2 q2) fun c s3 ⟨z, H3, I3, r3, k, e, q3⟩ => ?_) hm
  subst e
  cases r3
  exact wpAny_truthy_bool ⟨H3, I3, q3⟩
/-! ### truth -/
theorem line63 : (sizeLine : Nat) < 2 ^ 63 := by rw [sizeLine_eq]; decide
/-! ### strs and bytes -/
/-! ### scalar builtins, by CallR -/
theorem vals1 {x : V} {us : List Value} (r : Vals [x] us) : ∃ u, us = [u] ∧ RelV x u := by
  cases r with
  | cons r1 r2 => cases r2; exact ⟨_, rfl, r1⟩
theorem vals2 {x y : V} {us : List Value} (r : Vals [x, y] us) : ∃ u w', us = [u, w'] ∧ RelV x u ∧ RelV y w' := by
  cases r with
  | cons r1 r2 =>
    cases r2 with
    | cons r3 r4 => cases r4; exact ⟨_, _, rfl, r1, r3⟩
theorem call_max2 (hc : X.calm = true) : CallR X (.builtin "max") (fun xs H Q => ∃ i j, xs = [.int i, .int j] ∧ Q (.int (if j > i then j else i)) H) := by
  intro pins s σ H xs us Q I r h
  obtain ⟨i, j, rfl, q⟩ := h
  obtain ⟨u, w', rfl, ⟨t, rfl⟩, ⟨t', rfl⟩⟩ := vals2 r
  refine max_two_ints (I.ok.hd hc) fun h' tk k => ⟨_, H, I.kept k, ?_, q⟩
  by_cases hj : j > i
  · rw [if_pos hj, if_pos hj]; exact ⟨_, rfl⟩
  · rw [if_neg hj, if_neg hj]; exact ⟨_, rfl⟩
theorem call_min2 (hc : X.calm = true) : CallR X (.builtin "min") (fun xs H Q => ∃ i j, xs = [.int i, .int j] ∧ Q (.int (if j < i then j else i)) H) := by
  intro pins s σ H xs us Q I r h
  obtain ⟨i, j, rfl, q⟩ := h
  obtain ⟨u, w', rfl, ⟨t, rfl⟩, ⟨t', rfl⟩⟩ := vals2 r
  refine min_two_ints (I.ok.hd hc) fun h' tk k => ⟨_, H, I.kept k, ?_, q⟩
  by_cases hj : j < i
  · rw [if_pos hj, if_pos hj]; exact ⟨_, rfl⟩
  · rw [if_neg hj, if_neg hj]; exact ⟨_, rfl⟩
end
end L2

namespace L2
open PySem PySem.Spec PyProof.Rows

/-! ### an instance, its attributes a map -/
structure ObjM (h : Heap) (x dx C : Addr) (mA : Str → Option Value) : Prop where
  obj : h.get? x = some (PySem.W.instObj C dx)
  ns : h.Ns1 dx mA
  ne : dx ≠ x

theorem lookIn_ns {h : Heap} {dx : Addr} {mA : Str → Option Value} (n : h.Ns1 dx mA) : ∃ od, h.get? dx = some od ∧ ∀ name, PySem.W.lookIn name od = some (mA name) := by
  obtain ⟨o, es, ep, ho, hd, hk, _, hm⟩ := n
  refine ⟨o, ho, fun name => ?_⟩
  have e := hm name
  unfold nsFind findBy at e
  rw [← Array.find?_toList] at e
  unfold PySem.W.lookIn
  rw [hd]
  dsimp only
  split
  · rename_i y q
    rw [q] at e
    exact congrArg some e
  · rename_i q
    rw [q] at e
    have a : es.toList.any (·.refKey) = false := by
      rw [List.any_eq_false]
      intro y hy
      obtain ⟨z, t, hkey⟩ := hk y (Array.mem_toList_iff.mp hy)
      simp [DictEntry.refKey, hkey]
    have a' : ¬ es.toList.any (·.refKey) = true := by rw [a]; exact Bool.false_ne_true
    rw [if_neg a']
    exact congrArg some e

theorem ObjM.look {h : Heap} {x dx C : Addr} {mA : Str → Option Value} (I : ObjM h x dx C mA) : ∃ od, PySem.W.InstAt h x (PySem.W.instObj C dx) C (some od) ∧ ∀ name, PySem.W.lookIn name od = some (mA name) :=
  let ⟨od, ho, hl⟩ := lookIn_ns I.ns
  ⟨od, ⟨I.obj, rfl, rfl, ho⟩, hl⟩

section
variable {prog : Program} {w : World} {A : Around} {E : Value → Shared → Prop} {s : Shared} {K : PySem.W.Frag} {x dx C f : Addr} {mA : Str → Option Value} {name : Str} {v : Value}

end

/-! ### the attributes as a list of pairs -/
section
variable {P : Program} {w : World} {H H' : Hp} {h h' : Heap} {a C dx : Addr} {fs fs' : List (Str × V)}
theorem ins_get (hok : HOk P w H h) (e : H a = some (.ins C dx fs)) : ∃ mA, ObjM h a dx C mA ∧ (∀ f, RelO (fs.lookup f) (mA f)) ∧ PySem.Within mA (fs.map (·.1)) ∧ fs.length ≤ 1000 ∧ H dx = some (.own a) := by
  obtain ⟨d, z, ne, ob, mA, n, r, q⟩ := (show ObjOk P w H h a (.ins C dx fs) from hok a _ e)
  exact ⟨mA, ⟨ob, n, ne⟩, r, q, z, d⟩
end

/-! ### what of the text a class must have -/
structure Cls (K : PySem.W.Frag) (C : Addr) : Prop where
  pg : PySem.W.plainGet K C Str.empty = true
  hd : PySem.W.hasDictIn K C = true
  po : PySem.W.plainOver K C = true
  sa : PySem.W.findIn K (.ref C) "__setattr__" = some (some (.builtin "object.__setattr__"))
theorem Cls.get {K : PySem.W.Frag} {C : Addr} (c : Cls K C) (f : Str) : PySem.W.plainGet K C f = true := c.pg
/-- a constant of the class -/
structure Con (K : PySem.W.Frag) (C : Addr) (f : Str) (v : V) (u : Value) : Prop where
  at_ : PySem.W.findIn K (.ref C) f = some (some u)
  rel : RelV v u
  get : PySem.W.specialIn K u "__get__" = some none
  cp : PySem.W.copiedNames.contains f = false
/-- a method: a plain def of the class or of one above it -/
structure Meth (K : PySem.W.Frag) (C : Addr) (m : Str) (f : Addr) : Prop where
  at_ : PySem.W.findIn K (.ref C) m = some (some (.ref f))
  fn : PySem.W.isFn K (.ref f) = true
  kp : PySem.W.keepIn K (.ref f) = true

section
variable {X : Cx} {pins : List (Addr × Obj)} {σ : St} {H : Hp} {s : Shared} {a C dx : Addr} {fs : List (Str × V)} {f : Str} {v : V} {A : Around} {E : Value → Shared → Prop}

end

/-! ### readings and rules -/
section
variable {X : Cx} {o e value : Expr} {f : Str} {pos pos' tpos : Pos} {ta tv : TE}
end

/-! ### isinstance -/
section
variable {X : Cx} {pins : List (Addr × Obj)} {σ : St} {H : Hp} {s : Shared} {A : Around} {E : Value → Shared → Prop} {Q : Value → Shared → Prop} {c : Value} {b : Bool}
/-- the type of a value, as the fragment's deciders take it; for an instance its class -/
inductive TyOf (K : PySem.W.Frag) (H : Hp) : V → Value → Prop where
  | non : TyOf K H .non (.type "NoneType")
  | bl (x : Bool) : TyOf K H (.bl x) (.type "bool")
  | int (i : Int) : TyOf K H (.int i) (.type "int")
  | str (x : Str) : TyOf K H (.str x) (.type "str")
  | flt (x : UInt64) : TyOf K H (.flt x) (.type "float")
  | lst {a : Addr} {xs : List V} (e : H a = some (.lst xs)) : TyOf K H (.ref a) (.type "list")
  | frz {a : Addr} {o : Obj} {xs : List V} (e : H a = some (.frz o (.lst xs))) : TyOf K H (.ref a) (.type "list")
  | tup {a : Addr} {xs : List V} (e : H a = some (.tup xs)) : TyOf K H (.ref a) (.type "tuple")
  | dK {a : Addr} {kvs : List (Key × V)} (e : H a = some (.dK kvs)) : TyOf K H (.ref a) (.type "dict")
  | dT {a : Addr} {kvs : List (List Key × V)} (e : H a = some (.dT kvs)) : TyOf K H (.ref a) (.type "dict")
  | ins {a C dx : Addr} {fs : List (Str × V)} (e : H a = some (.ins C dx fs)) (cl : Cls K C) (ha : PySem.W.findIn K (.ref C) "__class__" = some (some (.builtin "object.__class__")))
      (hn : PySem.W.specialIn K (.builtin "object.__class__") "__get__" = some (some (.builtin "getset_descriptor.__get__"))) (htk : PySem.W.takesIn K (.builtin "object.__class__") = some true)
      (hm : PySem.W.mroIn K C (.type "object") = some true) : TyOf K H (.ref a) (.ref C)
/-- isinstance(x, c) for one class c, a built-in or an own one: kitOne's answer -/
theorem isinst_ok {x : V} {u t : Value} (I : Inv X pins σ H s) (rx : RelV x u) (ty : TyOf X.K H x t) (e : PySem.W.kitOne X.K t c = some b) (h : ∀ tk, Q (.bool b) { s with toks := tk }) :
    wpAny (model X.prog X.w) A (call (.builtin "isinstance") [u, c]) Q E s := by
  cases ty with
  | non => cases (show u = Value.none from rx); exact PySem.W.kia_one PySem.W.kitx_none I.kIn True.intro e (fun z => nomatch z) h
  | bl y => cases (show u = Value.bool y from rx); exact PySem.W.kia_one PySem.W.kitx_bool I.kIn True.intro e (fun z => nomatch z) h
  | int i => obtain ⟨t, q⟩ := (show ∃ t, u = Value.int i t from rx); cases q; exact PySem.W.kia_one PySem.W.kitx_int I.kIn True.intro e (fun z => nomatch z) h
  | str y => obtain ⟨t, q⟩ := (show ∃ t, u = Value.str y t from rx); cases q; exact PySem.W.kia_one PySem.W.kitx_str I.kIn True.intro e (fun z => nomatch z) h
  | flt y => obtain ⟨t, q⟩ := (show ∃ t, u = Value.float y t from rx); cases q; exact PySem.W.kia_one PySem.W.kitx_float I.kIn True.intro e (fun z => nomatch z) h
  | @lst a xs ea =>
    cases (show u = Value.ref a from rx)
    obtain ⟨_, _, n, _, h1⟩ := (show ObjOk X.prog X.w H s.heap a (.lst xs) from I.hok a _ ea)
    exact PySem.W.kia_one PySem.W.kitx_list I.kIn ⟨_, h1, rfl⟩ e (fun z => nomatch z) h
  | @frz a ob xs ea =>
    cases (show u = Value.ref a from rx)
    obtain ⟨_, _, _, n, _, h1⟩ := (show ObjOk X.prog X.w H s.heap a (.frz ob (.lst xs)) from I.hok a _ ea)
    exact PySem.W.kia_one PySem.W.kitx_list I.kIn ⟨_, h1, rfl⟩ e (fun z => nomatch z) h
  | @tup a xs ea =>
    cases (show u = Value.ref a from rx)
    obtain ⟨_, _, _, p⟩ := (show ObjOk X.prog X.w H s.heap a (.tup xs) from I.hok a _ ea)
    obtain ⟨o, h1, h2, _⟩ := p
    exact PySem.W.kia_one PySem.W.kitx_tuple I.kIn ⟨o, h1, h2⟩ e (fun z => nomatch z) h
  | @dK a kvs ea =>
    cases (show u = Value.ref a from rx)
    obtain ⟨_, _, vs, _, p⟩ := (show ObjOk X.prog X.w H s.heap a (.dK kvs) from I.hok a _ ea)
    obtain ⟨o, es, ep, h1, h2, _⟩ := p
    exact PySem.W.kia_one PySem.W.kitx_dict I.kIn ⟨o, h1, h2.1⟩ e (fun z => nomatch z) h
  | @dT a kvs ea =>
    cases (show u = Value.ref a from rx)
    obtain ⟨_, _, xs, _, o, es, ep, h1, h2, _⟩ := (show ObjOk X.prog X.w H s.heap a (.dT kvs) from I.hok a _ ea)
    exact PySem.W.kia_one PySem.W.kitx_dict I.kIn ⟨o, h1, h2.1⟩ e (fun z => nomatch z) h
  | @ins a C dx fs ea cl ha hn htk hm =>
    cases (show u = Value.ref a from rx)
    obtain ⟨mA, O, _⟩ := ins_get I.hok ea
    obtain ⟨od, J, _⟩ := O.look
    exact PySem.W.kia_one (PySem.W.kitx_own (cl.get _) cl.hd ha hn htk hm) I.kIn J e (fun z => nomatch z) h
end
end L2

namespace L2
open PySem PySem.Spec PyProof.Rows

/-! ### room -/
structure Room (k : Nat) (A : Around) : Prop where
  hd : A.handled = none
  dp : A.depth + 3 * k + 5 < recursionLimit
  un : A.units + 16 * k + 200 < cLine
theorem Room.mono {j k : Nat} {A : Around} (r : Room k A) (h : j ≤ k) : Room j A := ⟨r.hd, by have := r.dp; omega, by have := r.un; omega⟩
theorem Room.deeper {k : Nat} {A : Around} (r : Room (k + 1) A) (env : Env) : Room k (A.deeper env) :=
  ⟨r.hd, by have := r.dp; show A.depth + 1 + 3 * k + 5 < _; omega, by have := r.un; show A.units + 3 + 16 * k + 200 < _; omega⟩
theorem Room.depth {k : Nat} {A : Around} (r : Room k A) : A.depth < recursionLimit := by have := r.dp; omega
theorem Room.units {k : Nat} {A : Around} (r : Room k A) : A.units + 64 < cLine := by have := r.un; omega
/-! ### argument lists and displays -/
def tNil : TA := fun _ H Q => Q [] H
def tCons (ta : TE) (tr : TA) : TA := fun σ H Q => ta σ H fun x H1 => tr σ H1 fun xs H2 => Q (x :: xs) H2
section
variable {X : Cx} {e : Expr} {es : List Expr} {te : TE} {t : TA} {pos : Pos}
theorem pa_nil : PA X [] tNil := fun _ _ _ _ H Q I h => Calls.spliced_nil ⟨[], H, I, .nil, h⟩
theorem pa_cons (ha : PE X e te) (hr : PA X es t) (hs : starEach (e :: es) X.env = (false, eval e X.env) :: starEach es X.env := by rfl) : PA X (e :: es) (tCons te t) := by
  intro pos pins s σ H Q I h
  rw [hs]
  show wpAny _ _ (spliced ((false, eval e X.env) :: backTo pos (starEach es X.env))) _ _ s
  refine Calls.spliced_cons (thn (ha pins s σ H _ I h) fun u s1 ⟨x, H1, I1, r1, q1⟩ => ?_)
  exact thn (hr pos pins s1 σ H1 _ I1 q1) fun us s2 ⟨xs, H2, I2, r2, q2⟩ => ⟨x :: xs, H2, I2, .cons r1 r2, q2⟩

def tLst (t : TA) : TE := fun σ H Q => t σ H fun xs H1 => xs.length ≤ sizeLine ∧ ∀ p, H1 p = none → Q (.ref p) (upd H1 p (.lst xs))
theorem pe_lst (h : PA X es t) : PE X (.List es pos) (tLst t) := by
  intro pins s σ H Q I hq
  refine wpAny_List_spliced (thn (h pos pins s σ H _ I hq) fun us s1 ⟨xs, H1, I1, r, z, q⟩ => ⟨by rw [← r.length]; exact z, ?_⟩)
  have hf : H1 s1.heap.objs.size = none := I1.hok.fresh (Nat.le_refl _)
  refine ⟨.ref s1.heap.objs.size, upd H1 s1.heap.objs.size (.lst xs), I1.laid (t' := s1.toks) (fun b u e => Heap.get?_push_of_some _ e) (Nat.le_refl _) ?_, rfl, q _ hf⟩
  exact ⟨z, us, 0, r, Heap.get?_push_size _ rfl⟩
end

/-! ### what a def promises -/
/-- a def's promise: the bound arguments in the parameters' order, the heap, the wanted end, the wanted exception -/
abbrev Sp := List V → Hp → VK → XK → Prop
/-- how an exception lies behind a call (file 08 gives it): the callers' frames, abstract heap and state ahead of the call, the wish, the exception, the state -/
abbrev CXT := List Env → Hp → Shared → XK → Value → Shared → Prop

/-- the state at a call -/
structure Env0 (P : Program) (w : World) (K : PySem.W.Frag) (mg : Str → Option Value) (base : Heap) (A : Around) (outer : List Env) (s : Shared) (H : Hp) : Prop where
  frames : A.frames = some outer
  mod : Mod K mg base
  bs : ∀ b o, base.get? b = some o → s.heap.get? b = some o ∧ H b = none
  bsz : base.objs.size ≤ s.heap.objs.size
  funs : s.heap.FunFrames base outer
  frf : ∀ b ∈ frs outer, H b = none
  hok : HOk P w H s.heap
  bare : AllBare s.gens
/-- a call's end -/
def CE (outer : List Env) (P : Program) (w : World) (H : Hp) (s : Shared) (Q : VK) (u : Value) (s' : Shared) : Prop :=
  ∃ v H', s'.os = s.os ∧ AllBare s'.gens ∧ Un (frs outer) [] H H' s.heap s'.heap ∧ HOk P w H' s'.heap ∧ RelV v u ∧ Q v H'
def CR (CX : CXT) (outer : List Env) (P : Program) (w : World) (H : Hp) (s : Shared) (Q : VK) (E : XK) (r : Result) (s' : Shared) : Prop :=
  match r with
  | .ok (.ret u) => CE outer P w H s Q u s'
  | .ok _ => False
  | .error e => CX outer H s E e s'
structure FnOk (P : Program) (w : World) (K : PySem.W.Frag) (mg : Str → Option Value) (base : Heap) (CX : CXT) (k : Nat) (f : Addr) (fd : FuncData) (ps : List Str) (sp : Sp) : Prop where
  len : ∀ vs H Q E, sp vs H Q E → vs.length = ps.length
  run : ∀ (A : Around) (outer : List Env) (s : Shared) (H : Hp) (args : Args) (us : List Value) (vs : List V) (Q : VK) (E : XK), Room k A → Env0 P w K mg base A outer s H → BindsTo s fd args (ps.zip us) → Vals vs us → sp vs H Q E →
    codeAny (model P w) A (.call (.ref f) args) (CR CX outer P w H s Q E) s
section
variable {X : Cx} {pins : List (Addr × Obj)} {σ : St} {H : Hp} {s s' : Shared}
/-- from a body: what a callee wants -/
theorem Inv.env0 (I : Inv X pins σ H s) : Env0 X.prog X.w X.K X.mg X.base X.A X.stack s H :=
  ⟨I.ok.frames, I.ok.mod, I.bs, Nat.le_trans I.ok.bsz I.sz, I.stack, I.stkFree, I.hok, I.bare⟩
/-- behind a call -/
theorem Inv.after {Q : VK} {u : Value} (I : Inv X pins σ H s) (h : CE X.stack X.prog X.w H s Q u s') : EP X pins σ Q u s' := by
  obtain ⟨v, H', os, bare, un, hok, r, q⟩ := h
  obtain ⟨hh, g, d, t, os'⟩ := s'
  obtain rfl : os' = s.os := os
  exact ⟨v, H', I.call (h' := hh) (g' := g) (d' := d) (t' := t) (ch := []) un hok bare (fun b z => absurd z (by simp)), r, q⟩
end

/-! ### calls -/
/-- f(..): the written arguments, then the defaults dvs; E: what is wanted of an exception -/
def tCall (sp : Sp) (dvs : List V) (E : XK) (t : TA) : TE := fun σ H Q => t σ H fun vs H1 => sp (vs ++ dvs) H1 Q E
/-- how the parameters are bound: us the positional arguments, kw the keywords' values by name, ds the defaults that fill up -/
def Binds (K : PySem.W.Frag) (fd : FuncData) (ps : List Str) (ds : List Value) : Prop :=
  ∀ (s : Shared) (us : List Value), K.In s.heap → (us ++ ds).length = ps.length → BindsTo s fd ⟨us, []⟩ (ps.zip (us ++ ds))
/-- every parameter is given -/
theorem Binds.all {K : PySem.W.Frag} {fd : FuncData} {ps : List Str} (h : ∀ us : List Value, us.length = ps.length → bindArgs fd ⟨us, []⟩ = pure (ps.zip us)) : Binds K fd ps [] := fun s us _ hl => by
  rw [List.append_nil] at hl ⊢
  exact .of_eq (h us hl)

/-- an exception of a callee reaches what this body wants of exceptions -/
def Passes (CX : CXT) (X : Cx) (E : XK) : Prop := ∀ (pins : List (Addr × Obj)) (σ : St) (H : Hp) (s : Shared) (e : Value) (s' : Shared), Inv X pins σ H s → CX X.stack H s E e s' → X.xe e s'

section
variable {X : Cx} {CX : CXT} {k : Nat} {f C : Addr} {fd : FuncData} {ps : List Str} {sp : Sp} {dvs : List V} {ds : List Value} {E : XK} {x m : Str} {p pos apos : Pos} {e o : Expr} {es : List Expr} {ta : TE} {t : TA}

/-- the callee runs -/
theorem run_fn {pins : List (Addr × Obj)} {σ : St} {H : Hp} {s : Shared} {Q : VK} {us : List Value} {vs : List V} (F : FnOk X.prog X.w X.K X.mg X.base CX k f fd ps sp) (hr : Room k X.A) (hb : Binds X.K fd ps ds) (hd : Vals dvs ds) (hx : Passes CX X E)
    (I : Inv X pins σ H s) (r : Vals vs us) (h : sp (vs ++ dvs) H Q E) : wpAny (model X.prog X.w) X.A (call (.ref f) us) (EP X pins σ Q) X.xe s := by
  have r2 : Vals (vs ++ dvs) (us ++ ds) := r.append hd
  have hl : (us ++ ds).length = ps.length := by rw [← r2.length]; exact F.len _ _ _ _ h
  refine wpAny_call (codeAny_mono (F.run X.A X.stack s H ⟨us, []⟩ (us ++ ds) (vs ++ dvs) Q E hr I.env0 (hb s us I.kIn hl) r2 h) fun r s' hq => ?_)
  cases r with
  | error e => exact hx pins σ H s e s' I hq
  | ok fl =>
    cases fl with
    | ret u => exact I.after hq
    | next => exact False.elim hq
    | brk => exact False.elim hq
    | cont => exact False.elim hq

theorem pe_call (F : FnOk X.prog X.w X.K X.mg X.base CX k f fd ps sp) (hr : Room k X.A) (hg : Gl X x) (hm : X.mg x = some (.ref f)) (hk : PySem.W.keepIn X.K (.ref f) = true) (hb : Binds X.K fd ps ds) (hd : Vals dvs ds) (hx : Passes CX X E)
    (ha : PA X (e :: es) t) (hdb : (x == ("__debug__" : Str)) = false := by decide) (he : starEach (e :: es) X.env = (false, eval e X.env) :: starEach es X.env := by rfl) (hpl : (backTo pos (starEach es X.env)).any (·.1) = false := by rfl) :
    PE X (.Call (.Name x p) (e :: es) [] pos) (tCall sp dvs E t) := by
  intro pins s σ H Q I h
  refine wpAny_Call_Name_kw (ld_glob I hg hm ?_ hdb)
  refine PySem.W.callWith_K (h₀ := X.base) I.ok.mod.kin hk (thn (ha pos pins s σ H _ I h) fun us s1 ⟨vs, H1, I1, r, q⟩ => ⟨I1.kIn, ?_⟩) he hpl
  exact run_fn F hr hb hd hx I1 r q
/-- what a class must have to be made -/
structure Mk (K : PySem.W.Frag) (C f : Addr) : Prop where
  makes : PySem.W.makesIn K C = true
  init : PySem.W.findIn K (.ref C) "__init__" = some (some (.ref f))
  fn : PySem.W.isFn K (.ref f) = true
  kp : PySem.W.keepIn K (.ref C) = true

end

/-! ### keywords -/
section
variable {X : Cx} {CX : CXT} {k : Nat} {f C : Addr} {fd : FuncData} {ps ks : List Str} {sp : Sp} {E : XK} {x m : Str} {p pos apos kpos : Pos} {e o : Expr} {es : List Expr} {kws : List Keyword} {te ta : TE} {t tk : TA} {nm : Option Str}
/-- how a call with keywords binds: g puts the positional values us and the keywords' values ws (names ks) in the parameters' order, defaults among them -/
structure KBinds (K : PySem.W.Frag) (fd : FuncData) (ps ks : List Str) (g : List Value → List Value → List Value) (gV : List V → List V → List V) : Prop where
  to : ∀ (s : Shared) (us ws : List Value), K.In s.heap → (g us ws).length = ps.length → BindsTo s fd ⟨us, ks.zip ws⟩ (ps.zip (g us ws))
  rel : ∀ {vs : List V} {us : List Value} {zs : List V} {ws : List Value}, Vals vs us → Vals zs ws → Vals (gV vs zs) (g us ws)
variable {g : List Value → List Value → List Value} {gV : List V → List V → List V}
end

/-! ### a def's body keeps its promise -/
/-- names: the parameters first -/
structure FnScope (N P : List Str) (sc : Scope) : Prop where
  kind : sc.kind = .function
  co : sc.isCoroutine = false
  gen : sc.isGenerator = false
  nd : N.Nodup
  pre : N.take P.length = P
  par : ∀ x ∈ P, sc.names.lookup x = some .local ∨ sc.names.lookup x = some .cell
  nofree : ∀ y ∈ sc.names, y.2 ≠ .free

theorem bindL_out {kindOf : Str → Option NameKind} {x : Str} : ∀ {binds : List (Str × Value)} {m : Str → Option Value}, (∀ v, (x, v) ∉ binds) → bindL kindOf binds m x = m x
  | [], _, _ => rfl
  | (n, v) :: r, m, h => by
    unfold bindL
    rw [bindL_out fun w hw => h w (List.mem_cons_of_mem _ hw)]
    split
    · have : x ≠ n := by rintro rfl; exact h v List.mem_cons_self
      simp [this]
    · rfl
theorem bindC_out {kindOf : Str → Option NameKind} {x : Str} : ∀ {binds : List (Str × Value)} {m : Str → Option Value}, (∀ v, (x, v) ∉ binds) → bindC kindOf binds m x = m x
  | [], _, _ => rfl
  | (n, v) :: r, m, h => by
    unfold bindC
    rw [bindC_out fun w hw => h w (List.mem_cons_of_mem _ hw)]
    split
    · rfl
    · have : x ≠ n := by rintro rfl; exact h v List.mem_cons_self
      simp [this]
theorem bindL_get {kindOf : Str → Option NameKind} {x : Str} {v : Value} : ∀ {P : List Str} {vs : List Value} {i : Nat} {m : Str → Option Value}, P.Nodup → P[i]? = some x → vs[i]? = some v → kindOf x = some .local →
    bindL kindOf (P.zip vs) m x = some v
  | [], _, _, _, _, h, _, _ => by simp at h
  | _ :: _, [], _, _, _, _, h, _ => by simp at h
  | p :: P, w :: vs, 0, m, nd, h1, h2, hk => by
    simp at h1 h2; subst h1; subst h2
    show bindL kindOf ((p, w) :: P.zip vs) m p = _
    unfold bindL
    rw [bindL_out fun v hv => (List.nodup_cons.mp nd).1 (List.of_mem_zip hv).1, if_pos hk]
    simp
  | p :: P, w :: vs, i + 1, m, nd, h1, h2, hk => by
    show bindL kindOf ((p, w) :: P.zip vs) m x = _
    unfold bindL
    exact bindL_get (i := i) (List.nodup_cons.mp nd).2 (by simpa using h1) (by simpa using h2) hk
theorem bindC_get {kindOf : Str → Option NameKind} {x : Str} {v : Value} : ∀ {P : List Str} {vs : List Value} {i : Nat} {m : Str → Option Value}, P.Nodup → P[i]? = some x → vs[i]? = some v → kindOf x ≠ some .local →
    bindC kindOf (P.zip vs) m x = some v
  | [], _, _, _, _, h, _, _ => by simp at h
  | _ :: _, [], _, _, _, _, h, _ => by simp at h
  | p :: P, w :: vs, 0, m, nd, h1, h2, hk => by
    simp at h1 h2; subst h1; subst h2
    show bindC kindOf ((p, w) :: P.zip vs) m p = _
    unfold bindC
    rw [bindC_out fun v hv => (List.nodup_cons.mp nd).1 (List.of_mem_zip hv).1, if_neg hk]
    simp
  | p :: P, w :: vs, i + 1, m, nd, h1, h2, hk => by
    show bindC kindOf ((p, w) :: P.zip vs) m x = _
    unfold bindC
    exact bindC_get (i := i) (List.nodup_cons.mp nd).2 (by simpa using h1) (by simpa using h2) hk

/-- the names' values at the entry -/
def start (N : List Str) (vs : List V) : St := vs.map some ++ List.replicate (N.length - vs.length) none

/-- the context of a def's body, at its entry; an exception leaves the frame, then lies as CX says -/
def cxOf (CX : CXT) (P : Program) (w : World) (K : PySem.W.Frag) (mg : Str → Option Value) (base : Heap) (N : List Str) (qual : Str) (scope : Scope) (f : Addr) (cd : Value) (A : Around) (outer : List Env) (s : Shared) (H : Hp) (E : XK) : Cx where
  prog := P
  w := w
  K := K
  mg := mg
  base := base
  A := A.deeper (envOfC qual scope s.heap.objs.size f cd)
  N := N
  s₀ := s
  H₀ := H
  env := envOfC qual scope s.heap.objs.size f cd
  outer := outer
  stack := envOfC qual scope s.heap.objs.size f cd :: outer
  ex := []
  calm := true
  fn := fun _ => true
  pn := []
  xe := fun e s' => wpAny (model P w) (A.deeper (envOfC qual scope s.heap.objs.size f cd)) (leaving (envOfC qual scope s.heap.objs.size f cd) e) (fun _ s'' => CX outer H s E e s'') (fun e' s'' => CX outer H s E e' s'') s'

theorem cell_has {sc : Scope} {n : Nat} {x : Str} (h : sc.names.lookup x = some .cell) : ∃ c, (cellsFrom n sc.names []).lookup x = some c := by
  have q := PySem.W.cellsFrom_some sc.names n [] (.inl h)
  exact Option.isSome_iff_exists.mp q

theorem inv_start {CX : CXT} {P : Program} {w : World} {K : PySem.W.Frag} {mg : Str → Option Value} {base : Heap} {N ps : List Str} {qual : Str} {scope : Scope} {f : Addr} {cd : Value} {A : Around} {outer : List Env} {s s1 : Shared} {H : Hp} {E : XK} {us : List Value} {vs : List V}
    (S : FnScope N ps scope) (hd : A.handled = none) (e0 : Env0 P w K mg base A outer s H) (hl : vs.length = ps.length) (r : Vals vs us)
    (x : InCallC s s.heap.objs.size (bindL (envOfC qual scope s.heap.objs.size f cd).kindOf (ps.zip us) fun _ => none) (cellsFrom (s.heap.objs.size + 1) scope.names []) (bindC (envOfC qual scope s.heap.objs.size f cd).kindOf (ps.zip us) fun _ => none) s1) :
    Inv (cxOf CX P w K mg base N qual scope f cd A outer s H E) [] (start N vs) H s1 := by
  have hpl : ps.length ≤ N.length := by have := congrArg List.length S.pre; rw [List.length_take] at this; omega
  obtain ⟨h1, tk, rfl, hk⟩ := x.done
  have noA : ∀ b : Addr, b ∉ (cxOf CX P w K mg base N qual scope f cd A outer s H E).ex := fun b z => absurd (show b ∈ ([] : List Addr) from z) (by simp)
  refine ⟨⟨e0.mod, S.kind, rfl, rfl, Nat.le_refl _, fun y z c h1 h2 => ?_, fun y hy => ?_, fun y c _ h => ?_, fun _ => hd, Around.frames_deeper e0.frames, .inr ⟨rfl, rfl⟩, fun b z => absurd z (noA b), e0.bs, e0.bsz, fun b _ _ => noA b, fun b z => absurd z (noA b), e0.funs, e0.frf⟩,
    rfl, e0.bare, Un.kept hk, ⟨_, x.toInCall.ns, fun i y v h1 h2 h3 => ?_⟩, fun y c h => ⟨_, x.cell y c h⟩, e0.hok.fresh (Nat.le_refl _), fun y c h => ?_, fun p hp => absurd (show p ∈ ([] : List (Addr × Obj)) from hp) (by simp), e0.hok.kept hk, ?_⟩
  · exact name_of_addr x.apart (PySem.mem_of_lookup h1) (PySem.mem_of_lookup h2)
  · have hy : scope.names.lookup y = some .cell ∨ scope.names.lookup y = some .free := hy
    rcases hy with hy | hy
    · exact cell_has hy
    · exact absurd rfl (S.nofree _ (PySem.mem_of_lookup hy))
  · exact Nat.le_of_lt (x.above y c (PySem.mem_of_lookup h))
  · have hi : i < vs.length := by
      unfold start at h2
      by_cases hi : i < vs.length
      · exact hi
      · rw [List.getElem?_append_right (by simpa using hi)] at h2
        rw [List.getElem?_replicate] at h2
        split at h2 <;> cases h2
    have ha : vs[i]? = some v := by
      unfold start at h2
      rw [List.getElem?_append_left (by simpa using hi), List.getElem?_map] at h2
      cases e : vs[i]? with
      | none => rw [e] at h2; cases h2
      | some a => rw [e] at h2; cases h2; rfl
    obtain ⟨u, hu, rv⟩ := r.get ha
    have hp : ps[i]? = some y := by
      rw [← S.pre, List.getElem?_take_of_lt (by omega)]; exact h1
    have ndP : ps.Nodup := by rw [← S.pre]; exact S.nd.sublist (List.take_sublist _ _)
    refine ⟨u, rv, ?_⟩
    rcases S.par y (List.mem_of_getElem? hp) with k | k
    · exact .inl ⟨k, bindL_get ndP hp hu k⟩
    · obtain ⟨c, e⟩ := cell_has (n := s.heap.objs.size + 1) k
      refine .inr ⟨.inl k, c, e, ?_⟩
      have q := x.cell y c e
      rw [bindC_get ndP hp hu (by show scope.names.lookup y ≠ _; rw [k]; decide)] at q
      exact q
  · exact e0.hok.fresh (Nat.le_of_lt (x.above y c (PySem.mem_of_lookup h)))
  · unfold start
    show _ = N.length
    rw [List.length_append, List.length_map, List.length_replicate]
    omega

/-- THE RULE: a def (or a method) of the text, by its body. The body's reading t is chosen for each entry; it is run at the parameters' values -/
theorem fn_of {CX : CXT} {P : Program} {w : World} {K : PySem.W.Frag} {mg : Str → Option Value} {base : Heap} {k : Nat} {f : Addr} {name qual : Str} {params : Arguments} {body : List Stmt} {scope : Scope} {dV kV doc pm cdv ct oc : Value} {an od : Option Addr}
    {osl : Array (Option Value)} {N ps : List Str} {sp : Sp} (lk : K.lookup f = some ⟨oc, od, .func (PySem.W.fnOf name qual params body scope dV kV doc pm an cdv ct), osl⟩) (hcd : PySem.W.codeIn K cdv qual = true) (S : FnScope N ps scope)
    (len : ∀ vs H Q E, sp vs H Q E → vs.length = ps.length)
    (hbody : ∀ (A : Around) (outer : List Env) (s : Shared) (H : Hp) (vs : List V) (Q : VK) (E : XK), Room k (A.deeper (envOfC qual scope s.heap.objs.size f cdv)) → sp vs H Q E →
      ∃ t, PSs (cxOf CX P w K mg base N qual scope f cdv A outer s H E) body t ∧ t { nx := fun _ H' => Q .non H', rt := Q } (start N vs) H) :
    FnOk P w K mg base CX (k + 1) f (PySem.W.fnOf name qual params body scope dV kV doc pm an cdv ct) ps sp := by
  refine ⟨len, fun A outer s H args us vs Q E hr e0 hb r hsp => ?_⟩
  have hl := len _ _ _ _ hsp
  have KX : K.In s.heap := e0.mod.kin.keeps fun b o e => (e0.bs b o e).1
  have lim : s.heap.NoLimit := e0.mod.nolimit.keeps fun b o e => (e0.bs b o e).1
  have hkind : ∀ y ∈ ps.zip us, scope.names.lookup y.1 = some .local ∨ (scope.names.lookup y.1 = some .cell ∧ ((cellsFrom (s.heap.objs.size + 1) scope.names []).lookup y.1).isSome = true) := fun ⟨n, v⟩ hy => by
    rcases S.par n (List.of_mem_zip hy).1 with q | q
    · exact .inl q
    · exact .inr ⟨q, PySem.W.cellsFrom_some _ _ _ (.inl q)⟩
  refine codeAny_call_function hr.depth (KX _ _ lk) rfl S.co S.gen rfl (PySem.W.codeRec_of KX hcd) (hb _ _ _ _ ?_)
  refine wpAny_newFunctionEnv_cells S.kind hkind fun env he s1 x => ?_
  subst he
  refine ⟨lim.keeps x.toInCall.keep, codeAny_func ?_⟩
  obtain ⟨t, ht, hq⟩ := hbody A outer s H vs Q E (hr.deeper _) hsp
  have I : Inv (cxOf CX P w K mg base N qual scope f cdv A outer s H E) [] (start N vs) H s1 := inv_start S hr.hd e0 hl r x
  refine wpAny_mono (ht [] s1 (start N vs) H _ I hq) (fun fl s' hs => ?_) fun e s' hs => hs
  have fin : ∀ {σ' : St} {H' : Hp} {v : V} {u : Value}, Inv (cxOf CX P w K mg base N qual scope f cdv A outer s H E) [] σ' H' s' → RelV v u → Q v H' → CE outer P w H s Q u s' :=
    fun {σ' H' v u} J rv q => ⟨v, H', J.os, J.bare, J.base, J.hok, rv, q⟩
  cases fl with
  | ret u =>
    obtain ⟨v, σ', H', J, rv, q⟩ := hs
    exact fin J rv q
  | next =>
    obtain ⟨σ', H', J, q⟩ := hs
    exact fin (v := V.non) (u := Value.none) J rfl q
  | brk =>
    obtain ⟨_, _, _, q⟩ := hs
    exact False.elim q
  | cont =>
    obtain ⟨_, _, _, q⟩ := hs
    exact False.elim q
end L2

namespace L2
open PySem PySem.Spec PyProof.Rows
section
variable {X : Cx} {x : Str} {p pos : Pos} {e : Expr} {es : List Expr} {t : TA} {id T : String} {r : List V → Hp → VK → Prop}

def tCB (r : List V → Hp → VK → Prop) (t : TA) : TE := fun σ H Q => t σ H fun vs H1 => r vs H1 Q
/-- f(e, ..), f a built-in function -/
theorem pe_callB (hc : CallR X (.builtin id) r) (hg : Gl X x) (hm : X.mg x = none) (hv : bootBuiltins x = some (.builtin id)) (ha : PA X (e :: es) t) (hn : x ≠ "__name__" := by decide) (hdb : (x == ("__debug__" : Str)) = false := by decide)
    (he : starEach (e :: es) X.env = (false, eval e X.env) :: starEach es X.env := by rfl) (hpl : (backTo pos (starEach es X.env)).any (·.1) = false := by rfl) : PE X (.Call (.Name x p) (e :: es) [] pos) (tCB r t) := by
  intro pins s σ H Q I h
  refine wpAny_Call_Name_kw (ld_blt I hg hm hv ?_ hn hdb)
  exact PyProof.Rows.callWith_builtin1 (thn (ha pos pins s σ H _ I h) fun us s1 ⟨vs, H1, I1, r1, q1⟩ => hc pins s1 σ H1 vs us Q I1 r1 q1) he hpl
end
end L2

namespace HT
open PySem PyProof.Rows

section
open PySem.SeqAt
open PySem.AutoSeq1 (wpAny_loadPart')
open PySem.MeetsSeq PySem.MeetsSeq2 PySem.MeetsSeq3

end

section
variable {prog : Program} {w : World} {A : Around} {E : Value → Shared → Prop} {s : Shared}

/-! ### t[a:b], not the whole -/
end
end HT

namespace L2
open PySem PySem.Spec PyProof.Rows

/-! ### the parts of a slice -/
section
variable {X : Cx} {e : Expr} {te : TE} {lo hi : Option Expr} {tl th : TO} {pos p2 : Pos}

/-! ### t < u, t + u -/
end
end L2

namespace L2
open PySem PySem.Spec PyProof.Rows

/-! ### places -/
/-- the place that an index of any sign means -/
def ixN (n : Nat) (i : Int) : Option Nat := if 0 ≤ i then (if i < n then some i.toNat else none) else if -(n : Int) ≤ i then some (i + n).toNat else none
def atI {α : Type} (xs : List α) (i : Int) : Option α := (ixN xs.length i).bind fun j => xs[j]?
theorem ixN_seq {n : Nat} {i : Int} {j : Nat} (h : ixN n i = some j) : seqIndex? i n = some j ∧ j < n ∧ -(n : Int) ≤ i ∧ i < n := by
  unfold ixN at h
  by_cases h0 : 0 ≤ i
  · rw [if_pos h0] at h
    by_cases h1 : i < n
    · rw [if_pos h1] at h
      have e : i.toNat = j := Option.some.inj h
      exact ⟨by rw [seqIndex_of h0 h1, e], by omega, by omega, h1⟩
    · rw [if_neg h1] at h; cases h
  · rw [if_neg h0] at h
    by_cases h1 : -(n : Int) ≤ i
    · rw [if_pos h1] at h
      have e : (i + n).toNat = j := Option.some.inj h
      exact ⟨by rw [seqIndex_neg (by omega) h1, e], by omega, h1, by omega⟩
    · rw [if_neg h1] at h; cases h
theorem atI_get {α : Type} {xs : List α} {i : Int} {v : α} (h : atI xs i = some v) : ∃ j, seqIndex? i xs.length = some j ∧ xs[j]? = some v ∧ j < xs.length ∧ -(xs.length : Int) ≤ i ∧ i < xs.length := by
  unfold atI at h
  cases e : ixN xs.length i with
  | none => rw [e] at h; cases h
  | some j =>
    rw [e] at h
    obtain ⟨h1, h2, h3, h4⟩ := ixN_seq e
    exact ⟨j, h1, h, h2, h3, h4⟩
theorem atI_nat {α : Type} {xs : List α} {j : Nat} {v : α} (h : xs[j]? = some v) : atI xs (j : Int) = some v := by
  have hj : j < xs.length := (List.getElem?_eq_some_iff.mp h).1
  have e : ixN xs.length (j : Int) = some j := by
    unfold ixN
    rw [if_pos (by omega), if_pos (by omega)]; simp
  unfold atI; rw [e]; exact h
/-! ### what may be subscripted -/
/-- what stands as an index of a plain subscript -/
def PlainIx (b : Expr) : Prop := ∀ o i, subscripted b false o i = operate [o, i] (getItem o i)
/-- a subscript by values -/
def IxR (X : Cx) (r : R2) : Prop :=
  ∀ (value slice : Expr) (pins : List (Addr × Obj)) (s : Shared) (σ : St) (H : Hp) (x y : V) (v u : Value) (Q : VK), Inv X pins σ H s → RelV x v → RelV y u → r x y H Q →
    subscripted slice false v u = operate [v, u] (getItem v u) → wpAny (model X.prog X.w) X.A (subscriptTail value slice v u) (EP X pins σ Q) X.xe s
/-- a call of a builtin's method by values: the receiver, the arguments -/
def MtR (X : Cx) (id : String) (r : V → List V → Hp → VK → Prop) : Prop :=
  ∀ (pins : List (Addr × Obj)) (s : Shared) (σ : St) (H : Hp) (x : V) (xs : List V) (v : Value) (us : List Value) (Q : VK), Inv X pins σ H s → RelV x v → Vals xs us → r x xs H Q →
    wpAny (model X.prog X.w) X.A (call (.builtin id) (v :: us)) (EP X pins σ Q) X.xe s
section
variable {X : Cx} {a b : Expr} {ta tb : TE} {pos : Pos}
/-- a[b] -/
theorem pe_ix {r : R2} (hr : IxR X r) (ha : PE X a ta) (hb : PE X b tb) (hs : PlainIx b) : PE X (.Subscript a b pos) (tOp r ta tb) := by
  intro pins s σ H Q I h
  exact Subscript_ (binT ha hb I h fun v u s2 x y H2 I2 rx ry q => hr a b pins s2 σ H2 x y v u Q I2 rx ry q (hs _ _))

def rIxL (K : PySem.W.Frag) : R2 := fun x y H Q => ∃ p xs i v, x = .ref p ∧ y = .int i ∧ SqL K H p xs ∧ atI xs i = some v ∧ Q v H
def rIxS : R2 := fun x y H Q => ∃ z i c, x = .str z ∧ y = .int i ∧ z.length ≤ sizeLine ∧ atI z.cps.toList i = some c ∧ Q (.str ⟨#[c]⟩) H
theorem ix_list : IxR X (rIxL X.K) := by
  intro value slice pins s σ H x y v u Q I rx ry h hs
  obtain ⟨p, xs, i, z, rfl, rfl, hq, he, q⟩ := h
  cases rx
  obtain ⟨t, rfl⟩ := ry
  obtain ⟨its, r, pl, hz⟩ := I.list hq
  obtain ⟨j, h1, h2, h3, h4, h5⟩ := atI_get he
  obtain ⟨w, ew, rw'⟩ := r.get h2
  have hl := r.length
  have hn := line63
  have fin : EP X pins σ Q w s := ⟨z, H, I, rw', q⟩
  by_cases h0 : 0 ≤ i
  · have hj : i.toNat = j := by
      rw [seqIndex_of h0 h5] at h1
      exact Option.some.inj h1
    exact item_listR pl.isList h0 (by omega) (by rw [hj]; simpa using ew) fin hs
  · have hj : (i + (its.toArray.size : Int)).toNat = j := by
      rw [seqIndex_neg (by omega) h4] at h1
      rw [List.size_toArray, ← hl]
      exact Option.some.inj h1
    exact subscriptTail_builtinR (x := w) pl.isList.typeIs slot_list_getitem.lookup
      (wpAny_getItem_list_neg (Q := fun r s' => r = w ∧ EP X pins σ Q r s') pl.isList (by omega) (by rw [List.size_toArray] <;> omega) (by omega) (by rw [hj]; simpa using ew) ⟨rfl, fin⟩) hs
theorem ix_str : IxR X rIxS := by
  intro value slice pins s σ H x y v u Q I rx ry h hs
  obtain ⟨z, i, c, rfl, rfl, hz, he, q⟩ := h
  obtain ⟨t, rfl⟩ := rx
  obtain ⟨t', rfl⟩ := ry
  obtain ⟨j, h1, h2, h3, h4, h5⟩ := atI_get he
  have hl : z.cps.toList.length = z.length := by simp [Str.length]
  rw [hl] at h1 h4 h5
  have hn := line63
  exact tail_any (typeIs_str s z t) slot_str_getitem.lookup (getItem_str (c := c) (by
    have e1 : decide (i < -(2 ^ 63 : Int)) = false := decide_eq_false (by omega)
    have e2 : decide (i ≥ 2 ^ 63) = false := decide_eq_false (by omega)
    rw [e1, e2, Bool.or_false]) (by rw [h1]; simpa using h2) ⟨.str ⟨#[c]⟩, H, I.tok _, ⟨_, rfl⟩, q⟩) hs
/-! ### xs[i] = v, any sign -/
/-- the list's object behind a store -/
theorem mapSeq_set (its : List Value) (n j : Nat) (u : Value) : Obj.mapSeq (·.setIfInBounds j u) { cls := .type "list", data := .seq its.toArray n } = { cls := .type "list", data := .seq (its.set j u).toArray n } := by
  simp [Obj.mapSeq]
theorem Inv.lst {pins : List (Addr × Obj)} {σ : St} {H : Hp} {s : Shared} {p : Addr} {xs : List V} (I : Inv X pins σ H s) (h : H p = some (.lst xs)) :
    ∃ (its : List Value) (n : Nat), Vals xs its ∧ s.heap.get? p = some { cls := .type "list", data := .seq its.toArray n } ∧ xs.length ≤ sizeLine := by
  obtain ⟨z, its, n, r, e⟩ := I.hok p _ h
  exact ⟨its, n, r, e, z⟩
/-- the list at p is written by an update of its object -/
theorem Inv.lstUpd {pins : List (Addr × Obj)} {σ : St} {H : Hp} {s : Shared} {p : Addr} {xs ys : List V} {its its' : List Value} {n n' : Nat} {f : Obj → Obj} (I : Inv X pins σ H s) (h : H p = some (.lst xs))
    (ho : s.heap.get? p = some { cls := .type "list", data := .seq its.toArray n }) (hf : f { cls := .type "list", data := .seq its.toArray n } = { cls := .type "list", data := .seq its'.toArray n' }) (r : Vals ys its') (hz : ys.length ≤ sizeLine) (t : Nat) :
    Inv X pins σ (upd H p (.lst ys)) { s with heap := s.heap.update p f, toks := t } := by
  have e : (s.heap.update p f).get? p = some { cls := .type "list", data := .seq its'.toArray n' } := by
    rw [Heap.get?_update_self f ho (by rw [hf] <;> rfl), hf]
  refine I.write (x := p) (e := p) (by rw [h]; trivial) (.inl rfl) (fun b u hb q => (Heap.get?_update_other _ _ (Ne.symm hb)).trans q) ⟨_, e⟩ ?_
  exact ⟨hz, its', n', r, e⟩
def rSetL : V → V → V → Hp → (Hp → Prop) → Prop := fun o i v H Q => ∃ p xs k j, o = .ref p ∧ i = .int k ∧ H p = some (.lst xs) ∧ ixN xs.length k = some j ∧ Q (upd H p (.lst (xs.set j v)))
theorem set_list : PSet X rSetL := by
  intro pins s σ H o i v ov iv u Q I ro ri rv h
  obtain ⟨p, xs, k, j, rfl, rfl, hp, hj, q⟩ := h
  cases ro
  obtain ⟨t, rfl⟩ := ri
  obtain ⟨its, n, r, ho, hz⟩ := I.lst hp
  obtain ⟨h1, h2, h3, h4⟩ := ixN_seq hj
  have hl := r.length
  have hn := line63
  have I' : Inv X pins σ (upd H p (.lst (xs.set j v))) { s with heap := s.heap.update p (Obj.mapSeq (·.setIfInBounds j u)) } :=
    I.lstUpd hp ho (mapSeq_set its n j u) (r.set rv j) (by rw [List.length_set]; exact hz) s.toks
  by_cases h0 : 0 ≤ k
  · have hk : k.toNat = j := by
      rw [seqIndex_of h0 h4] at h1
      exact Option.some.inj h1
    exact PySem.W.ki_setAt ho h0 (by omega) (by rw [List.size_toArray, ← hl]; exact h4) (by rw [hk]; exact ⟨_, I', q⟩)
  · have hk : (k + (its.toArray.size : Int)).toNat = j := by
      rw [seqIndex_neg (by omega) h3] at h1
      rw [List.size_toArray, ← hl]
      exact Option.some.inj h1
    exact PySem.W.ki_setBack ho (by omega) (by rw [List.size_toArray, ← hl]; exact h3) (by omega) (by rw [hk]; exact ⟨_, I', q⟩)

/-! ### slices -/
/-! ### in, not in: flat items -/
def flatV : V → Bool
  | .non => true
  | .bl _ => true
  | .int _ => true
  | .str _ => true
  | _ => false
/-- == of flat values -/
def eqV : V → V → Bool
  | .non, .non => true
  | .bl a, .bl b => a == b
  | .bl a, .int b => (if a then 1 else 0) == b
  | .int a, .bl b => a == (if b then 1 else 0)
  | .int a, .int b => a == b
  | .str a, .str b => a == b
  | _, _ => false
theorem eqAt_V {A : Around} {s : Shared} {y x : V} {u v : Value} (ry : RelV y u) (rx : RelV x v) (fy : flatV y = true) (fx : flatV x = true) : SeqAt.EqAt A s u v (eqV y x) := by
  cases y with
  | non =>
    cases ry
    cases x with
    | non => cases rx; exact SeqAt.EqAt.same _
    | bl b => cases rx; exact SeqAt.EqAt.none_bool b
    | int b => obtain ⟨t, rfl⟩ := rx; exact SeqAt.EqAt.none_int b t
    | str b => obtain ⟨t, rfl⟩ := rx; exact SeqAt.EqAt.none_str b t
    | _ => exact absurd (show false = true from fx) Bool.false_ne_true
  | bl a =>
    cases ry
    cases x with
    | non => cases rx; exact SeqAt.EqAt.bool_none a
    | bl b => cases rx; exact SeqAt.EqAt.bool_bool a b
    | int b => obtain ⟨t, rfl⟩ := rx; exact SeqAt.EqAt.bool_int a b t
    | str b => obtain ⟨t, rfl⟩ := rx; exact SeqAt.EqAt.bool_str a b t
    | _ => exact absurd (show false = true from fx) Bool.false_ne_true
  | int a =>
    obtain ⟨t', rfl⟩ := ry
    cases x with
    | non => cases rx; exact SeqAt.EqAt.int_none a t'
    | bl b => cases rx; exact SeqAt.EqAt.int_bool a t' b
    | int b => obtain ⟨t, rfl⟩ := rx; exact SeqAt.EqAt.int_int a t' b t
    | str b => obtain ⟨t, rfl⟩ := rx; exact SeqAt.EqAt.int_str a t' b t
    | _ => exact absurd (show false = true from fx) Bool.false_ne_true
  | str a =>
    obtain ⟨t', rfl⟩ := ry
    cases x with
    | non => cases rx; exact SeqAt.EqAt.str_none a t'
    | bl b => cases rx; exact SeqAt.EqAt.str_bool a t' b
    | int b => obtain ⟨t, rfl⟩ := rx; exact SeqAt.EqAt.str_int a t' b t
    | str b => obtain ⟨t, rfl⟩ := rx; exact SeqAt.EqAt.str_str a t' b t
    | _ => exact absurd (show false = true from fx) Bool.false_ne_true
  | _ => exact absurd (show false = true from fy) Bool.false_ne_true
/-- the items' answers, read off the values (a value's own answer does not lean on its token) -/
def eqU (x : V) (u : Value) : Bool := match u with
  | .none => eqV .non x
  | .bool b => eqV (.bl b) x
  | .int i _ => eqV (.int i) x
  | .str z _ => eqV (.str z) x
  | _ => false
/-! ### len, list(x), tuple(x) of any list or tuple that is read -/
theorem call_len_seq : CallR X (.builtin "len") (fun xs H Q => ∃ p ys, xs = [.ref p] ∧ (SqL X.K H p ys ∨ SqT X.K H p ys) ∧ Q (.int ys.length) H) := by
  intro pins s σ H xs us Q I r h
  obtain ⟨p, ys, rfl, hq, q⟩ := h
  obtain ⟨u, rfl, rx⟩ := vals1 r
  cases rx
  have hn := line63
  rcases hq with hq | hq
  · obtain ⟨its, r', pl, hz⟩ := I.list hq
    have hlen := r'.length
    exact Calls.call_len_list pl.isList (by simp only [List.size_toArray] <;> omega) ⟨.int ys.length, H, I.tok _, ⟨s.toks + 1, by rw [List.size_toArray, hlen]⟩, q⟩
  · obtain ⟨its, r', pl, hz⟩ := I.tuple hq
    have hlen := r'.length
    exact len_tuple pl (by simp only [List.size_toArray] <;> omega) ⟨.int ys.length, H, I.tok _, ⟨s.toks + 1, by rw [List.size_toArray, hlen]⟩, q⟩
/-! ### the call of a builtin's method: o.m(..) -/
/-- the value is of that builtin type -/
def tyV (K : PySem.W.Frag) (T : String) (x : V) (H : Hp) : Prop := match x with
  | .str _ => T = "str"
  | .int _ => T = "int"
  | .ref p => (T = "list" ∧ ∃ xs, SqL K H p xs) ∨ (T = "tuple" ∧ ∃ o, K.lookup p = some o ∧ o.cls = .type "tuple" ∧ o.dict = none) ∨
      (T = "dict" ∧ ((∃ kvs, H p = some (.dK kvs)) ∨ ∃ kvs, H p = some (.dT kvs))) ∨ (T = "set" ∧ ∃ S n, H p = some (.set S n))
  | _ => False
theorem tyV_is {pins : List (Addr × Obj)} {σ : St} {H : Hp} {s : Shared} {T : String} {x : V} {v : Value} (I : Inv X pins σ H s) (r : RelV x v) (ty : tyV X.K T x H) :
    s.TypeIs v T ∧ ∀ a, v = .ref a → ∃ ob, s.heap.get? a = some ob ∧ ob.dict = none := by
  cases x with
  | str z =>
    obtain ⟨t, rfl⟩ := r
    cases (show T = "str" from ty)
    exact ⟨typeIs_str s z t, fun _ e => nomatch e⟩
  | int i =>
    obtain ⟨t, rfl⟩ := r
    cases (show T = "int" from ty)
    exact ⟨typeIs_int s i t, fun _ e => nomatch e⟩
  | ref p =>
    cases r
    rcases ty with ⟨rfl, xs, hq⟩ | ⟨rfl, o, hk, hc, hd⟩ | ⟨rfl, hk⟩ | ⟨rfl, S, n, hk⟩
    · obtain ⟨its, _, pl, _⟩ := I.list hq
      refine ⟨pl.isList.typeIs, fun a e => ?_⟩
      cases e
      obtain ⟨o, n, e, c, hd, _⟩ := pl
      exact ⟨o, e, hd⟩
    · refine ⟨⟨o, I.kIn p o hk, hc⟩, fun a e => ?_⟩
      cases e
      exact ⟨o, I.kIn _ o hk, hd⟩
    · have z : ∃ o, s.heap.get? p = some o ∧ o.ExactDict := by
        rcases hk with ⟨kvs, hk⟩ | ⟨kvs, hk⟩
        · obtain ⟨_, _, _, _, o, _, _, e, ex, _⟩ := I.hok p _ hk
          exact ⟨o, e, ex⟩
        · obtain ⟨_, _, _, _, o, _, _, e, ex, _⟩ := I.hok p _ hk
          exact ⟨o, e, ex⟩
      obtain ⟨o, e, ex⟩ := z
      refine ⟨⟨o, e, ex.1⟩, fun a e2 => ?_⟩
      cases e2
      exact ⟨o, e, ex.2.1⟩
    · obtain ⟨o, _, _, _, e, ex, _⟩ := I.hok p _ hk
      refine ⟨⟨o, e, ex.1⟩, fun a e2 => ?_⟩
      cases e2
      exact ⟨o, e, ex.2.1⟩
  | _ => exact False.elim ty
def tBM (K : PySem.W.Frag) (T : String) (r : V → List V → Hp → VK → Prop) (to : TE) (t : TA) : TE := fun σ H Q => to σ H fun x H1 => tyV K T x H1 ∧ t σ H1 fun xs H2 => r x xs H2 Q
variable {o e : Expr} {es : List Expr} {to : TE} {t : TA} {name : Str} {apos cpos : Pos} {T id : String} {r : V → List V → Hp → VK → Prop}
theorem pe_bm (pa : PlainAttrs T) (slot : Slot T name id) (hty : typeOf (.builtin id) = pure (.type "method_descriptor")) (hm : MtR X id r) (ho : PE X o to) (ha : PA X (e :: es) t)
    (hbase : attributeBase o name X.env (eval o X.env) = eval o X.env := by rfl)
    (hfew : ((backTo cpos (starEach (e :: es) X.env)).all (fun x => !x.1) && (backToKw cpos (keywordEach [] X.env)).all (fun x => x.1.isSome)
      && decide ((e :: es).length + ([] : List Keyword).length + (if ([] : List Keyword).isEmpty then 0 else 1) < 30)) = true := by rfl)
    (hline : (apos.endLine == cpos.line) = true := by rfl) (hs : starEach (e :: es) X.env = (false, eval e X.env) :: starEach es X.env := by rfl) (hplain : (backTo cpos (starEach es X.env)).any (·.1) = false := by rfl) :
    PE X (.Call (.Attribute o name apos) (e :: es) [] cpos) (tBM X.K T r to t) := by
  intro pins s σ H Q I h
  refine wpAny_Call_method_late hbase hfew hline rfl (thn (ho pins s σ H _ I h) fun v s1 ⟨x, H1, I1, r1, ty, q1⟩ => ?_)
  obtain ⟨h1, h2⟩ := tyV_is I1 r1 ty
  refine ⟨T, id, pa, slot, hty, h1, h2, ?_⟩
  have hA := ha cpos pins s1 σ H1 _ I1 q1
  rw [hs] at hA ⊢
  refine Calls.callWith_builtin (by show (false || (backTo cpos (starEach es X.env)).any (·.1)) = false; rw [hplain] <;> rfl) (Calls.evalArgs_plain ?_)
  exact thn hA fun us s2 ⟨vs, H2, I2, r2, q2⟩ => hm pins s2 σ H2 x vs v us Q I2 r1 r2 q2
/- xs.append(e), list.index on a module's tuple .. are MtR facts of 06m -/
end
end L2

namespace L2
open PySem PySem.Spec PyProof.Rows

def MtM (X : Cx) (id : String) (r : V → List V → Hp → VK → Prop) : Prop :=
  ∀ (pins : List (Addr × Obj)) (s : Shared) (σ : St) (H : Hp) (x : V) (xs : List V) (v : Value) (us : List Value) (Q : VK), Inv X pins σ H s → RelV x v → Vals xs us → r x xs H Q →
    wpAny (model X.prog X.w) X.A (call (.builtin id) (v :: us)) (EP X pins σ Q) X.xe s

/-! ### lists of values -/
theorem Vals.one : ∀ {x : V} {us : List Value}, Vals [x] us → ∃ u, us = [u] ∧ RelV x u
  | _, _, .cons r .nil => ⟨_, rfl, r⟩
section
variable {X : Cx} {pins : List (Addr × Obj)} {σ : St} {H : Hp} {s : Shared} {l b : Addr} {xs ys zs : List V}

/-! ### the two steps: a tracked list is rewritten, a new list is laid -/
theorem Inv.lset {its its' : List Value} {n : Nat} {f : Array Value → Array Value} {t' : Nat} (I : Inv X pins σ H s) (hH : H l = some (.lst xs))
    (e : s.heap.get? l = some { cls := .type "list", data := .seq its.toArray n }) (hf : f its.toArray = its'.toArray) (hv : Vals ys its') (hz : ys.length ≤ sizeLine) :
    Inv X pins σ (upd H l (.lst ys)) { s with heap := s.heap.update l (Obj.mapSeq f), toks := t' } := by
  have q := PySem.IsL.update e f
  rw [hf] at q
  refine I.write (x := l) (e := l) (by rw [hH]; exact trivial) (.inl rfl) (fun b' u hb hu => (Heap.get?_update_other s.heap (Obj.mapSeq f) (Ne.symm hb)).trans hu) ⟨_, q⟩ ?_
  exact ⟨hz, its', _, hv, q⟩
theorem Inv.lnew {its : List Value} {t' : Nat} (I : Inv X pins σ H s) (hv : Vals ys its) (hz : ys.length ≤ sizeLine) :
    Inv X pins σ (upd H s.heap.objs.size (.lst ys)) { s with heap := s.heap.push { cls := .type "list", data := .seq its.toArray }, toks := t' } :=
  I.laid (fun _ _ q => Heap.get?_push_of_some _ q) (Nat.le_refl _) ⟨hz, its, 0, hv, Heap.get?_push_size _ rfl⟩
theorem Inv.fresh (I : Inv X pins σ H s) : H s.heap.objs.size = none := I.hok.fresh (Nat.le_refl _)
theorem Inv.lstM (I : Inv X pins σ H s) (hH : H l = some (.lst xs)) : xs.length ≤ sizeLine ∧ ∃ (its : List Value) (n : Nat), Vals xs its ∧ xs.length = its.length ∧ s.heap.get? l = some { cls := .type "list", data := .seq its.toArray n } := by
  obtain ⟨z, its, n, r, e⟩ := I.hok l _ hH
  exact ⟨z, its, n, r, r.length, e⟩

theorem notLongL {n : Nat} (h : n ≤ sizeLine) : Builtin.List.listTooLong n = false := by
  unfold Builtin.List.listTooLong
  exact decide_eq_false (by omega)
end

section
variable {X : Cx}

/-! ### methods -/
def rAppend : V → List V → Hp → VK → Prop := fun x vs H Q => ∃ l xs y, x = .ref l ∧ vs = [y] ∧ H l = some (.lst xs) ∧ xs.length < sizeLine ∧ Q .non (upd H l (.lst (xs ++ [y])))
theorem mt_append : MtM X "list.append" rAppend := by
  intro pins s σ H x vs v us Q I rx rv h
  obtain ⟨l, xs, y, rfl, rfl, hH, hz, q⟩ := h
  cases rx
  obtain ⟨u, rfl, ru⟩ := rv.one
  obtain ⟨z, its, n, r, hl, e⟩ := I.lstM hH
  refine call_meets F.slot_list_append ⟨_, e, rfl⟩ F.entry_list_append (F.args_list_append_2 _ _) (PySem.list_append l its.toArray n u (by rw [List.size_toArray]; omega)) ⟨e, ?_⟩
  refine ⟨.non, _, I.lset (its' := its ++ [u]) hH e (by simp) (r.append (.cons ru .nil)) ?_, rfl, q⟩
  rw [List.length_append, List.length_singleton]
  omega

def rExtend : V → List V → Hp → VK → Prop := fun x vs H Q => ∃ l b xs zs, x = .ref l ∧ vs = [.ref b] ∧ H l = some (.lst xs) ∧ H b = some (.lst zs) ∧ xs.length + zs.length ≤ sizeLine ∧ Q .non (upd H l (.lst (xs ++ zs)))
theorem mt_extend : MtM X "list.extend" rExtend := by
  intro pins s σ H x vs v us Q I rx rv h
  obtain ⟨l, b, xs, zs, rfl, rfl, hH, hB, hz, q⟩ := h
  cases rx
  obtain ⟨u, rfl, ru⟩ := rv.one
  cases ru
  obtain ⟨z, its, n, r, hl, e⟩ := I.lstM hH
  obtain ⟨z2, its2, n2, r2, hl2, e2⟩ := I.lstM hB
  have hsz : its.toArray.size + its2.toArray.size ≤ sizeLine := by rw [List.size_toArray, List.size_toArray]; omega
  have hlong : ¬ (!its.toArray.isEmpty && Builtin.List.listTooLong (its.toArray.size + its2.toArray.size)) = true := by
    rw [notLongL hsz, Bool.and_false]
    exact Bool.false_ne_true
  refine call_meets F.slot_list_extend ⟨_, e, rfl⟩ F.entry_list_extend (F.args_list_extend_2 _ _)
    (AutoSeq1.list_extend_list_list_0 l its.toArray n b its2.toArray n2 hlong (by rw [List.size_toArray]; omega) (by omega)) ⟨e, e2, ?_⟩
  refine ⟨.non, _, I.lset (its' := its ++ its2) hH e (by simp) (r.append r2) ?_, rfl, q⟩
  rw [List.length_append]
  omega

/-! ### list + list, list += list, list * int -/
def rCat : R2 := fun x y H Q => ∃ l b xs zs, x = .ref l ∧ y = .ref b ∧ H l = some (.lst xs) ∧ H b = some (.lst zs) ∧ xs.length + zs.length ≤ sizeLine ∧ ∀ p, H p = none → Q (.ref p) (upd H p (.lst (xs ++ zs)))
theorem op_cat : OpR X (binaryOp .Add) rCat := by
  intro pins s σ H x y v u Q I rx ry h
  obtain ⟨l, b, xs, zs, rfl, rfl, hH, hB, hz, q⟩ := h
  cases rx
  cases ry
  obtain ⟨z, its, n, r, hl, e⟩ := I.lstM hH
  obtain ⟨z2, its2, n2, r2, hl2, e2⟩ := I.lstM hB
  refine PySem.P.add_list e e2 ?_ (by rw [List.size_toArray, List.size_toArray]; omega)
  have ea : its.toArray ++ its2.toArray = (its ++ its2).toArray := by simp
  rw [ea]
  exact ⟨.ref _, _, I.lnew (t' := s.toks) (r.append r2) (by rw [List.length_append]; omega), rfl, q _ I.fresh⟩
/-! ### del xs[i] -/
end

/-! ### xs[a:b] = ys -/
section
variable {prog : Program} {w : World} {A : Around} {E : Value → Shared → Prop} {s : Shared}
set_option maxRecDepth 100000 in
end

section
variable {X : Cx}
end
end L2

namespace Att
open PySem PySem.W PySem.Calls PyProof.Rows

/-! ### the script -/
theorem ints_of_wellAll {P : Params} {h : Heap} : ∀ (ns : List Int) (vs : List Value), WellAll P h vs (ns.map WData.int) → IntsAre vs ns := by
  intro ns
  induction ns with
  | nil =>
    intro vs w
    rw [List.map_nil] at w
    cases w
    exact .nil
  | cons n ns ih =>
    intro vs w
    rw [List.map_cons] at w
    cases w with
    | cons a b =>
      cases a
      exact .cons _ _ (ih _ b)

theorem script_of {l : OpenLaw} {n : Nat} (hn : l.most = some n) {P : Params} {h : Heap} {args : List WData} {vals : List Value}
    (hpre : l.row.toRowW.claim.pre args = true) (hwl : WellAll P h vals args) :
    ∃ a vs ns, vals = [Value.ref a] ∧ args = [WData.list (ns.map WData.int)] ∧ h.get? a = some { cls := .type "list", data := .seq vs.toArray } ∧ IntsAre vs ns ∧ ns.length ≤ n := by
  have hsh : WShape.hasAll [] args [.list .int] = true := (pre_splitW hpre).1
  have hc : l.pre.holds [] { args := args } = true := (pre_splitW hpre).2
  obtain ⟨d, r, rfl, h1, h2⟩ := hasAllW_cons hsh
  obtain rfl := hasAllW_nil h2
  obtain ⟨xs, rfl, h3⟩ := hasW_list h1
  obtain ⟨ns, rfl⟩ := items_int h3
  have hlen : ns.length ≤ n := by
    unfold OpenLaw.pre at hc
    have h4 : (WTm.not (.lt (.lit (.int (n : Int))) (.len (.arg 0)))).holds [] { args := [.list (ns.map .int)] } = true := by
      have h4 := (holds_andW hc).1
      rw [hn] at h4
      exact h4
    have h5 := condW_of h4 (w_not (w_lt w_lit (w_len_list (w_arg rfl))))
    rw [List.length_map] at h5
    refine Nat.le_of_not_lt fun q => ?_
    have q' : (n : Int) < ((ns.length : Nat) : Int) := by omega
    first
      | (rw [decide_eq_true q'] at h5; exact absurd h5 (by decide))
      | (simp at h5; omega)
  cases hwl with
  | cons w1 w2 =>
    cases w2
    cases w1 with
    | list ho hall => exact ⟨_, _, ns, rfl, rfl, ho, ints_of_wellAll ns _ hall, hlen⟩

theorem post_true (l : OpenLaw) (args : List WData) : l.row.toRowW.claim.post args (.bool true) args = true :=
  postW_of (r := l.row.toRowW) (X := (true == true))
    (show WShape.has [] (.bool true) .bool = true by first | rfl | decide | simp [WShape.has, WShape.arms, WShape.armsAll])
    (show (WTm.eq .res (.lit (.bool true))).value [] { args := args, res := some (.bool true), after := args } = some (.bool (true == true)) from w_eq_bool (w_res rfl) w_lit) rfl

/-! ### the attachment: holds_open's last premise (the goal 'hc' behind k_head) from a wpAny of the law's body -/
/-- the same from a codeAny of the CALL (for a layer whose function contracts speak of calls) -/
theorem attach_call {l : OpenLaw} {n : Nat} {q : Program} {loose : List Str} {XP : (Str → Option Value) → Heap → Prop} {YP : World → Heap → Prop} {d : DefRec}
    (hn : l.most = some n) (hdf : d.params.defaults = [])
    (call : ∀ (w : World) (s₀ s₁ : Shared) (mg mb : Str → Option Value) (fa : Addr) (o : Obj) (pm cd doc : Value) (a : Addr) (vs : List Value) (ns : List Int),
      Ground q loose [] XP w s₀ mg mb s₁.heap → YP w s₁.heap →
      s₁.heap.get? fa = some o → o.data = .func (docDef d.name d.params d.body d.scope pm cd doc) → s₁.heap.CodeRec cd d.name → mg d.name = some (.ref fa) →
      s₁.heap.get? a = some { cls := .type "list", data := .seq vs.toArray } → IntsAre vs ns → ns.length ≤ n → s₁.gens = #[] →
      codeAny (model l.prog w) callerA (.call (.ref fa) ⟨[.ref a], []⟩) (fun r s' => r = .ok (.ret (.bool true)) ∧ OldK s₁.heap s'.heap ∧ s'.os = s₁.os ∧ AllBare s'.gens) s₁) :
    WalkO q loose XP YP l.row.toRowW d [] (fun f vs => PySem.call f vs) := by
  intro w s₀ s₁ mg mb G Y fa o pm cd doc dV kV ho hd hcd hD hmg hg args vals as hpre hlay hrd hwl hlo
  obtain rfl : dV = .none := Dflts.none hD hdf
  obtain rfl : kV = .none := Dflts.noKw hD
  obtain ⟨a, vs, ns, rfl, rfl, hobj, hints, hlen⟩ := script_of hn hpre hwl
  refine enter_call (codeAny_mono (call w s₀ s₁ mg mb fa o pm cd doc a vs ns G Y ho (fd_plain hd) hcd hmg hobj hints hlen hg) fun r s' hq => ?_)
  obtain ⟨rfl, h2, h3, h4⟩ := hq
  exact ⟨.inl ⟨.bool true, .bool true, [], rfl, fun _ => rfl, .bool true, post_true l _, fun _ => ⟨List.Pairwise.nil, fun _ hm => (nomatch hm)⟩⟩, h2, h3, h4⟩

/-! ### rules over ANY heap (no ledger) from facts about the written part K: the library's own take a ledger (News) for what they write -/
section
variable {prog : Program} {w : World} {A : Around} {E : Value → Shared → Prop} {s : Shared} {K : Frag}

/-! the whole heap as the ledger: makes every rule that writes through a ledger a rule over any heap -/
end
end Att

namespace L2
open PySem PySem.Spec PyProof.Rows

theorem vals_ints : ∀ {vs : List Value} {ns : List Int}, IntsAre vs ns → Vals (ns.map V.int) vs
  | _, _, .nil => .nil
  | _, _, .cons n t h => .cons ⟨t, rfl⟩ (vals_ints h)

/-- nothing is tracked but the script, known to the object (or it is an object of the module) -/
def Only (H : Hp) : Prop := ∀ b, H b = none ∨ ∃ o xs, H b = some (.frz o (.lst xs))

/-- THE HEAD: the law's promise, at the heap behind the top. F, the promise of the law's def, may use that base is part of the heap (so K.In base, base.Ns mainGlobals mg stand in Mod) -/
theorem law_call {P : Program} {w : World} {K : PySem.W.Frag} {mg mb : Str → Option Value} {CX : CXT} {k : Nat} {fa a : Addr} {fd : FuncData} {x : Str} {sp : Sp} {s₁ : Shared} {vs : List Value} {ns : List Int}
    (KX : K.In s₁.heap) (hns : s₁.heap.Ns mainGlobals mg) (hb : s₁.heap.Ns builtinsNs mb) (hbb : ∀ x : Str, x ≠ "__name__" → mb x = bootBuiltins x) (hlim : s₁.heap.NoLimit) (hg : s₁.gens = #[])
    (ha : s₁.heap.get? a = some { cls := .type "list", data := .seq vs.toArray }) (hi : IntsAre vs ns) (hl : ns.length ≤ sizeLine) (hr : Room k callerA)
    (F : ∀ base : Heap, K.In base → base.Ns mainGlobals mg → FnOk P w K mg base CX k fa fd [x] sp) (hbind : ∀ (s : Shared) (u : Value), BindsTo s fd ⟨[u], []⟩ [(x, u)])
    (hsp : ∀ H : Hp, Only H → SqL K H a (ns.map V.int) → sp [.ref a] H (fun v _ => v = .bl true) fun _ _ _ => False)
    (hCX : ∀ H e s', CX [] H s₁ (fun _ _ _ => False) e s' → False) :
    codeAny (model P w) callerA (.call (.ref fa) ⟨[.ref a], []⟩) (fun r s' => r = .ok (.ret (.bool true)) ∧ OldK s₁.heap s'.heap ∧ s'.os = s₁.os ∧ AllBare s'.gens) s₁ := by
  have rv := vals_ints hi
  have lenV := hi.length
  -- from an abstract heap in which nothing but the script may be tracked
  have core : ∀ H : Hp, Only H → SqL K H a (ns.map V.int) → HOk P w H s₁.heap → (∀ b, H b ≠ none → b = a) → (H a ≠ none → K.lookup a = none) →
      codeAny (model P w) callerA (.call (.ref fa) ⟨[.ref a], []⟩) (fun r s' => r = .ok (.ret (.bool true)) ∧ OldK s₁.heap s'.heap ∧ s'.os = s₁.os ∧ AllBare s'.gens) s₁ := by
    intro H hO hS hok hA hK
    have base_of : ∀ {b : Addr} {o : Obj}, s₁.heap.get? b = some o → H b = none → (hidT s₁.heap H).get? b = some o := fun e n => hidT_get e n
    have noA : ∀ {b : Addr} {o : Obj} {es : Array DictEntry} {ep : Nat}, s₁.heap.get? b = some o → o.data = .dict es ep → H b = none := fun {b o es ep} e d => by
      cases q : H b with
      | none => rfl
      | some u =>
        have e' : b = a := hA b (by rw [q]; simp)
        subst e'
        rw [ha] at e; cases e
        have d' : Data.seq vs.toArray _ = Data.dict es ep := d
        cases d'
    have nsK : ∀ {b : Addr} {m : Str → Option Value}, s₁.heap.Ns b m → (hidT s₁.heap H).Ns b m := fun {b m} ⟨o, es, ep, e, d, r⟩ => ⟨o, es, ep, base_of e (noA e d), d, r⟩
    have hKb : K.In (hidT s₁.heap H) := fun b o e => base_of (KX b o e) (by
      cases q : H b with
      | none => rfl
      | some u =>
        have e' : b = a := hA b (by rw [q]; simp)
        subst e'
        rw [hK (by rw [q]; simp)] at e; cases e)
    have hM : Mod K mg (hidT s₁.heap H) := ⟨hKb, nsK hns, ⟨mb, nsK hb, hbb⟩, let ⟨mc, h1, h2⟩ := hlim; ⟨mc, nsK h1, h2⟩⟩
    have e0 : Env0 P w K mg (hidT s₁.heap H) callerA [] s₁ H := ⟨rfl, hM, fun b o e => of_hidT e, Nat.le_of_eq (hidT_size _ _), trivial, fun b hb => absurd (show b ∈ ([] : List Addr) from hb) (by simp), hok, .of_eq hg⟩
    refine codeAny_mono ((F _ hKb (nsK hns)).run callerA [] s₁ H ⟨[.ref a], []⟩ [.ref a] [.ref a] _ _ hr e0 (hbind s₁ (.ref a)) (.cons rfl .nil) (hsp H hO hS)) fun r s' h => ?_
    cases r with
    | error e => exact (hCX H e s' h).elim
    | ok fl =>
      cases fl with
      | next => exact False.elim h
      | brk => exact False.elim h
      | cont => exact False.elim h
      | ret u =>
        obtain ⟨v, H', os, bare, un, hok', r', q⟩ := h
        have q' : v = .bl true := q
        subst q'
        obtain rfl : u = Value.bool true := r'
        refine ⟨rfl, OldK.of_keep fun b o e => ?_, os, bare⟩
        cases q : H b with
        | none => exact un.keep b o e q (by intro z; exact absurd (show b ∈ ([] : List Addr) from z) (by simp)) (by simp)
        | some u =>
          rcases hO b with z | ⟨ob, xs, z⟩
          · rw [q] at z; cases z
          · have z2 := un.frzs b ob _ z
            obtain ⟨e1, _⟩ := hok b _ z
            obtain ⟨e2, _⟩ := hok' b _ z2
            rw [e] at e1; cases e1
            exact e2
  cases hk : K.lookup a with
  | some o =>
    -- the script is one of the module's own objects
    have e := KX a o hk
    rw [ha] at e
    cases e
    refine core (fun _ => none) (fun _ => .inl rfl) (.inr ⟨_, vs.toArray, _, hk, rfl, rfl, rfl, by rw [List.size_toArray, lenV]; exact hl, by simpa using rv⟩) (fun b u z => by have z' : (none : Option HO) = some u := z; cases z') (fun b z => absurd rfl z) fun z => absurd rfl z
  | none =>
    refine core (fun b => if b = a then some (.frz { cls := .type "list", data := .seq vs.toArray } (.lst (ns.map V.int))) else none) (fun b => ?_) (.inl (.inr ⟨{ cls := .type "list", data := .seq vs.toArray }, if_pos rfl⟩)) (fun b u z => ?_) (fun b z => ?_) fun _ => hk
    · by_cases hb : b = a
      · exact .inr ⟨_, _, if_pos hb⟩
      · exact .inl (if_neg hb)
    · by_cases hb : b = a
      · have z' := (if_pos hb).symm.trans z
        cases z'
        subst hb
        exact ⟨ha, by rw [List.length_map]; exact hl, vs, _, rv, ha⟩
      · have z' := (if_neg hb).symm.trans z
        cases z'
    · by_cases hb : b = a
      · exact hb
      · exact absurd (if_neg hb) z
end L2

namespace L2
open PySem PySem.Spec PyProof.Rows

/-- the goal that k_head leaves (case hc), from the law's promise. F gives the function object fd (K's own) once, then the promise over every base -/
theorem walk_of {l : PySem.W.OpenLaw} {n k : Nat} {q : Program} {loose : List Str} {XP : (Str → Option Value) → Heap → Prop} {YP : World → Heap → Prop} {d : DefRec} {K : Params → PySem.W.Frag} {CX : World → CXT} {sp : World → Sp} {x : Str}
    (hn : l.most = some n) (hn2 : n ≤ sizeLine) (hdf : d.params.defaults = []) (hr : Room k callerA)
    (hY : ∀ (w : World) (h : Heap), YP w h → (K w.params).In h)
    (F : ∀ (w : World) (mg : Str → Option Value) (fa : Addr) (h : Heap), (K w.params).In h → h.Ns mainGlobals mg → mg d.name = some (.ref fa) →
      ∃ fd : FuncData, (∀ (s : Shared) (u : Value), BindsTo s fd ⟨[u], []⟩ [(x, u)]) ∧
        ∀ base : Heap, (K w.params).In base → base.Ns mainGlobals mg → FnOk l.prog w (K w.params) mg base (CX w) k fa fd [x] (sp w))
    (hsp : ∀ (w : World) (H : Hp) (a : Addr) (ns : List Int), ns.length ≤ n → Only H → SqL (K w.params) H a (ns.map V.int) → sp w [.ref a] H (fun v _ => v = .bl true) fun _ _ _ => False)
    (hCX : ∀ (w : World) (H : Hp) (s : Shared) (e : Value) (s' : Shared), CX w [] H s (fun _ _ _ => False) e s' → False) :
    PySem.W.WalkO q loose XP YP l.row.toRowW d [] (fun f vs => PySem.call f vs) := by
  refine Att.attach_call hn hdf fun w s₀ s₁ mg mb fa o pm cd doc a vs ns G Y ho hd hcd hmg hobj hints hlen hg => ?_
  have KX := hY w _ Y
  obtain ⟨fd, hb, hF⟩ := F w mg fa _ KX G.T.g hmg
  exact law_call KX G.T.g G.T.b G.T.builtins G.T.nolimit hg hobj hints (Nat.le_trans hlen hn2) hr hF hb (fun H hO hS => hsp w H a ns hlen hO hS) fun H e s' => hCX w H s₁ e s'
end L2

/- THE LAST THEOREM (shape; LID, My.* are yours):
   My.Adr: a structure of the addresses that your layer names (classes, functions); My.Txt K t: a structure (Prop) of the equations over K;
   My.txt_mk : {K} {implicit addresses ..} (e1 : nsIn K mainGlobals "law" = some (some (.ref f))) (e2 : K.lookup f = some ⟨oc, od, .func (fnOf "law" "law" params body scope dV kV doc pm an cdv ct), sl⟩) (e3 : codeIn K cdv "law" = true) .. : ∃ t, My.Txt K t

set_option maxRecDepth 100000 in
set_option maxHeartbeats 0 in
theorem PySem.Challenge.cw_LID_holds : PySem.Challenge.rw_LID.Holds := by
  w_on; o_law; k_head; (case hw => w_witness2)
  k_fill
  refine L2.walk_of (l := PySem.Challenge.rw_LID) (n := 63) (k := 40) (x := "script") (CX := fun w => ..) (sp := fun _ => My.sp_law) rfl (by decide) rfl ⟨rfl, by decide, by decide⟩ (fun w h Y => PySem.W.kIn_of Y) ?F ?S ?C
  case F =>
    intro w mg fa h KX G hmg
    have T : ∃ t, My.Txt (L2.KOf KX) t := by
      dsimp only [L2.KOf]                          -- K must stand as «<heap const> w.params» for k_is
      refine' My.txt_mk ?e1 ?e2 ?e3 ..
      (case e1 => PySem.W.k_is)                    -- in the order: a name -> its address -> its object -> its parts
      (case e2 => PySem.W.k_is)
      ..
    obtain ⟨t, T⟩ := T
    have e0 := hmg.symm.trans (PySem.W.mg_of KX G T.law)
    cases e0                                       -- fa is the law's own address
    exact ⟨_, fun s u => .of_eq rfl, fun base kb nb => My.law_fn T kb nb⟩     -- if «.of_eq rfl» comes too early: refine' ⟨_, ?b, fun base kb nb => My.law_fn T kb nb⟩; exact fun s u => .of_eq rfl
  case S => exact fun w H a ns hl hO hS => ..
  case C => exact ..
(the tactic k_is has no namespace: write k_is) -/

/-! SHORT WORDS over the layer: a def of the text, its body, what a loop and a test want. -/
namespace L2
open PySem PySem.Spec PyProof.Rows

/-! ### the text by places -/
def defArgs (s : Stmt) : Arguments := match s with
  | .FunctionDef _ a _ _ _ _ _ _ _ _ => a
  | _ => { posonlyargs := [], args := [], vararg := none, kwonlyargs := [], kw_defaults := [], kwarg := none, defaults := [] }
def defBody (s : Stmt) : List Stmt := match s with
  | .FunctionDef _ _ b _ _ _ _ _ _ _ => b
  | _ => []
def defScope (s : Stmt) : Scope := match s with
  | .FunctionDef _ _ _ _ _ _ sc _ _ _ => sc
  | _ => { kind := .function, names := [], isGenerator := false, isCoroutine := false }

/-! ### no exception leaves a def -/
abbrev CX0 : CXT := fun _ _ _ _ _ _ => False
abbrev E0 : XK := fun _ _ _ => False
theorem pass0 {X : Cx} : Passes CX0 X E0 := fun _ _ _ _ _ _ _ h => h.elim

/-! ### a def (or method) of the text as it stands behind the top -/
structure Fun (K : PySem.W.Frag) (x qual : Str) (st : Stmt) (f : Addr) (fd : FuncData) : Prop where
  ex : ∃ (oc : Value) (od : Option Addr) (kV doc pm : Value) (an : Option Addr) (cdv ct : Value) (osl : Array (Option Value)),
    fd = PySem.W.fnOf x qual (defArgs st) (defBody st) (defScope st) .none kV doc pm an cdv ct ∧ K.lookup f = some ⟨oc, od, .func fd, osl⟩ ∧ PySem.W.codeIn K cdv qual = true
  kp : PySem.W.keepIn K (.ref f) = true
section
variable {P : Program} {w : World} {K : PySem.W.Frag} {mg : Str → Option Value} {base : Heap}
/-- THE RULE for a def: its body as a term of rules, and the reading of that term -/
theorem Fun.ok {x qual : Str} {st : Stmt} {f : Addr} {fd : FuncData} {N ps : List Str} {k : Nat} {sp : Sp} (F : Fun K x qual st f fd) (S : FnScope N ps (defScope st)) (len : ∀ vs H Q E, sp vs H Q E → vs.length = ps.length)
    (hbody : ∀ (cdv : Value) (A : Around) (outer : List Env) (s : Shared) (H : Hp) (vs : List V) (Q : VK) (E : XK), Room k (A.deeper (envOfC qual (defScope st) s.heap.objs.size f cdv)) → sp vs H Q E →
      ∃ t, PSs (cxOf CX0 P w K mg base N qual (defScope st) f cdv A outer s H E).nox (defBody st) t ∧ t { nx := fun _ H' => Q .non H', rt := Q } (start N vs) H) : FnOk P w K mg base CX0 (k + 1) f fd ps sp := by
  obtain ⟨oc, od, kV, doc, pm, an, cdv, ct, osl, rfl, lk, hcd⟩ := F.ex
  refine fn_of lk hcd S len fun A outer s H vs Q E hr hsp => ?_
  obtain ⟨t, h, q⟩ := hbody cdv A outer s H vs Q E hr hsp
  exact ⟨t, h.nox, q⟩
/-- how its arguments bind (no defaults): h is «fun _ _ _ _ _ _ us hl => match us, hl with | [_, _], _ => rfl», one _ a parameter -/
theorem Fun.binds {x qual : Str} {st : Stmt} {f : Addr} {fd : FuncData} {ps : List Str} (F : Fun K x qual st f fd)
    (h : ∀ (kV doc pm : Value) (an : Option Addr) (cdv ct : Value) (us : List Value), us.length = ps.length → bindArgs (PySem.W.fnOf x qual (defArgs st) (defBody st) (defScope st) .none kV doc pm an cdv ct) ⟨us, []⟩ = pure (ps.zip us)) : Binds K fd ps [] := by
  obtain ⟨oc, od, kV, doc, pm, an, cdv, ct, osl, rfl, lk, hcd⟩ := F.ex
  exact .all (h kV doc pm an cdv ct)
theorem fun_mk {x qual : Str} {st : Stmt} {f : Addr} {oc : Value} {od an : Option Addr} {osl : Array (Option Value)} {kV doc pm cdv ct : Value} (l : K.lookup f = some ⟨oc, od, .func (PySem.W.fnOf x qual (defArgs st) (defBody st) (defScope st) .none kV doc pm an cdv ct), osl⟩)
    (c : PySem.W.codeIn K cdv qual = true) (k : PySem.W.keepIn K (.ref f) = true) : Fun K x qual st f (PySem.W.fnOf x qual (defArgs st) (defBody st) (defScope st) .none kV doc pm an cdv ct) := ⟨⟨oc, od, kV, doc, pm, an, cdv, ct, osl, rfl, l, c⟩, k⟩
end
theorem hu_of {A : Around} {k : Nat} (hr : Room k A) : A.units + 1 < cLine := Nat.lt_of_le_of_lt (Nat.add_le_add_left (by decide : 1 ≤ 64) _) hr.units
theorem small1000 {n : Nat} (h : n ≤ 1000) : n < sizeLine := Nat.lt_of_le_of_lt h (by decide)

/-! ### expressions in short: the name that stands in the i-th slot -/
section
variable {X : Cx}
theorem pv (i : Nat) {x : Str} {pos : Pos} (hN : X.N[i]? = some x := by rfl) (hv : Vis X.env.scope x := by first | exact Or.inl rfl | exact Or.inr (Or.inl rfl) | exact Or.inr (Or.inr rfl)) (hd : (x == ("__debug__" : Str)) = false := by decide)
    (hcd : (x == ("__classdict__" : Str)) = false := by decide) : PE X (.Name x pos) (tVar i) := pe_var hN hv hd hcd
end

/-! ### tests -/
theorem iteF {A B : Prop} (h : B) : if false = true then A else B := by
  rw [if_neg Bool.false_ne_true]
  exact h
theorem iteT {A B : Prop} (h : A) : if true = true then A else B := by
  rw [if_pos rfl]
  exact h
theorem ite2 {c A B : Prop} [Decidable c] (h1 : c → A) (h2 : ¬ c → B) : if c then A else B := by
  by_cases h : c
  · rw [if_pos h]
    exact h1 h
  · rw [if_neg h]
    exact h2 h
/-! ### heaps -/
/-- all that was tracked is as it was -/
def Same (H H' : Hp) : Prop := ∀ b o, H b = some o → H' b = some o
theorem Same.refl (H : Hp) : Same H H := fun _ _ h => h
theorem Same.trans {H H1 H2 : Hp} (a : Same H H1) (b : Same H1 H2) : Same H H2 := fun c o h => b c o (a c o h)
theorem Same.free {H H' : Hp} (e : Same H H') {l : Addr} (h : H' l = Option.none) : H l = Option.none := by
  cases q : H l with
  | none => rfl
  | some o =>
    rw [e l o q] at h
    cases h
theorem Same.seq {K : PySem.W.Frag} {H H' : Hp} {a : Addr} {xs : List V} (e : Same H H') (h : SqL K H a xs) : SqL K H' a xs := by
  rcases h with (h | ⟨o, h⟩) | h
  · exact .inl (.inl (e _ _ h))
  · exact .inl (.inr ⟨o, e _ _ h⟩)
  · exact .inr h

end L2

set_option Elab.async false
set_option linter.all false
set_option maxRecDepth 100000
set_option maxHeartbeats 4000000
namespace L2
open PySem PySem.Spec PyProof.Rows

/-! ### comprehensions -/
def clOf (cells : List (Str × Addr)) : List (Str × NameKind) → List (Str × Addr) → List (Str × Addr)
  | [], acc => acc
  | (n, k) :: r, acc => clOf cells r (if k == .free then (match cells.lookup n with | some c => (n, c) :: acc | none => acc) else acc)

theorem closure_loop {env : Env} : ∀ (names : List (Str × NameKind)) (acc : List (Str × Addr)), (∀ y ∈ names, y.2 = .free → ∃ c, env.cells.lookup y.1 = some c) →
    (forIn names acc (fun (x : Str × NameKind) (r : List (Str × Addr)) => (match x with
      | (name, kind) => if (kind == NameKind.free) = true then (do let a ← cellOf env name; pure (ForInStep.yield ((name, a) :: r))) else pure (ForInStep.yield r) : Sem (ForInStep (List (Str × Addr)))))) = (pure (clOf env.cells names acc) : Sem _)
  | [], acc, _ => rfl
  | (n, k) :: r, acc, h => by
    rw [List.forIn_cons]
    by_cases hk : k = .free
    · subst hk
      obtain ⟨c, e⟩ := h (n, .free) List.mem_cons_self rfl
      have e' : env.cells.lookup n = some c := e
      have e1 : cellOf env n = pure c := by unfold cellOf; rw [e']
      dsimp only
      rw [if_pos (by decide), e1]
      have q := closure_loop (env := env) r ((n, c) :: acc) fun y hy => h y (List.mem_cons_of_mem _ hy)
      have z : clOf env.cells ((n, NameKind.free) :: r) acc = clOf env.cells r ((n, c) :: acc) := by
        show clOf env.cells r _ = _
        rw [if_pos (by decide), e']
      rw [z, ← q]
      rfl
    · dsimp only
      have hb : (k == NameKind.free) = false := by simpa using hk
      rw [if_neg (by rw [hb]; decide)]
      have q := closure_loop (env := env) r acc fun y hy => h y (List.mem_cons_of_mem _ hy)
      have z : clOf env.cells ((n, k) :: r) acc = clOf env.cells r acc := by
        show clOf env.cells r _ = _
        rw [if_neg (by rw [hb]; decide)]
      rw [z, ← q]
      rfl

theorem closure_is {scope : Scope} {env : Env} (h : ∀ y ∈ scope.names, y.2 = .free → ∃ c, env.cells.lookup y.1 = some c) : closureFor scope env = pure (clOf env.cells scope.names []) := by
  have q := closure_loop (env := env) scope.names [] h
  unfold closureFor
  first
    | exact q
    | (dsimp only; rw [show (forIn scope.names ([] : List (Str × Addr)) _ : Sem _) = _ from q]; rfl)
    | (rw [← q]; rfl)

theorem clOf_sub {cells : List (Str × Addr)} : ∀ (names : List (Str × NameKind)) (acc : List (Str × Addr)), (∀ x c, acc.lookup x = some c → cells.lookup x = some c) → ∀ x c, (clOf cells names acc).lookup x = some c → cells.lookup x = some c
  | [], _, h => h
  | (n, k) :: r, acc, h => by
    refine clOf_sub r _ ?_
    intro x c e
    by_cases hk : (k == NameKind.free) = true
    · rw [if_pos hk] at e
      cases q : cells.lookup n with
      | none => rw [q] at e; exact h x c e
      | some a =>
        rw [q] at e
        have e' : ((n, a) :: acc).lookup x = some c := e
        rw [List.lookup_cons] at e'
        cases hx : x == n with
        | true => rw [hx] at e'; rw [eq_of_beq hx, q]; exact e'
        | false => rw [hx] at e'; exact h x c e'
    · rw [if_neg hk] at e; exact h x c e

theorem clOf_has {cells : List (Str × Addr)} : ∀ (names : List (Str × NameKind)) (acc : List (Str × Addr)) (x : Str), ((∃ c, acc.lookup x = some c) ∨ ((x, NameKind.free) ∈ names ∧ ∃ c, cells.lookup x = some c)) → ∃ c, (clOf cells names acc).lookup x = some c
  | [], _, x, h => h.elim id fun z => nomatch z.1
  | (n, k) :: r, acc, x, h => by
    refine clOf_has r _ x ?_
    rcases h with ⟨c, e⟩ | ⟨hm, c, e⟩
    · left
      by_cases hk : (k == NameKind.free) = true
      · rw [if_pos hk]
        cases q : cells.lookup n with
        | none => exact ⟨c, e⟩
        | some a =>
          show ∃ c, ((n, a) :: acc).lookup x = some c
          rw [List.lookup_cons]
          cases hx : x == n with
          | true => exact ⟨a, rfl⟩
          | false => exact ⟨c, e⟩
      · rw [if_neg hk]; exact ⟨c, e⟩
    · rcases List.mem_cons.mp hm with z | z
      · have z1 : x = n := congrArg Prod.fst z
        have z2 : NameKind.free = k := congrArg Prod.snd z
        subst z1; subst z2
        left
        rw [if_pos (by decide), e]
        exact ⟨c, by show ((x, c) :: acc).lookup x = _; rw [List.lookup_cons, beq_self_eq_true]⟩
      · exact .inr ⟨z, c, e⟩

theorem relabel_of {env : Env} : ∀ (names : List (Str × NameKind)) (x : Str) (k' : NameKind),
    (names.map fun (n, k) => if (k == NameKind.free && env.scope.kind == .function && env.kindOf n == some .cell) then (n, NameKind.cell) else (n, k)).lookup x = some k' →
    ∃ k, names.lookup x = some k ∧ (k' = k ∨ (k = .free ∧ k' = .cell))
  | [], _, _, h => by simp at h
  | (n, k) :: r, x, k', h => by
    have h' : List.lookup x ((if (k == NameKind.free && env.scope.kind == .function && env.kindOf n == some .cell) = true then (n, NameKind.cell) else (n, k)) :: (r.map fun (n, k) => if (k == NameKind.free && env.scope.kind == .function && env.kindOf n == some .cell) then (n, NameKind.cell) else (n, k))) = some k' := h
    by_cases hc : (k == NameKind.free && env.scope.kind == .function && env.kindOf n == some .cell) = true
    · rw [if_pos hc, List.lookup_cons] at h'
      rw [List.lookup_cons]
      cases hx : x == n with
      | true =>
        rw [hx] at h'
        have hk : k = .free := by
          cases hq : (k == NameKind.free) with
          | true => exact eq_of_beq hq
          | false => rw [hq] at hc; simp at hc
        exact ⟨k, rfl, .inr ⟨hk, (Option.some.inj h').symm⟩⟩
      | false => rw [hx] at h'; exact relabel_of r x k' h'
    · rw [if_neg hc, List.lookup_cons] at h'
      rw [List.lookup_cons]
      cases hx : x == n with
      | true => rw [hx] at h'; exact ⟨k, rfl, .inl (Option.some.inj h').symm⟩
      | false => rw [hx] at h'; exact relabel_of r x k' h'

theorem relabel_free {env : Env} : ∀ (names : List (Str × NameKind)) (x : Str), names.lookup x = some .free →
    (names.map fun (n, k) => if (k == NameKind.free && env.scope.kind == .function && env.kindOf n == some .cell) then (n, NameKind.cell) else (n, k)).lookup x = some .cell ∨
    (names.map fun (n, k) => if (k == NameKind.free && env.scope.kind == .function && env.kindOf n == some .cell) then (n, NameKind.cell) else (n, k)).lookup x = some .free
  | [], _, h => by simp at h
  | (n, k) :: r, x, h => by
    show List.lookup x ((if (k == NameKind.free && env.scope.kind == .function && env.kindOf n == some .cell) = true then (n, NameKind.cell) else (n, k)) :: _) = _ ∨ List.lookup x ((if (k == NameKind.free && env.scope.kind == .function && env.kindOf n == some .cell) = true then (n, NameKind.cell) else (n, k)) :: _) = _
    rw [List.lookup_cons] at h
    by_cases hc : (k == NameKind.free && env.scope.kind == .function && env.kindOf n == some .cell) = true
    · rw [if_pos hc, List.lookup_cons]
      cases hx : x == n with
      | true => exact .inl rfl
      | false => rw [hx] at h; exact relabel_free r x h
    · rw [if_neg hc, List.lookup_cons]
      cases hx : x == n with
      | true => rw [hx] at h; exact .inr h
      | false => rw [hx] at h; exact relabel_free r x h

/-- the context of a comprehension's block -/
abbrev Cx.comp (X : Cx) (N : List Str) (scope : Scope) (cl : List (Str × Addr)) (s : Shared) (H : Hp) (C : Addr) (fp : List Addr) : Cx :=
  { X with N := N, s₀ := s, H₀ := H, env := compEnvC scope cl C X.env, outer := X.stack, stack := X.stack, ex := fp, fn := fun _ => false, pn := [], xe := fun _ _ => False }

structure CompScope (X : Cx) (N : List Str) (src : List (Option Nat)) (scope : Scope) : Prop where
  kind : scope.kind = .function
  nocell : ∀ y ∈ scope.names, y.2 ≠ .cell
  names : ∀ y ∈ scope.names, y.2 = .local → scope.names.lookup y.1 = some .local
  has : ∀ y ∈ scope.names, y.2 = .free → X.env.kindOf y.1 = some .cell ∨ X.env.kindOf y.1 = some .free
  slen : src.length = N.length
  frm : ∀ (j i : Nat) (x : Str), src[j]? = some (some i) → N[j]? = some x → X.N[i]? = some x ∧ scope.names.lookup x = some .free

def srcSt (src : List (Option Nat)) (σ : St) : St := src.map fun o => o.bind fun i => (σ[i]?).bind id

/-- a comprehension's tests -/
def PF (X : Cx) (ifs : List Expr) (t : TT) : Prop :=
  ∀ (pins : List (Addr × Obj)) (s : Shared) (σ : St) (H : Hp) (Q : Bool → Hp → Prop), Inv X pins σ H s → t σ H Q →
    wpAny (model X.prog X.w) X.A (forIn ifs true fun c r => if r = true then do let ok ← isTrue c X.env (eval c X.env); pure (ForInStep.yield ok) else pure (ForInStep.yield r)) (TP X pins σ Q) X.xe s
theorem pf_nil {X : Cx} : PF X [] (fun _ H Q => Q true H) := fun _ _ _ H _ I h => wpAny_tests_nil ⟨H, I, h⟩
/-- a comprehension's block: what holds between its turns is W -/
def CompW (J : It) (g : TG) (tf : TT) (te : TE) (D : Addr) (Q : VK) (σ0 : St) (H0 : Hp) : Prop :=
  ∃ W : Nat → Nat → St → Hp → Prop, (∃ m, W 0 m σ0 H0) ∧ ∀ i m σ' H', W i m σ' H' →
    (J.stop i H' ∧ Q (.ref D) H') ∨ (J.go i H' ∧ ∃ N : St → Hp → Prop, (∀ σ2 H2, N σ2 H2 → ∃ m', m' < m ∧ W (i + 1) m' σ2 H2) ∧ ∀ x H2, J.yld i H' x H2 → g x σ' H2 fun σ2 H3 => tf σ2 H3 fun b H4 =>
      if b = true then te σ2 H4 fun y H5 => ∃ ys, H5 D = some (.lst ys) ∧ ys.length < sizeLine ∧ N σ2 (upd H5 D (.lst (ys ++ [y]))) else N σ2 H4)
def tComp (src : List (Option Nat)) (wi : TI) (g : TG) (tf : TT) (te : TE) : TE := fun σ H Q => wi σ H fun J H1 => ∀ D, H1 D = none → CompW J g tf te D Q (srcSt src σ) (upd H1 D (.lst []))

section
variable {prog : Program} {w : World} {A : Around} {R : Result → Shared → Prop} {s : Shared}
/-- what an exception of the block comes to -/
abbrev cErr (P : Program) (w : World) (A : Around) (env : Env) (R : Result → Shared → Prop) : Value → Shared → Prop :=
  notedBy (model P w) A env fun x z => R (.error x) z
/-- the block's tests as the machine asks them -/
abbrev cTests (ifs : List Expr) (env : Env) : Sem Bool :=
  forIn ifs true fun c r => if r = true then do let ok ← isTrue c env (eval c env); pure (ForInStep.yield ok) else pure (ForInStep.yield r)
theorem compLoop_any {elt tg iter : Expr} {ifs : List Expr} {scope : Scope} {pos : Pos} {it acc : Value} {env : Env}
    (J : Nat → Shared → Prop) (N : Value → Nat → Shared → Prop)
    (hN : ∀ v n z, N v n z → wpAny (model prog w) A (letOwnedTupleGo tg it v) (fun _ z1 =>
      wpAny (model prog w) A (assign tg env v) (fun _ z2 =>
      wpAny (model prog w) A (cTests ifs env) (fun b z3 =>
        if b = true then wpAny (model prog w) A (eval elt env) (fun y z4 =>
          wpAny (model prog w) A (call (.builtin "list.append") [acc, y])
            (fun _ z5 => ∃ k, k < n ∧ J k z5) (cErr prog w A env R) z4) (cErr prog w A env R) z3
        else ∃ k, k < n ∧ J k z3)
        (cErr prog w A env R) z2) (cErr prog w A env R) z1) (cErr prog w A env R) z)
    (go : ∀ n z, J n z → wpAny (model prog w) A (pyNext it)
      (fun r z1 => match r with | none => R (.ok .next) z1 | some v => N v n z1) (cErr prog w A env R) z)
    (n : Nat) (h : J n s) :
    codeAny (model prog w) A (.compLoop (.ListComp elt [⟨tg, iter, ifs, 0⟩] scope pos) 0 it acc env) R s := by
  refine codeAny_loop rfl J (fun k z hz => ?_) n h
  show wpAny _ A (Sem.onRaise (compTurn _ 0 it acc env) _) _ _ z
  refine wpAny_noted ?_
  rw [compTurn_list]
  refine wpAny_bind (wpAny_standAt (wpAny_bind ?_))
  refine wpAny_mono (go k z hz) (fun r z1 h1 => ?_) fun _ _ q => q
  cases r with
  | none => exact wpAny_pure h1
  | some v =>
    refine wpAny_bind (wpAny_mono (hN v k z1 h1) (fun _ z2 h2 => wpAny_bind ?_) fun _ _ q => q)
    refine wpAny_mono h2 (fun _ z3 h3 => wpAny_bind ?_) fun _ _ q => q
    refine wpAny_mono h3 (fun b z4 h4 => ?_) fun _ _ q => q
    cases b with
    | false => exact wpAny_pure ⟨rfl, h4⟩
    | true =>
      refine wpAny_bind (wpAny_bind (wpAny_mono h4 (fun y z5 h5 => wpAny_bind ?_) fun _ _ q => q))
      exact wpAny_mono h5 (fun _ z6 h6 => wpAny_pure (wpAny_pure ⟨rfl, h6⟩)) fun _ _ q => q
end
end L2

set_option Elab.async false
set_option linter.all false
set_option maxRecDepth 100000
set_option maxHeartbeats 4000000
namespace L2
open PySem PySem.Spec PyProof.Rows
section
variable {X : Cx}

theorem CompScope.cells {N : List Str} {src : List (Option Nat)} {scope : Scope} (S : CompScope X N src scope) (ok : X.Ok) : ∀ y ∈ scope.names, y.2 = .free → ∃ c, X.env.cells.lookup y.1 = some c :=
  fun y hy hf => ok.has y.1 (S.has y hy hf)

/-- the block's own invariant at its entry -/
theorem inv_comp {N : List Str} {src : List (Option Nat)} {scope : Scope} {pins : List (Addr × Obj)} {σ : St} {H : Hp} {s s' : Shared} {fp : List Addr}
    (S : CompScope X N src scope) (I : Inv X pins σ H s) (hfp : ∀ b ∈ fp, FpOk X pins H b ∧ b < s.heap.objs.size) (hh : ∃ h' tk, s' = { s with heap := h', toks := tk } ∧ h'.Ns s.heap.objs.size (fun _ => none) ∧ ∀ b o, s.heap.get? b = some o → h'.get? b = some o) :
    Inv (X.comp N scope (clOf X.env.cells scope.names []) s H s.heap.objs.size fp) [] (srcSt src σ) H s' := by
  obtain ⟨h', tk, rfl, hns, hk⟩ := hh
  have sub := clOf_sub (cells := X.env.cells) scope.names [] (fun x c e => by simp at e)
  have kfree : ∀ x, (compEnvC scope (clOf X.env.cells scope.names []) s.heap.objs.size X.env).kindOf x = some .cell ∨ (compEnvC scope (clOf X.env.cells scope.names []) s.heap.objs.size X.env).kindOf x = some .free → scope.names.lookup x = some .free := fun x hx => by
    have go : ∀ k', (k' = NameKind.cell ∨ k' = NameKind.free) → (relabel scope X.env).names.lookup x = some k' → scope.names.lookup x = some .free := fun k' hk' e => by
      obtain ⟨k, e1, q⟩ := relabel_of (env := X.env) scope.names x k' e
      rcases q with q | ⟨q, _⟩
      · subst q
        rcases hk' with z | z
        · subst z; exact absurd rfl (S.nocell _ (PySem.mem_of_lookup e1))
        · subst z; exact e1
      · subst q; exact e1
    exact hx.elim (go _ (.inl rfl)) (go _ (.inr rfl))
  have chas : ∀ x, scope.names.lookup x = some .free → ∃ c, (clOf X.env.cells scope.names []).lookup x = some c ∧ X.env.cells.lookup x = some c := fun x e => by
    have hm := PySem.mem_of_lookup e
    obtain ⟨c, e1⟩ := clOf_has (cells := X.env.cells) scope.names [] x (.inr ⟨hm, S.cells I.ok (x, .free) hm rfl⟩)
    exact ⟨c, e1, sub x c e1⟩
  refine ⟨⟨I.ok.mod, ?_, I.ok.glob, I.ok.blt, Nat.le_refl _, fun x y c e1 e2 => ?_, fun x hx => ?_, fun x c e => ?_, I.ok.hd, I.ok.frames, .inl rfl, fun b hb => ?_, I.bs, Nat.le_trans I.ok.bsz I.sz, fun b o e hb => ?_, fun b hb => ?_, I.stack, I.stkFree⟩,
    rfl, I.bare, Un.kept hk, ⟨_, hns, fun j x v e1 e2 e3 => ?_⟩, fun x c e => ?_, I.hok.fresh (Nat.le_refl _), fun x c e => ?_, fun p hp => absurd (show p ∈ ([] : List (Addr × Obj)) from hp) (by simp), I.hok.kept hk, ?_⟩
  · exact S.kind
  · exact I.ok.inj x y c (sub x c e1) (sub y c e2)
  · obtain ⟨c, e1, _⟩ := chas x (kfree x hx)
    exact ⟨c, e1⟩
  · exact absurd e (by simp)
  · obtain ⟨f, hl⟩ := hfp b hb
    exact ⟨Nat.ne_of_lt hl, fun x c e => f.2.2.2.2.1 x c (sub x c e)⟩
  · obtain ⟨f, _⟩ := hfp b hb
    obtain ⟨_, _, _, f4, _⟩ := f
    rcases f4 with z | z
    · exact I.ok.noex b o e z
    · have q := (I.ok.bs b o e).1
      exact absurd (Nat.lt_of_lt_of_le (Heap.lt_size q) z) (Nat.lt_irrefl _)
  · obtain ⟨f, _⟩ := hfp b hb
    intro hz
    rcases List.mem_cons.mp (I.stkSub b hz) with e | e
    · exact f.2.1 e
    · exact f.2.2.1 e
  · have hs : ∃ i, src[j]? = some (some i) ∧ σ[i]? = some (some v) := by
      have e2' : (src.map fun o => o.bind fun i => (σ[i]?).bind id)[j]? = some (some v) := e2
      rw [List.getElem?_map] at e2'
      cases q : src[j]? with
      | none => rw [q] at e2'; cases e2'
      | some o =>
        rw [q] at e2'
        cases o with
        | none => cases e2'
        | some i =>
          refine ⟨i, rfl, ?_⟩
          have e3' : (σ[i]?).bind id = some v := Option.some.inj e2'
          cases z : σ[i]? with
          | none => rw [z] at e3'; cases e3'
          | some o' =>
            rw [z] at e3'
            have : o' = some v := e3'
            rw [this]
    obtain ⟨i, hsj, hσ⟩ := hs
    obtain ⟨hN, hfr⟩ := S.frm j i x hsj e1
    have hkX := S.has (x, .free) (PySem.mem_of_lookup hfr) rfl
    obtain ⟨m, _, hl⟩ := I.loc
    obtain ⟨u, r, lk⟩ := hl i x v hN hσ (.inr hkX)
    refine ⟨u, r, ?_⟩
    rcases lk with ⟨k, _⟩ | ⟨_, c, ec, hcell⟩
    · rcases hkX with z | z
      · rw [z] at k; cases k
      · rw [z] at k; cases k
    · obtain ⟨c', e1', e2'⟩ := chas x hfr
      have : c' = c := by rw [ec] at e2'; exact (Option.some.inj e2').symm
      subst this
      refine .inr ⟨?_, c', e1', ?_⟩
      · exact relabel_free (env := X.env) scope.names x hfr
      · obtain ⟨o, ho, hd⟩ := hcell
        exact ⟨o, hk _ _ ho, hd⟩
  · obtain ⟨v, o, ho, hd⟩ := I.cell x c (sub x c e)
    exact ⟨v, o, hk _ _ ho, hd⟩
  · exact I.freeC x c (sub x c e)
  · show (srcSt src σ).length = N.length
    unfold srcSt
    rw [List.length_map]; exact S.slen

theorem pe_comp {N : List Str} {src : List (Option Nat)} {elt tg iter : Expr} {ifs : List Expr} {scope : Scope} {pos : Pos} {wi : TI} {g : TG} {tf : TT} {te : TE}
    (hc : X.calm = true) (S : CompScope X N src scope) (hi : PI X tg iter wi)
    (hg : ∀ cl s H C fp, PG (X.comp N scope cl s H C fp) tg g) (hf : ∀ cl s H C fp, PF (X.comp N scope cl s H C fp) ifs tf) (he : ∀ cl s H C fp, PE (X.comp N scope cl s H C fp) elt te)
    (hs : ∀ x, foldedSetIterable iter X.env x = pure x := by intro _; rfl) : PE X (.ListComp elt [⟨tg, iter, ifs, 0⟩] scope pos) (tComp src wi g tf te) := by
  intro pins s σ H Q I h
  rw [eval_ListComp]
  refine wpAny_comprehension_free (use := none) rfl hs (closure_is (S.cells I.ok)) S.kind S.names (thn (hi pins s σ H _ I h) fun xv s1 h1 => thn h1 fun itv s2 h2 => ?_)
  obtain ⟨it, fp, tn, J, H2, e, I2, T, st2, f2, hW⟩ := h2
  subst e
  refine wpAny_newObj_type ?_
  generalize hD : s2.heap.objs.size = D
  have hDn : H2 D = none := I2.hok.fresh (Nat.le_of_eq hD)
  have I3 : Inv X pins σ (upd H2 D (.lst [])) { s2 with heap := s2.heap.push { cls := .type "list", dict := none, data := .seq ([] : List Value).toArray } } := by
    subst hD
    exact I2.laid (t' := s2.toks) (fun b u e => Heap.get?_push_of_some _ e) (Nat.le_refl _) ⟨Nat.zero_le _, [], 0, .nil, Heap.get?_push_size _ rfl⟩
  obtain ⟨W, ⟨m0, w0⟩, turn⟩ := hW D hDn
  have up : ∀ b o, s2.heap.get? b = some o → (s2.heap.push { cls := .type "list", dict := none, data := .seq ([] : List Value).toArray }).get? b = some o := fun b u e => Heap.get?_push_of_some _ e
  have obj2 := T.obj _ _ st2
  have st3 : tn 0 (s2.heap.push { cls := .type "list", dict := none, data := .seq ([] : List Value).toArray }) := T.keep _ _ _ st2 fun b _ o e => up b o e
  have fpl : ∀ b ∈ fp, b < s2.heap.objs.size := fun b hb => by obtain ⟨o, e, _⟩ := obj2 b hb; exact Heap.lt_size e
  have f3 : ∀ b ∈ fp, FpOk X pins (upd H2 D (.lst [])) b := fun b hb => ⟨by rw [upd_ne (by rw [← hD]; exact Nat.ne_of_lt (fpl b hb))]; exact (f2 b hb).1, (f2 b hb).2⟩
  generalize hs3 : ({ s2 with heap := s2.heap.push { cls := .type "list", dict := none, data := .seq ([] : List Value).toArray } } : Shared) = s3 at I3 ⊢
  have hs3h : s3.heap = s2.heap.push { cls := .type "list", dict := none, data := .seq ([] : List Value).toArray } := by rw [← hs3]
  rw [← hs3h] at st3
  have fpl3 : ∀ b ∈ fp, b < s3.heap.objs.size := fun b hb => by rw [hs3h, Heap.size_push]; exact Nat.lt_succ_of_lt (fpl b hb)
  generalize hH3 : upd H2 D (.lst []) = H3 at I3 f3 w0
  refine wpAny_newFunctionEnv S.nocell (by intro y hy; simp at hy) (fun h₁ hns₁ hsb₁ => ?_) S.kind
  have k1 : ∀ b o, s3.heap.get? b = some o → h₁.get? b = some o := fun b o e => hsb₁.extBut b o (Nat.ne_of_lt (Heap.lt_size e)) (Heap.get?_push_of_some _ e)
  have IY := inv_comp S I3 (fun b hb => ⟨f3 b hb, fpl3 b hb⟩) ⟨h₁, s3.toks + ([] : List (Str × Value)).length, rfl, hns₁, k1⟩
  have st4 : tn 0 h₁ := T.keep _ _ _ st3 fun b _ o e => k1 b o e
  generalize hcl : clOf X.env.cells scope.names [] = cl at IY ⊢
  generalize hC : s3.heap.objs.size = C at IY hns₁ hsb₁ ⊢
  have fpY : ∀ {H' : Hp}, (∀ b ∈ fp, H' b = none) → ∀ b ∈ fp, FpOk (X.comp N scope cl s3 H3 C fp) [] H' b := fun hn b hb => by
    refine ⟨hn b hb, ?_, ?_, .inl hb, ?_, fun p hp => absurd (show p ∈ ([] : List (Addr × Obj)) from hp) (by simp)⟩
    · exact (IY.ok.exf b hb).1
    · exact IY.ok.exfs b hb
    · intro x c e z; exact (IY.ok.exf b hb).2 x c e z
  have fin : ∀ (σ' : St) (H' : Hp) (s' : Shared), Inv (X.comp N scope cl s3 H3 C fp) [] σ' H' s' → ∀ h', Heap.SameBut C s'.heap h' → Inv X pins σ H' { s' with heap := h' } := fun σ' H' s' I' h' hsb => by
    have hCf : H' C = none := I'.free
    have kp : ∀ b o, b ≠ C → s'.heap.get? b = some o → h'.get? b = some o := fun b o hb e => hsb.extBut b o hb e
    have hCs : s3.heap.get? C = none := by rw [← hC]; exact Heap.get?_none_of_le (Nat.le_refl _)
    have neC : ∀ b o, s3.heap.get? b = some o → b ≠ C := fun b o e z => by rw [z, hCs] at e; cases e
    have U := I'.base
    refine I3.call' (s' := { s' with heap := h' }) (ch := fp) I'.os ⟨fun b o e n hb hx => kp b o (neC b o e) (U.keep b o e n hb hx), fun b o e n hb hx => ?_, U.free, fun b o e hx => ?_, U.tups, U.frzs, U.tbls⟩ ?_ I'.bare fun b hb => ?_
    · obtain ⟨sl, e1⟩ := U.slot b o e n hb hx
      exact ⟨sl, kp b _ (neC b o e) e1⟩
    · obtain ⟨o', e1⟩ := U.there b o e hx
      exact ⟨o', kp b o' (neC b o e) e1⟩
    · intro b ob e
      refine (I'.hok b ob e).stay (fun c w' hcc q => kp c w' (fun z => ?_) q) (fun _ q => q) fun _ _ q => q
      rcases hcc with z1 | z1
      · rw [← z1, z, hCf] at e; cases e
      · rw [z, hCf] at z1; cases z1
    · exact ⟨(f3 b hb).2.2.2.1, (f3 b hb).2.1, fun x c e => (f3 b hb).2.2.2.2.1 x c e, (f3 b hb).2.2.2.2.2⟩
  have loop : ∀ s4 : Shared, s4 = { s3 with heap := h₁, toks := s3.toks + ([] : List (Str × Value)).length } →
      codeAny (model X.prog X.w) X.A (.compLoop (.ListComp elt [⟨tg, iter, ifs, 0⟩] scope pos) 0 (.ref it) (.ref D) (compEnvC scope cl C X.env)) (compPost (model X.prog X.w) X.A X.xe none (EP X pins σ Q) (.ref D) C) s4 := by
    rintro s4 rfl
    refine compLoop_any (fun n s' => ∃ i σ' H', Inv (X.comp N scope cl s3 H3 C fp) [] σ' H' s' ∧ tn i s'.heap ∧ (∀ b ∈ fp, H' b = none) ∧ W i n σ' H') _ (fun _ _ _ q => q) ?_ m0 ⟨0, _, H3, IY, st4, fun b hb => (f3 b hb).1, w0⟩
    rintro n s5 ⟨i, σ5, H5, I5, st5, fr5, w5⟩
    have nofail : ∀ {α : Type} {t : Sem α} {Q1 : α → Shared → Prop} {E1 : Value → Shared → Prop} {ss : Shared}, wpAny (model X.prog X.w) X.A t Q1 (fun _ _ => False) ss → wpAny (model X.prog X.w) X.A t Q1 E1 ss := fun hw => wpAny_mono hw (fun _ _ q => q) fun _ _ z => False.elim z
    rcases turn i n σ5 H5 w5 with ⟨stop, q5⟩ | ⟨go, NN, hN, step⟩
    · refine nofail (thn (T.done (X.comp N scope cl s3 H3 C fp) rfl rfl rfl hc i [] s5 σ5 H5 (fun _ _ => False) I5 (fpY fr5) st5 stop) fun r s6 ⟨hr, I6⟩ => ?_)
      subst hr
      obtain ⟨m6, hn6, _⟩ := I6.loc
      exact ⟨m6, hn6, fun h' hsb => ⟨.ref D, H5, fin σ5 H5 s6 I6 h' hsb, rfl, q5⟩⟩
    · refine nofail (thn (T.item (X.comp N scope cl s3 H3 C fp) rfl rfl rfl hc i [] s5 σ5 H5 (fun _ _ => False) I5 (fpY fr5) st5 go) fun r s6 ⟨u, hr, h6⟩ => ?_)
      subst hr
      refine nofail (thn h6 fun _ s7 ⟨x, H7, I7, r7, y7, st7, fr7⟩ => ?_)
      have I7' := I7.pinned (fpY fr7) (T.obj _ _ st7)
      refine nofail (thn (hg cl s3 H3 C fp _ s7 σ5 H7 x u _ I7' r7 (step x H7 y7)) fun _ s8 ⟨σ8, H8, I8, q8⟩ => ?_)
      refine nofail (thn (hf cl s3 H3 C fp _ s8 σ8 H8 _ I8 q8) fun b s9 ⟨H9, I9, q9⟩ => ?_)
      have again : ∀ {σ9 : St} {HA : Hp} {sA : Shared}, Inv (X.comp N scope cl s3 H3 C fp) ([] ++ pinsAt fp s7.heap) σ9 HA sA → NN σ9 HA → ∃ m, m < n ∧ ∃ i σ' H', Inv (X.comp N scope cl s3 H3 C fp) [] σ' H' sA ∧ tn i sA.heap ∧ (∀ b ∈ fp, H' b = none) ∧ W i m σ' H' := fun {σ9 HA sA} IA nA => by
        obtain ⟨m', hm, wA⟩ := hN σ9 HA nA
        refine ⟨m', hm, i + 1, σ9, HA, IA.unpinned, T.keep _ _ _ st7 fun b hb o e => (IA.pin (b, o) (List.mem_append_right _ (List.mem_append_right _ (mem_pinsAt hb e)))).1, fun b hb => ?_, wA⟩
        obtain ⟨o, e, d⟩ := T.obj _ _ st7 b hb
        exact (IA.pin (b, o) (List.mem_append_right _ (List.mem_append_right _ (mem_pinsAt hb e)))).2.1
      cases b with
      | false =>
        rw [if_neg (by decide)] at q9
        rw [if_neg (by decide)]
        exact again I9 q9
      | true =>
        rw [if_pos rfl] at q9
        rw [if_pos rfl]
        refine nofail (thn (he cl s3 H3 C fp _ s9 σ8 H9 _ I9 q9) fun yv sA ⟨y, HA, IA, rA, ys, hys, hyl, nA⟩ => ?_)
        refine nofail (thn (mt_append _ sA σ8 HA (.ref D) [y] (.ref D) [yv] (fun _ HB => NN σ8 HB) IA rfl (.cons rA .nil) ⟨D, ys, y, rfl, rfl, hys, hyl, nA⟩) fun r sB hB => ?_)
        obtain ⟨_, HB, IB, _, nB⟩ := hB
        exact again IB nB
  exact codeAny_compStart_list (loop _ rfl) (T.self _ 0 _ _ _ st4 (loop _ rfl))
end
end L2

set_option Elab.async false
set_option linter.all false
set_option maxRecDepth 100000
set_option maxHeartbeats 4000000
namespace L2
open PySem PySem.Spec PyProof.Rows PySem.W PySem.Builtin PySem.Builtin.ObjectAttr PySem.Builtin.Getset_descriptor
section
variable {prog : Program} {w : World} {A : Around} {E : Value → Shared → Prop} {K : Frag} {x C : Addr} 

/-- an object of the class at C -/
def Ex1 (x C : Addr) (h : Heap) : Prop := ∃ ox, h.get? x = some ox ∧ ox.cls = .ref C
theorem Ex1.type {M : Model} {h : Heap} (I : Ex1 x C h) : Looks M h (typeOf (.ref x)) (.ref C) := by
  obtain ⟨ox, e, hc⟩ := I
  exact hc ▸ (Looks.ld e).andThen .now
theorem find_exc {M : Model} {h : Heap} (X : K.In h) {a g : Value} {name : Str} (ha : findIn K (.ref C) name = some (some a)) (hg : specialIn K a "__get__" = some (some g)) (ht : takesIn K a = some true) :
    Looks M h (find (.ref x) (.ref C) name) (.bind g a) := by
  have l1 := looks_findIn (M := M) X ha
  have l2 : Looks M h (getOf (some a)) (some g) := looks_specialIn X hg
  have l3 := looks_takesIn (M := M) X ht
  have l4 : Looks M h (dataDescriptor? (some a) (some g)) (some (g, a)) := l3.andThen .now
  exact l1.andThen (l2.andThen (l4.andThen (Looks.tag .now)))
theorem cls_get {prog : Program} {w : World} {A : Around} {R : Result → Shared → Prop} {s : Shared} {tp : Value} (X : K.In s.heap) (I : Ex1 x C s.heap) (hm : mroIn K C (.type "object") = some true) (q : R (.ok (.ret (.ref C))) s) :
    codeAny (model prog w) A (.call (.builtin "getset_descriptor.__get__") ⟨[.builtin "object.__class__", .ref x, tp], []⟩) R s := by
  obtain ⟨hh, g, dr, t, os⟩ := s
  have l0 := I.type (M := model prog w)
  have l1 := looks_mroIn (M := model prog w) X hm
  refine codeAny_call_builtin KF.slot_gs.plain KF.entry_gs
    (KF.slot_gs.check _ _ _ _ _ _ _ _ KF.type_class (KF.args_gs _ _ _) ?_)
  unfold Builtin.«getset_descriptor.__get__» descrGet
  rw [dga_obj]
  refine wpAny_bind (wpAny_pure ?_)
  unfold descrGetter descrCheckInstance descrNameAndClass
  unfold isInstance
  simp only [KF.owner_class]
  repeat (any_goals (first | assumption | with_reducible refine l0.at ?_ | with_reducible refine l1.at ?_ | wp_step))
  refine ⟨Code.quiet_builtin _ (by decide +kernel), codeAny_builtin KF.entry_class ?_⟩
  unfold Builtin.«object.__class__»
  unfold shownTypeOf
  repeat (any_goals (first | assumption | with_reducible refine l0.at ?_ | wp_step))

/-- what is asked of the class of an exception -/
structure ExcK (K : Frag) (C : Addr) : Prop where
  ga : findIn K (.ref C) "__getattribute__" = some (some (.builtin "BaseException.__getattribute__"))
  gt : findIn K (.ref C) "__getattr__" = some none
  cl : findIn K (.ref C) "__class__" = some (some (.builtin "object.__class__"))
  gs : specialIn K (.builtin "object.__class__") "__get__" = some (some (.builtin "getset_descriptor.__get__"))
  tk : takesIn K (.builtin "object.__class__") = some true
  mo : mroIn K C (.type "object") = some true
  mb : mroIn K C (.type "BaseException") = some true
  cd : (clsIn K C).isSome = true

theorem ga_check {M : Model} {A : Around} {h : Heap} {g : Array GenState} {d : Drawn} {t : Nat} {os : OsState} {nameV : Value} {Q : Unit → Shared → Prop} (T : ExcK K C) (X : K.In h) (I : Ex1 x C h)
    (hq : Q () ⟨h, g, d, t, os⟩) : wpAny M A (checkBuiltinCall "BaseException.__getattribute__" ⟨[.ref x, nameV], []⟩) Q E ⟨h, g, d, t, os⟩ := by
  have hk : builtinKind "BaseException.__getattribute__" = some .slot := by decide +kernel
  have hsplit : splitId "BaseException.__getattribute__" = some ("BaseException", "__getattribute__") := by decide +kernel
  have ha := F.args_bexc_ga (.ref x) nameV
  have L0 := I.type (M := M)
  have L1 := looks_mroIn (M := M) X T.mb
  have LI : Looks M h (isInstance (.ref x) (.type "BaseException")) true := L0.andThen L1
  simp only [checkBuiltinCall, hk, hsplit]
  refine wpAny_bind (LI.at ?_)
  repeat (any_goals (first | assumption | wp_step))

theorem ga_entry {tk : Tok} {Q : Fin → Shared → Prop} {h : Heap} {g : Array GenState} {d : Drawn} {t : Nat} {os : OsState} (T : ExcK K C) (X : K.In h) (I : Ex1 x C h) (hq : Q (.done (.ret (.ref C))) ⟨h, g, d, t, os⟩) :
    wpAny (model prog w) A (Builtin.«object.__getattribute__» ⟨[.ref x, .str "__class__" tk], []⟩) Q E ⟨h, g, d, t, os⟩ := by
  have L0 := I.type (M := model prog w)
  have L1 := find_exc (x := x) (M := model prog w) X T.cl T.gs T.tk
  unfold Builtin.«object.__getattribute__»
  refine wpAny_bind (wpAny_pure ?_)
  repeat (any_goals (first | assumption | with_reducible refine L0.at ?_ | with_reducible refine L1.at ?_ | wp_step))
  refine cls_get X I T.mo ?_
  repeat (any_goals (first | assumption | wp_step))

theorem ga_call {tk : Tok} {R : Result → Shared → Prop} {h : Heap} {g : Array GenState} {d : Drawn} {t : Nat} {os : OsState} (T : ExcK K C) (X : K.In h) (I : Ex1 x C h) (hq : R (.ok (.ret (.ref C))) ⟨h, g, d, t, os⟩) :
    codeAny (model prog w) A (.call (.builtin "BaseException.__getattribute__") ⟨[.ref x, .str "__class__" tk], []⟩) R ⟨h, g, d, t, os⟩ :=
  codeAny_call_builtin F.excAttr_ValueError.ga.plain F.entry_bexc_ga (ga_check T X I (ga_entry T X I hq))

theorem exc_ca {Q : Option Value → Shared → Prop} {s : Shared} (T : ExcK K C) (X : K.In s.heap) (I : Ex1 x C s.heap) (hq : Q (some (.ref C)) { s with toks := s.toks + 1 }) :
    wpAny (model prog w) A (getAttr? (.ref x) "__class__") Q E s := by
  obtain ⟨h, g, d, t, os⟩ := s
  have L0 := I.type (M := model prog w)
  have L1 := looks_findIn (M := model prog w) X T.ga
  have L2 := looks_findIn (M := model prog w) X T.gt
  have f3 := F.excAttr_ValueError.ga.bind (.ref x)
  have hx0 : (false && onTheHeap (Value.builtin "BaseException.__getattribute__")) = false := rfl
  have hx2 : (Value.builtin "BaseException.__getattribute__" == Value.builtin "object.__getattribute__") = false := by decide +kernel
  have hx1 : (onTheHeap (Value.ref C) && Value.builtin "BaseException.__getattribute__" == Value.builtin "object.__getattribute__") = false := by rw [hx2]; rfl
  unfold getAttr? getAttrBy?
  refine wpAny_bind (wpAny_mkText (wpAny_bind (wpAny_attempt ?_)))
  repeat (any_goals (first | assumption | with_reducible refine L0.at ?_ | with_reducible refine L1.at ?_ | with_reducible refine L2.at ?_ | wp_step))
  refine ga_call T X I ?_
  repeat (any_goals (first | assumption | wp_step))

theorem kitx_exc (T : ExcK K C) : KitX K (.ref x) (.ref C) (Ex1 x C) where
  ty := fun _ _ _ I => I.type
  it := fun _ _ X _ => by
    obtain ⟨cdD, hcD⟩ := Option.isSome_iff_exists.mp T.cd
    unfold clsIn at hcD
    split at hcD
    · rename_i c' d' cd' sl' ho
      intro A' Q' E' s' k q
      unfold isType loadHead
      exact wpAny_bind (wpAny_loadPart (k _ _ (X _ _ ho)) (wpAny_pure q))
    · cases hcD
  ne := fun h tp dd its n sl X htp => by
    obtain ⟨cdD, hcD⟩ := Option.isSome_iff_exists.mp T.cd
    refine Bool.eq_false_iff.mpr fun q => ?_
    have e : C = tp := Value.ref.inj (beq_iff_eq.mp q)
    subst e
    unfold clsIn at hcD
    split at hcD
    · rename_i c' d' cd' sl' ho
      have z := (X _ _ ho).symm.trans htp
      cases z
    · cases hcD
  ca := fun X I k => exc_ca T X I k
end
end L2

set_option Elab.async false
set_option linter.all false
set_option maxRecDepth 100000
set_option maxHeartbeats 4000000
namespace L2
open PySem PySem.Spec PyProof.Rows PySem.W

/-! ### an exception in flight -/
/-- it flies over the frames l, or it is just made: B stays, the frames' own objects and the exception are not in B -/
def ExIn (B : Heap) (l : List Env) (ea : Addr) (cls a0 : Value) (h : Heap) : Prop :=
  Heap.FlyingW B l ea cls a0 h ∨ (B.StaysIn h ∧ B.get? ea = none ∧ h.FunFrames B l ∧
    h.get? ea = some { cls := cls, data := .fields #[a0, .none, .none, .none, .bool false, .none] })
theorem ExIn.stays {B : Heap} {l : List Env} {ea : Addr} {cls a0 : Value} {h : Heap} (x : ExIn B l ea cls a0 h) : B.StaysIn h := x.elim (fun z => z.1) fun z => z.1
theorem ExIn.notIn {B : Heap} {l : List Env} {ea : Addr} {cls a0 : Value} {h : Heap} (x : ExIn B l ea cls a0 h) : B.get? ea = none := x.elim (fun z => z.2.1) fun z => z.2.1
section
variable {M : Model} {A : Around} {E : Value → Shared → Prop} {s : Shared} {B : Heap} {env : Env} {outer : List Env} {L ea : Addr} {cls a0 : Value} {Q : Unit → Shared → Prop}
theorem ex_leave (hfr : A.frames = some (env :: outer)) (hf : env.frame = some L) (hx : ExIn B (env :: outer) ea cls a0 s.heap)
    (q : ∀ h', ExIn B outer ea cls a0 h' → s.heap.UpToSlots h' → Q () { s with heap := h' }) : wpAny M A (leaving env (.ref ea)) Q E s := by
  rcases hx with hx | ⟨x1, x2, x3, x4⟩
  · exact wpAny_leaves_onW hfr hf hx fun h' y1 y2 => q h' (.inl y1) y2
  · refine wpAny_leaving_firstW (a0 := a0) hfr x3 hf x4 x1 x2 rfl rfl rfl fun h' y => ?_
    obtain ⟨k1, ⟨_, _, k2⟩, k3, k4⟩ := y
    exact q h' (.inl ⟨k1, x2, k2, k3⟩) k4
theorem ex_look (hfr : A.frames = some (env :: outer)) (hf : env.frame = some L) (hx : ExIn B (env :: outer) ea cls a0 s.heap)
    (q : ∀ h', Heap.HeldW B (env :: outer) ea cls a0 L h' → s.heap.UpToSlots h' → Q () { s with heap := h' }) : wpAny M A (noteFrame (.ref ea) env) Q E s := by
  rcases hx with hx | ⟨x1, x2, x3, x4⟩
  · exact wpAny_looks_onW hfr hf hx q
  · unfold noteFrame
    simp only [hf]
    have h1 : (#[a0, .none, .none, .none, .bool false, .none] : Array Value)[1]? = some Value.none := rfl
    refine wpAny_bind (wpAny_field x4 rfl h1 ?_)
    rw [if_neg (show ¬ ((Value.none != Value.none) = true) by decide)]
    refine wpAny_entryW hfr x3 hf x4 x1 x2 rfl (by show 1 < 6; decide) (by rfl) fun h' y => ?_
    obtain ⟨k1, k2, k3, k4⟩ := y
    exact q h' ⟨k1, x2, k2, k3⟩ k4
end

/-- how an exception lies behind a call -/
def CXr (P : Program) (w : World) : CXT := fun outer H s E e s' => ∃ (ea C : Addr) (a0 : Value) (B : Heap) (H' : Hp),
  e = .ref ea ∧ s'.os = s.os ∧ AllBare s'.gens ∧ Un (frs outer) [] H H' s.heap s'.heap ∧ HOk P w H' s'.heap ∧ ExIn B outer ea (.ref C) a0 s'.heap ∧
  (∀ b u o, H' b = some u → s'.heap.get? b = some o → B.get? b = some o) ∧ (∀ b o, s.heap.get? b = some o → b ∉ frs outer → ∃ o', B.get? b = some o') ∧ E (.ref C) none H'
/-- how it lies in a body -/
def XE (X : Cx) (E : XK) (e : Value) (s' : Shared) : Prop := ∃ (σ' : St) (H' : Hp) (ea C : Addr) (a0 : Value) (B : Heap),
  e = .ref ea ∧ Inv X [] σ' H' s' ∧ ExIn B X.stack ea (.ref C) a0 s'.heap ∧ (∀ b u o, H' b = some u → s'.heap.get? b = some o → B.get? b = some o) ∧
  (∀ p ∈ X.pn, B.get? p.1 = some p.2) ∧ (∀ b o, X.s₀.heap.get? b = some o → b ∉ X.fs → b ∉ X.ex → ∃ o', B.get? b = some o') ∧ E (.ref C) none H'
def Lands (X : Cx) (E : XK) : Prop := ∀ e s', XE X E e s' → X.xe e s'

section
variable {X : Cx}
/-- what a flight leaves as it was -/
theorem un_fly {σ : St} {H' : Hp} {s' : Shared} {pins : List (Addr × Obj)} {B h : Heap} (I : Inv X pins σ H' s') (u : s'.heap.UpToSlots h) (st : B.StaysIn s'.heap) (sh : B.StaysIn h)
    (old : ∀ b o, X.s₀.heap.get? b = some o → b ∉ X.fs → b ∉ X.ex → ∃ o', B.get? b = some o') : Un X.fs X.ex X.H₀ H' X.s₀.heap h where
  keep := fun b o e n hb hx => by
    obtain ⟨o', q⟩ := old b o e hb hx
    have q1 := I.base.keep b o e n hb hx
    have q2 := st b o' q
    rw [q1] at q2; cases q2
    exact sh b _ q
  slot := fun b o e n hb hx => by
    obtain ⟨sl, q1⟩ := I.base.slot b o e n hb hx
    obtain ⟨_, ofr, q2, d⟩ := I.ok.funs.mem hb
    rw [e] at q2; cases q2
    obtain ⟨sl', q3⟩ := u b _ q1 d
    exact ⟨sl', q3⟩
  free := I.base.free
  there := fun b o e hx => by
    by_cases hb : b ∈ X.fs
    · obtain ⟨sl, q1⟩ := I.base.slot b o e (I.ok.frf b hb) hb hx
      obtain ⟨_, ofr, q2, d⟩ := I.ok.funs.mem hb
      rw [e] at q2; cases q2
      obtain ⟨sl', q3⟩ := u b _ q1 d
      exact ⟨_, q3⟩
    · obtain ⟨o', q⟩ := old b o e hb hx
      exact ⟨o', sh b o' q⟩
  tups := I.base.tups
  frzs := I.base.frzs
  tbls := I.base.tbls
theorem hok_fly {P : Program} {w : World} {H' : Hp} {h h' B : Heap} (k : HOk P w H' h) (sh : B.StaysIn h') (tr : ∀ b u o, H' b = some u → h.get? b = some o → B.get? b = some o) : HOk P w H' h' := fun a o e =>
  (k a o e).stay (fun b u hb q => sh b u (hb.elim (fun z => tr b o u (z ▸ e) q) fun z => tr b _ u z q)) (fun _ q => q) fun _ _ q => q
theorem inv_fly {σ : St} {H' : Hp} {s' : Shared} {B h : Heap} (I : Inv X [] σ H' s') (u : s'.heap.UpToSlots h) (st : B.StaysIn s'.heap) (sh : B.StaysIn h)
    (tr : ∀ b u o, H' b = some u → s'.heap.get? b = some o → B.get? b = some o) (pn : ∀ p ∈ X.pn, B.get? p.1 = some p.2)
    (old : ∀ b o, X.s₀.heap.get? b = some o → b ∉ X.fs → b ∉ X.ex → ∃ o', B.get? b = some o') : Inv X [] σ H' { s' with heap := h } := by
  have cellK : ∀ c v, s'.heap.IsCell c v → h.IsCell c v := fun c v ⟨o, e, d⟩ => by
    obtain ⟨sl, q⟩ := u c o e (fun vs z => by rw [d] at z; cases z)
    exact ⟨_, q, d⟩
  refine ⟨I.ok, I.os, I.bare, un_fly I u st sh old, ?_, fun x c e => ?_, I.free, I.freeC, fun p hp => ?_, hok_fly I.hok sh tr, I.len⟩
  · obtain ⟨m, hn, hl⟩ := I.loc
    refine ⟨m, u.ns hn, fun i x v e1 e2 e3 => ?_⟩
    obtain ⟨w', r, l⟩ := hl i x v e1 e2 e3
    refine ⟨w', r, ?_⟩
    rcases l with l | ⟨k, c, e, z⟩
    · exact .inl l
    · exact .inr ⟨k, c, e, cellK c _ z⟩
  · obtain ⟨v, z⟩ := I.cell x c e
    exact ⟨v, cellK c v z⟩
  · obtain ⟨e, n, r⟩ := I.pin p hp
    rw [List.append_nil] at hp
    exact ⟨sh _ _ (pn p hp), n, r⟩

theorem Inv.unpin {pins : List (Addr × Obj)} {σ : St} {H : Hp} {s : Shared} (I : Inv X pins σ H s) : Inv X [] σ H s := I.pins_of fun p hp => absurd hp (by simp)

/-- an exception of a callee -/
theorem Lands.passes {E : XK} (l : Lands X E) : Passes (CXr X.prog X.w) X E := by
  intro pins σ H s e s' I h
  obtain ⟨ea, C, a0, B, H', he, os, bare, un, hok, ex, tr, old, q⟩ := h
  have I' : Inv X pins σ H' s' := I.call' os un hok bare (fun b z => absurd z (by simp))
  have nfr : ∀ b, b ≠ X.env.locals → b ∉ X.fs → b ∉ frs X.stack := fun b h1 h2 z => by
    rcases List.mem_cons.mp (I.stkSub b z) with y | y
    · exact h1 y
    · exact h2 y
  refine l e s' ⟨σ, H', ea, C, a0, B, he, I'.unpin, ex, tr, fun p hp => ?_, fun b o e hb hx => ?_, q⟩
  · obtain ⟨e1, n1, n2, n3, _⟩ := I.pin p (List.mem_append_left _ hp)
    obtain ⟨o', q1⟩ := old p.1 p.2 e1 (nfr _ n2 n3)
    have q2 := un.keep p.1 p.2 e1 n1 (nfr _ n2 n3) (by simp)
    have q3 := ex.stays _ _ q1
    rw [q2] at q3; cases q3
    exact q1
  · obtain ⟨o1, e1⟩ := I.base.there b o e hx
    exact old b o1 e1 (nfr b (Nat.ne_of_lt (Nat.lt_of_lt_of_le (Heap.lt_size e) I.ok.above)) hb)

/-- an exception leaves a def's body -/
theorem lands_fn {P : Program} {w : World} {K : PySem.W.Frag} {mg : Str → Option Value} {base : Heap} {N : List Str} {qual : Str} {scope : Scope} {f : Addr} {cd : Value} {A : Around} {outer : List Env} {s : Shared} {H : Hp} {E : XK} :
    Lands (cxOf (CXr P w) P w K mg base N qual scope f cd A outer s H E) E := by
  intro e s' h
  obtain ⟨σ', H', ea, C, a0, B, he, I, ex, tr, pn, old, q⟩ := h
  subst he
  refine ex_leave I.ok.frames rfl ex fun h' y1 y2 => ?_
  refine ⟨ea, C, a0, B, H', rfl, I.os, I.bare, un_fly I y2 ex.stays y1.stays old, hok_fly I.hok y1.stays tr, y1, fun b u o e1 e2 => ?_, fun b o e1 e2 => old b o e1 e2 (by intro z; exact absurd (show b ∈ ([] : List Addr) from z) (by simp)), q⟩
  have hs := (I.hok b u e1).lt
  obtain ⟨o1, q1⟩ : ∃ o1, s'.heap.get? b = some o1 := by
    rcases (I.hok b u e1) with _
    cases z : s'.heap.get? b with
    | some o1 => exact ⟨o1, rfl⟩
    | none =>
      exfalso
      have k := I.hok b u e1
      cases u with
      | lst xs => obtain ⟨_, _, _, _, e⟩ := k; rw [z] at e; cases e
      | tup xs => obtain ⟨_, _, _, ob, e, _⟩ := k; rw [z] at e; cases e
      | dK kvs => obtain ⟨_, _, _, _, o, _, _, e, _⟩ := k; rw [z] at e; cases e
      | dT kvs => obtain ⟨_, _, _, _, o, _, _, e, _⟩ := k; rw [z] at e; cases e
      | set S n => obtain ⟨o, _, _, _, e, _⟩ := k; rw [z] at e; cases e
      | ins C dx fs => obtain ⟨_, _, _, e, _⟩ := k; rw [z] at e; cases e
      | own y => obtain ⟨_, e⟩ := k; rw [z] at e; cases e
      | xd fs => obtain ⟨_, ⟨_, _, _, e, _⟩, _⟩ := k; rw [z] at e; cases e
      | rng lo hi => obtain ⟨_, _, _, e⟩ := k; rw [z] at e; cases e
      | frz ob u => obtain ⟨e, _⟩ := k; rw [z] at e; cases e
      | tbl ps => have e : s'.heap.get? b = some _ := k; rw [z] at e; cases e
      | met f y => have e : s'.heap.get? b = some _ := k; rw [z] at e; cases e
      | ext φ => obtain ⟨_, ⟨_, e⟩, _⟩ := k; rw [z] at e; cases e
  have q2 := tr b u o1 e1 q1
  have q3 := y1.stays b o1 q2
  rw [e2] at q3; cases q3
  exact q2
end
end L2

set_option Elab.async false
set_option linter.all false
set_option maxRecDepth 100000
set_option maxHeartbeats 4000000
namespace L2
open PySem PySem.Spec PyProof.Rows PySem.W

abbrev vErr : List Value := [.type "ValueError", .type "Exception", .type "BaseException", .type "object"]

theorem exc_obj {K : Frag} {h : Heap} {C : Addr} {bmB : List Value} {nid : String} (X : K.In h) (q : excIn K C bmB nid = true) :
    ∃ bm N nm qn bs hd sn sub ab col dd k0 k1 k2 k3 k5 mN, h.get? C = some (excClassObj nm qn C N bs bm hd sn sub ab col dd k0 k1 k2 k3 k5 nid) ∧ h.Ns N mN ∧ mN "__init__" = none ∧ OwnTail h bmB bm := by
  unfold excIn at q
  split at q
  · rename_i dd cd sl ho
    split at q
    · rename_i C1 bm k0 k1 k2 k3 nw k5 mr hs
      simp only [Bool.and_eq_true, beq_iff_eq, Bool.not_eq_true'] at q
      obtain ⟨⟨⟨⟨⟨rfl, rfl⟩, z1⟩, z2⟩, z3⟩, z4⟩ := q
      obtain ⟨nm, bs, mro, ns, qn, hd, sn, sub, ab, col, del⟩ := cd
      dsimp only at mr z1 z3 z4
      subst mr z1
      have es : sl = #[k0, k1, k2, k3, some (.builtin nw), k5] := by
        cases sl
        exact congrArg Array.mk hs
      subst es
      exact ⟨bm, ns, nm, qn, bs, hd, sn, sub, ab, col, dd, k0, k1, k2, k3, k5, _, X _ _ ho,
        .of_isNs (isNs_of_in X z3), nsMap_none_of_in X z3 z4, tail_of_in X z2⟩
    · cases q
  · cases q

section
variable {X : Cx}
/-- the exception is just made: all else stands in B -/
theorem xe_made {E : XK} {pins : List (Addr × Obj)} {σ : St} {H : Hp} {s : Shared} {h' : Heap} {ea C : Addr} {vs : List Value} (l : Lands X E) (I : Inv X pins σ H s) (m : Heap.MadeExcOf s.heap h' ea (.ref C) vs) (q : E (.ref C) none H) :
    X.xe (.ref ea) { s with heap := h' } := by
  obtain ⟨t, e1, e2, e3⟩ := m.there
  have I' : Inv X pins σ H { s with heap := h' } := I.kept (t' := s.toks) m.keeps
  have hin : ∀ env ∈ X.stack, ∀ b, env.frame = some b → b ∈ frs X.stack := fun env he b hb => List.mem_filterMap.mpr ⟨env, he, hb⟩
  have fr : h'.FunFrames (hideAll s.heap (frs X.stack)) X.stack := by
    have f0 := funFrames_hide I.stack hin
    exact f0.of_keeps fun b o e _ => ⟨o, m.keeps b o e, rfl⟩
  have nh : ∀ b o, s.heap.get? b = some o → b ∉ frs X.stack → (hideAll s.heap (frs X.stack)).get? b = some o := fun b o e hb => hideAll_get _ e hb
  refine l _ _ ⟨σ, H, ea, C, .ref t, hideAll s.heap (frs X.stack), rfl, I'.unpin, .inr ⟨fun b o e => m.keeps b o (of_hideAll _ e), ?_, fr, e1⟩, fun b u o eb eo => ?_, fun p hp => ?_, fun b o e hb hx => ?_, q⟩
  · cases z : (hideAll s.heap (frs X.stack)).get? ea with
    | none => rfl
    | some o => have := of_hideAll _ z; rw [m.new] at this; cases this
  · have hb : b ∉ frs X.stack := fun z => by rw [I.stkFree b z] at eb; cases eb
    cases z : s.heap.get? b with
    | some o1 =>
      have := m.keeps b o1 z
      rw [this] at eo; cases eo
      exact nh b _ z hb
    | none => exact absurd ((I.hok b u eb).lt) (by intro hl; exact absurd z (by
        intro z'
        have k := I.hok b u eb
        cases u with
        | lst xs => obtain ⟨_, _, _, _, e⟩ := k; rw [z] at e; cases e
        | tup xs => obtain ⟨_, _, _, ob, e, _⟩ := k; rw [z] at e; cases e
        | dK kvs => obtain ⟨_, _, _, _, o, _, _, e, _⟩ := k; rw [z] at e; cases e
        | dT kvs => obtain ⟨_, _, _, _, o, _, _, e, _⟩ := k; rw [z] at e; cases e
        | set S n => obtain ⟨o, _, _, _, e, _⟩ := k; rw [z] at e; cases e
        | ins C dx fs => obtain ⟨_, _, _, e, _⟩ := k; rw [z] at e; cases e
        | own y => obtain ⟨_, e⟩ := k; rw [z] at e; cases e
        | xd fs => obtain ⟨_, ⟨_, _, _, e, _⟩, _⟩ := k; rw [z] at e; cases e
        | rng lo hi => obtain ⟨_, _, _, e⟩ := k; rw [z] at e; cases e
        | frz ob u => obtain ⟨e, _⟩ := k; rw [z] at e; cases e
        | tbl ps => have e : s.heap.get? b = some _ := k; rw [z] at e; cases e
        | met f y => have e : s.heap.get? b = some _ := k; rw [z] at e; cases e
        | ext φ => obtain ⟨_, ⟨_, e⟩, _⟩ := k; rw [z] at e; cases e))
  · obtain ⟨e1, n1, n2, n3, _⟩ := I.pin p (List.mem_append_left _ hp)
    exact nh _ _ e1 fun z => (List.mem_cons.mp (I.stkSub p.1 z)).elim n2 n3
  · obtain ⟨o1, q1⟩ := I.base.there b o e hx
    exact ⟨o1, nh b o1 q1 fun z => (List.mem_cons.mp (I.stkSub b z)).elim (Nat.ne_of_lt (Nat.lt_of_lt_of_le (Heap.lt_size e) I.ok.above)) hb⟩

/-- raise C(e), C an own class under ValueError -/
theorem ps_raise {x : Str} {C : Addr} {e : Expr} {te : TE} {E : XK} {np cpos pos : Pos} (hc : X.calm = true) (l : Lands X E) (hg : Gl X x) (hm : X.mg x = some (.ref C)) (q : excIn X.K C vErr "ValueError.__new__" = true) (he : PE X e te)
    (hs : starEach [e] X.env = [(false, eval e X.env)] := by rfl) (hd : (x == ("__debug__" : Str)) = false := by decide) :
    PS X (.Raise (some (.Call (.Name x np) [e] [] cpos)) none pos) (fun _ σ H => te σ H fun v H1 => [v].length = 1 ∧ E (.ref C) none H1) := by
  intro pins s σ H D I h
  obtain ⟨bm, N, nm, qn, bs, hdt, sn, sub, ab, col, dd, k0, k1, k2, k3, k5, mN, hC, hN, hni, T⟩ := exc_obj I.mod.kin q
  refine wpAny_Raise_call_subT (C := C) (nm := nm) (q := qn) (N := N) (bs := bs) (bm := bm) (hdct := hdt) (sn := sn) (sub := sub) (ab := ab) (col := col) (dd := dd)
    (k0 := k0) (k1 := k1) (k2 := k2) (k3 := k3) (k5 := k5) PySem.F.excBase_ValueError (mN := mN) (T.hasType PySem.F.excBase_ValueError.hasBase) (I.ok.hd hc) (by rw [hs]; rfl) hni ?_
  refine thn (pe_glob (v := .ref C) (pos := np) hg hm rfl hd pins s σ H (fun v H1 => v = .ref C ∧ H1 = H) I ⟨rfl, rfl⟩) fun f s1 ⟨v, H1, I1, r1, e1, e2⟩ => ?_
  subst e1; subst e2
  refine ⟨r1, ?_⟩
  rw [hs]
  refine Calls.evalArgs_plain ?_
  have ha : PA X [e] (tCons te tNil) := pa_cons he pa_nil (by rw [hs]; rfl)
  have hA := ha cpos pins s1 σ H1 (fun vs H2 => vs.length = 1 ∧ E (.ref C) none H2) I1 h
  rw [hs] at hA
  refine thn hA fun us s2 ⟨vs, H2, I2, r2, e3, q2⟩ => ?_
  refine ⟨rfl, ?_, I2.bk _ _ hC, hN.keeps I2.bk, T.keeps I2.bk, fun h' ea m => xe_made l I2 m q2⟩
  rw [← r2.length, e3]
  decide
end
end L2

set_option Elab.async false
set_option linter.all false
set_option maxRecDepth 100000
set_option maxHeartbeats 4000000
namespace L2
open PySem PySem.Spec PyProof.Rows PySem.W

theorem exc_match {K : Frag} {M : Model} {A : Around} {E : Value → Shared → Prop} {s : Shared} {ea C R : Addr} {Q : Bool → Shared → Prop} (X : K.In s.heap) (I : Ex1 ea C s.heap)
    (hk : kitCls K (.ref C) (.ref R) = some true) (hb : mroIn K R (.type "BaseException") = some true) (q : Q true s) : wpAny M A (excMatches (.ref ea) (.ref R)) Q E s := by
  obtain ⟨h, g, d, t, os⟩ := s
  obtain ⟨l1, l2, l3⟩ := kit_cls (M := M) X hk
  have l4 := looks_mroIn (M := M) X hb
  have l5 := I.type (M := M)
  have f := tc_notTuple
  unfold excMatches isInstance isExcClass
  repeat (any_goals (first | assumption | with_reducible refine l1.at ?_ | with_reducible refine l2.at ?_ | with_reducible refine l3.at ?_ | with_reducible refine l4.at ?_ | with_reducible refine l5.at ?_ | wp_step))

section
variable {X : Cx}
/-- a try's body -/
abbrev Cx.tri (X : Cx) (pn : List (Addr × Obj)) (E : XK) : Cx := { X with pn := pn, xe := XE { X with pn := pn } E }
/-- an except's suite -/
abbrev Cx.hand (X : Cx) (pn : List (Addr × Obj)) (ea : Addr) : Cx := { X with pn := pn, A := X.A.mark (some (.ref ea)), calm := false, xe := fun _ _ => False }

/-- the same body elsewhere: other pins, another surrounding, another wish -/
theorem Inv.turn {X Y : Cx} {pins pins' : List (Addr × Obj)} {σ : St} {H : Hp} {s : Shared} (I : Inv X pins σ H s) (hp : ∀ p ∈ Y.pn ++ pins', p ∈ X.pn ++ pins) (hf : Y.A.frames = some Y.stack) (hd : Y.calm = true → Y.A.handled = none)
    (h1 : Y.prog = X.prog := by rfl) (h2 : Y.w = X.w := by rfl) (h3 : Y.K = X.K := by rfl) (h4 : Y.mg = X.mg := by rfl) (h5 : Y.base = X.base := by rfl) (h6 : Y.N = X.N := by rfl) (h7 : Y.s₀ = X.s₀ := by rfl) (h8 : Y.H₀ = X.H₀ := by rfl) (h9 : Y.env = X.env := by rfl)
    (ha : Y.outer = X.outer := by rfl) (hb : Y.stack = X.stack := by rfl) (hc : Y.ex = X.ex := by rfl) (he : Y.fn = X.fn := by rfl) : Inv Y pins' σ H s := by
  obtain ⟨yp, yw, yK, ymg, ybase, yA, yN, ys0, yH0, yenv, yout, yst, yex, yfn, ycalm, ypn, yxe⟩ := Y
  dsimp only at h1 h2 h3 h4 h5 h6 h7 h8 h9 ha hb hc he hp hf hd
  subst h1 h2 h3 h4 h5 h6 h7 h8 h9 ha hb hc he
  exact ⟨⟨I.ok.mod, I.ok.kind, I.ok.glob, I.ok.blt, I.ok.above, I.ok.inj, I.ok.has, I.ok.cab, hd, hf, I.ok.stk, I.ok.exf, I.ok.bs, I.ok.bsz, I.ok.noex, I.ok.exfs, I.ok.funs, I.ok.frf⟩,
    I.os, I.bare, I.base, I.loc, I.cell, I.free, I.freeC, fun p q => I.pin p (hp p q), I.hok, I.len⟩

theorem lands_tri {pn : List (Addr × Obj)} {E : XK} : Lands (X.tri pn E) E := by
  intro e s' h
  obtain ⟨σ', H', ea, C, a0, B, he, I, ex, tr, hp, old, q⟩ := h
  exact ⟨σ', H', ea, C, a0, B, he, I.turn (fun p z => z) I.ok.frames I.ok.hd, ex, tr, hp, old, q⟩

theorem SP.turn {X Y : Cx} {pins pins' : List (Addr × Obj)} {D : Ends} {f : Flow} {s' : Shared} (k : ∀ σ H, Inv X pins σ H s' → Inv Y pins' σ H s') (h : SP X pins D f s') : SP Y pins' D f s' := by
  cases f with
  | next => obtain ⟨σ', H', I, q⟩ := h; exact ⟨σ', H', k _ _ I, q⟩
  | brk => obtain ⟨σ', H', I, q⟩ := h; exact ⟨σ', H', k _ _ I, q⟩
  | cont => obtain ⟨σ', H', I, q⟩ := h; exact ⟨σ', H', k _ _ I, q⟩
  | ret u => obtain ⟨v, σ', H', I, r, q⟩ := h; exact ⟨v, σ', H', k _ _ I, r, q⟩

/-- an object that was not watched is watched from here on -/
theorem Inv.watch {pins : List (Addr × Obj)} {σ : St} {H : Hp} {s : Shared} {a : Addr} {φ : Heap → Prop} (I : Inv X pins σ H s) (hn : H a = none) (hL : a ≠ X.env.locals) (hC : ∀ x c, X.env.cells.lookup x = some c → c ≠ a)
    (hp : ∀ p ∈ X.pn ++ pins, p.1 ≠ a) (ho : ∀ b o, X.s₀.heap.get? b = some o → b ∉ X.ex → b ≠ a) (new : ObjOk X.prog X.w (upd H a (.ext φ)) s.heap a (.ext φ)) : Inv X pins σ (upd H a (.ext φ)) s := by
  have ne : ∀ b u, H b = some u → b ≠ a := fun b u e z => by rw [z, hn] at e; cases e
  refine ⟨I.ok, I.os, I.bare, ⟨I.base.keep, I.base.slot, fun b o e n hx => ?_, I.base.there, fun b xs e => ?_, fun b o u e => ?_, fun b ps e => ?_⟩, I.loc, I.cell, ?_, fun x c e => ?_, fun p q => ?_, fun b o e => ?_, I.len⟩
  · rw [upd_ne (ho b o e hx)]; exact I.base.free b o e n hx
  · have z := I.base.tups b xs e; rw [upd_ne (ne b _ z)]; exact z
  · have z := I.base.frzs b o u e; rw [upd_ne (ne b _ z)]; exact z
  · obtain ⟨more, z⟩ := I.base.tbls b ps e; exact ⟨more, by rw [upd_ne (ne b _ z)]; exact z⟩
  · rw [upd_ne hL.symm]; exact I.free
  · rw [upd_ne (hC x c e)]; exact I.freeC x c e
  · obtain ⟨q1, q2, q3⟩ := I.pin p q
    exact ⟨q1, by rw [upd_ne (hp p q)]; exact q2, q3⟩
  · by_cases hb : b = a
    · subst hb; rw [upd_same] at e; cases e; exact new
    · rw [upd_ne hb] at e
      exact (I.hok b o e).stay (fun _ _ _ z => z) (fun c z => by rw [upd_ne (ne c _ z)]; exact z) fun c xs z => by rw [upd_ne (ne c _ z)]; exact z

/-- a local name has gone -/
theorem Inv.gone {pins : List (Addr × Obj)} {σ : St} {H : Hp} {s : Shared} {i : Nat} {n : Str} {h' : Heap} {t' : Nat} {m : Str → Option Value} {v : Option Value} (I : Inv X pins σ H s) (hN : X.N.Nodup) (hi : X.N[i]? = some n)
    (hm : ∀ (j : Nat) (x : Str) (v : V), X.N[j]? = some x → σ[j]? = some (some v) → Vis X.env.scope x → ∃ u, RelV v u ∧ Look X.env s.heap m x u)
    (hn : h'.Ns X.env.locals (fun x => if x = n then v else m x)) (sb : Heap.SameBut X.env.locals s.heap h') : Inv X pins (σ.set i none) H { s with heap := h', toks := t' } := by
  have kp : ∀ b o, b ≠ X.env.locals → s.heap.get? b = some o → h'.get? b = some o := fun b o hb e => sb.extBut b o hb e
  have old : ∀ b o, X.s₀.heap.get? b = some o → b ≠ X.env.locals := fun b o e => Nat.ne_of_lt (Nat.lt_of_lt_of_le (Heap.lt_size e) I.ok.above)
  refine ⟨I.ok, I.os, I.bare, ⟨fun b o e n hb hx => kp b o (old b o e) (I.base.keep b o e n hb hx), fun b o e n hb hx => ?_, I.base.free, fun b o e hx => ?_, I.base.tups, I.base.frzs, I.base.tbls⟩, ⟨_, hn, fun j x w e1 e2 e3 => ?_⟩, fun x c e => ?_, I.free, I.freeC, fun p q => ?_, fun b o e => ?_, by rw [List.length_set]; exact I.len⟩
  · obtain ⟨sl, q⟩ := I.base.slot b o e n hb hx
    exact ⟨sl, kp b _ (old b o e) q⟩
  · obtain ⟨o', q⟩ := I.base.there b o e hx
    exact ⟨o', kp b _ (old b o e) q⟩
  · by_cases hj : j = i
    · subst hj
      by_cases hl : j < σ.length
      · rw [List.getElem?_set_self hl] at e2; cases e2
      · rw [List.getElem?_eq_none (by rw [List.length_set]; omega)] at e2; cases e2
    · rw [List.getElem?_set_ne (Ne.symm hj)] at e2
      obtain ⟨u, r, l⟩ := hm j x w e1 e2 e3
      refine ⟨u, r, ?_⟩
      rcases l with ⟨k, e⟩ | ⟨k, c, e, z⟩
      · refine .inl ⟨k, ?_⟩
        have : x ≠ n := fun q => hj (nodup_ix hN e1 (q ▸ hi))
        show (if x = n then v else m x) = some u
        rw [if_neg this]; exact e
      · obtain ⟨o, eo, d⟩ := z
        exact .inr ⟨k, c, e, o, kp c o (I.cne x c e) eo, d⟩
  · obtain ⟨w, o, eo, d⟩ := I.cell x c e
    exact ⟨w, o, kp c o (I.cne x c e) eo, d⟩
  · obtain ⟨q1, q2, q3, q4⟩ := I.pin p q
    exact ⟨kp _ _ q3 q1, q2, q3, q4⟩
  · refine (I.hok b o e).stay (fun c w hc q => kp c w (fun z => ?_) q) (fun _ q => q) fun _ _ q => q
    rcases hc with z1 | z1
    · rw [← z1, z, I.free] at e; cases e
    · rw [z, I.free] at z1; cases z1

/-- what is wanted behind an except's suite: its name has gone -/
def goneD (i : Nat) (D : Ends) : Ends := { nx := fun σ H => D.nx (σ.set i none) H, rt := D.rt, bk := fun σ H => D.bk (σ.set i none) H, ct := fun σ H => D.ct (σ.set i none) H }
def tTry (K : Frag) (len : Nat) (Ra : Addr) (i : Nat) (E : XK) (tb ts : TS) : TS := fun D σ H => tb D σ H ∧ ∀ (σ' : St) (ea C : Addr) (H' : Hp), σ'.length = len → E (.ref C) none H' → H' ea = none →
  kitCls K (.ref C) (.ref Ra) = some true ∧ ts (goneD i D) (σ'.set i (some (.ref ea))) (upd H' ea (.ext (Ex1 ea C)))

theorem ps_try {body suite : List Stmt} {b₀ : Stmt} {R n : Str} {Ra L : Addr} {i : Nat} {E : XK} {tb ts : TS} {rp hpos pos : Pos} (hst : X.stack = X.env :: X.outer) (hfr : X.env.frame = some L) (hfl : L = X.env.locals)
    (hg : Gl X R) (hm : X.mg R = some (.ref Ra)) (hRb : mroIn X.K Ra (.type "BaseException") = some true) (hN : X.N.Nodup) (hi : X.N[i]? = some n) (hn : X.env.kindOf n = some .local)
    (hb : ∀ pn, PSs (X.tri pn E) body tb) (hsu : ∀ pn ea, PSs (X.hand pn ea) (b₀ :: suite) ts) (hd : (R == ("__debug__" : Str)) = false := by decide) :
    PS X (.Try body [.ExceptHandler (some (.Name R rp)) (some n) (b₀ :: suite) hpos] [] [] pos) (tTry X.K X.N.length Ra i E tb ts) := by
  intro pins s σ H D I ⟨h1, h2⟩
  have I0 : Inv (X.tri (X.pn ++ pins) E) [] σ H s := I.turn (fun p z => by simpa using z) I.ok.frames I.ok.hd
  have back : ∀ {Y : Cx} (s' : Shared) (σ' : St) (H' : Hp), Y = X.tri (X.pn ++ pins) E → Inv Y [] σ' H' s' → Inv X pins σ' H' s' := fun {Y} s' σ' H' e J => by
    subst e
    exact J.turn (fun p z => by simpa using z) I.ok.frames I.ok.hd
  refine wpAny_Try_except (wpAny_mono (hb _ [] s σ H D I0 h1) (fun f s1 q => ?_) fun e s1 q => ?_)
  · have q' : SP X pins D f s1 := q.turn fun σ' H' J => back s1 σ' H' rfl J
    cases f with
    | next => exact wpAny_execs_nil q'
    | brk => exact q'
    | cont => exact q'
    | ret u => exact q'
  · obtain ⟨σ1, H1, ea, C, a0, B, he, I1, ex, tr, hpn, old, hE⟩ := q
    subst he
    have ex' : ExIn B (X.env :: X.outer) ea (.ref C) a0 s1.heap := by rw [← hst]; exact ex
    have hfr1 : X.A.frames = some (X.env :: X.outer) := by rw [← hst]; exact I.ok.frames
    have nofail : ∀ {α : Type} {t : Sem α} {A1 : Around} {Q1 : α → Shared → Prop} {E1 : Value → Shared → Prop} {ss : Shared}, wpAny (model X.prog X.w) A1 t Q1 (fun _ _ => False) ss → wpAny (model X.prog X.w) A1 t Q1 E1 ss := fun hw => wpAny_mono hw (fun _ _ q => q) fun _ _ z => False.elim z
    refine ex_look hfr1 hfr ex' fun h4 hh u4 => ?_
    refine wpAny_landsW hh fun h5 fl5 u5 => ?_
    have I5 : Inv { X with pn := X.pn ++ pins } [] σ1 H1 { s1 with heap := h5 } := inv_fly I1 (u4.trans u5) ex.stays fl5.1 tr hpn old
    have I5h : Inv (X.hand (X.pn ++ pins) ea) [] σ1 H1 { s1 with heap := h5 } := I5.turn (fun p z => z) I.ok.frames (fun z => nomatch z)
    have hea : H1 ea = none := by
      cases z : H1 ea with
      | none => rfl
      | some u =>
        obtain ⟨o, eo, _⟩ := ex.elim (fun y => y.there) (fun y => ⟨_, y.2.2.2, rfl⟩)
        have := tr ea u o z eo
        rw [ex.notIn] at this; cases this
    obtain ⟨hk, hts⟩ := h2 σ1 ea C H1 I1.len hE hea
    refine wpAny_handleBy_cons (codeAny_handlers_test (nofail ?_)) (by intro z; cases z)
    refine ld_glob (X := X.hand (X.pn ++ pins) ea) I5h hg hm ?_ hd
    obtain ⟨o5, eo5, ho5⟩ := fl5.there
    refine exc_match I5h.kIn ⟨o5, eo5, ho5⟩ hk hRb ?_
    refine codeAny_handlers_suite_as (lands_againW fl5 fun h6 fl6 u6 => ?_)
    have u : s1.heap.UpToSlots h6 := (u4.trans u5).trans u6
    have I6 : Inv { X with pn := X.pn ++ pins } [] σ1 H1 { s1 with heap := h6 } := inv_fly I1 u ex.stays fl6.1 tr hpn old
    have I6h : Inv (X.hand (X.pn ++ pins) ea) [] σ1 H1 { s1 with heap := h6 } := I6.turn (fun p z => z) I.ok.frames (fun z => nomatch z)
    obtain ⟨oe, vs, eoe, hoc, hod, _⟩ := fl6.first
    have I7 : Inv (X.hand (X.pn ++ pins) ea) [] σ1 (upd H1 ea (.ext (Ex1 ea C))) { s1 with heap := h6 } := by
      refine I6h.watch hea (fun z => ?_) (fun x c e z => ?_) (fun p q z => ?_) (fun b o e hx z => ?_) ⟨⟨oe, eoe, hoc⟩, ⟨oe, eoe⟩, fun g1 g2 ⟨o, e1, e2⟩ k => ⟨o, k o e1, e2⟩⟩
      · obtain ⟨m, ⟨o, es, ep, e1, e2, _⟩, _⟩ := I6h.loc
        have e1' : h6.get? ea = some o := by rw [z]; exact e1
        rw [eoe] at e1'; cases e1'
        rw [hod] at e2; cases e2
      · obtain ⟨v, o, e1, e2⟩ := I6h.cell x c e
        have e1' : h6.get? ea = some o := by rw [← z]; exact e1
        rw [eoe] at e1'; cases e1'
        rw [hod] at e2; cases e2
      · have q' : p ∈ X.pn ++ pins := by simpa using q
        have := hpn p q'
        rw [z, ex.notIn] at this; cases this
      · subst z
        by_cases hf : b ∈ X.fs
        · obtain ⟨sl, q1⟩ := (un_fly I1 u ex.stays fl6.1 old).slot b o e (I.ok.frf b hf) hf hx
          obtain ⟨_, o2, q2, d⟩ := I.ok.funs.mem hf
          rw [e] at q2; cases q2
          rw [eoe] at q1
          have q3 : oe.data = o.data := by cases q1; rfl
          exact d vs (by rw [← q3]; exact hod)
        · obtain ⟨o', q1⟩ := old b o e hf hx
          rw [ex.notIn] at q1; cases q1
    refine nofail (store_ok (X := X.hand (X.pn ++ pins) ea) I7 hN hi (.inl hn) (v := .ref ea) (u := .ref ea) rfl (fun s8 I8 => ?_) (.inr hn))
    refine nofail (thn (hsu _ ea [] s8 _ _ (goneD i D) I8 hts) fun f s9 q9 => ?_)
    have hcl : (X.env.scope.kind == .class || (X.env.scope.kind == .module && X.env.locals != X.env.globals)) = false := by rw [I.ok.kind]; rfl
    have fin : ∀ (σ9 : St) (H9 : Hp) (Z : Flow → Shared → Prop), Inv (X.hand (X.pn ++ pins) ea) [] σ9 H9 s9 → (∀ sA, Inv X pins (σ9.set i none) H9 sA → Z f sA) →
        wpAny (model X.prog X.w) X.A (do bindName X.env n .none; unbindBehindTheSuite X.env n hpos) (fun _ sA => Z f sA) X.xe s9 := fun σ9 H9 Z I9 k => by
      have I9' : Inv X pins σ9 H9 s9 := I9.turn (fun p z => by simpa using z) I.ok.frames I.ok.hd
      obtain ⟨m, hm9, hl9⟩ := I9'.loc
      exact wpAny_nameGoes_keeps hn hm9 hcl fun h' v hn' sb => k _ (I9'.gone hN hi hl9 hn' sb)
    show wpAny (model X.prog X.w) X.A (do bindName X.env n .none; unbindBehindTheSuite X.env n hpos) (fun _ sA => SP X pins D f sA) X.xe s9
    cases f with
    | next => obtain ⟨σ9, H9, I9, q⟩ := q9; exact fin σ9 H9 (SP X pins D) I9 fun sA IA => ⟨_, _, IA, q⟩
    | brk => obtain ⟨σ9, H9, I9, q⟩ := q9; exact fin σ9 H9 (SP X pins D) I9 fun sA IA => ⟨_, _, IA, q⟩
    | cont => obtain ⟨σ9, H9, I9, q⟩ := q9; exact fin σ9 H9 (SP X pins D) I9 fun sA IA => ⟨_, _, IA, q⟩
    | ret u => obtain ⟨v, σ9, H9, I9, r, q⟩ := q9; exact fin σ9 H9 (SP X pins D) I9 fun sA IA => ⟨v, _, _, IA, r, q⟩
end
end L2

set_option Elab.async false
set_option linter.all false
set_option maxRecDepth 100000
set_option maxHeartbeats 4000000
namespace L2
open PySem PySem.Spec PyProof.Rows PySem.W

/-! ### calls within an except's suite -/
structure RoomH (k : Nat) (A : Around) : Prop where
  dp : A.depth + 3 * k + 5 < recursionLimit
  un : A.units + 16 * k + 200 < cLine
theorem Room.h {k : Nat} {A : Around} (r : Room k A) : RoomH k A := ⟨r.dp, r.un⟩
theorem RoomH.mark {k : Nat} {A : Around} {e : Option Value} (r : RoomH k A) : RoomH k (A.mark e) := ⟨r.dp, r.un⟩
theorem RoomH.mono {j k : Nat} {A : Around} (r : RoomH k A) (h : j ≤ k) : RoomH j A := ⟨by have := r.dp; omega, by have := r.un; omega⟩
theorem RoomH.deeper {k : Nat} {A : Around} (r : RoomH (k + 1) A) (env : Env) : RoomH k (A.deeper env) :=
  ⟨by have := r.dp; show A.depth + 1 + 3 * k + 5 < _; omega, by have := r.un; show A.units + 3 + 16 * k + 200 < _; omega⟩
theorem RoomH.depth {k : Nat} {A : Around} (r : RoomH k A) : A.depth < recursionLimit := by have := r.dp; omega

structure FnOkH (P : Program) (w : World) (K : PySem.W.Frag) (mg : Str → Option Value) (base : Heap) (CX : CXT) (k : Nat) (f : Addr) (fd : FuncData) (ps : List Str) (sp : Sp) : Prop where
  len : ∀ vs H Q E, sp vs H Q E → vs.length = ps.length
  run : ∀ (A : Around) (outer : List Env) (s : Shared) (H : Hp) (args : Args) (us : List Value) (vs : List V) (Q : VK) (E : XK), RoomH k A → Env0 P w K mg base A outer s H → BindsTo s fd args (ps.zip us) → Vals vs us → sp vs H Q E →
    codeAny (model P w) A (.call (.ref f) args) (CR CX outer P w H s Q E) s
/-- the context of a body that may run within an except's suite -/
abbrev cxH (CX : CXT) (P : Program) (w : World) (K : PySem.W.Frag) (mg : Str → Option Value) (base : Heap) (N : List Str) (qual : Str) (scope : Scope) (f : Addr) (cd : Value) (A : Around) (outer : List Env) (s : Shared) (H : Hp) (E : XK) : Cx :=
  { cxOf CX P w K mg base N qual scope f cd A outer s H E with calm := false }

theorem fnH_of {CX : CXT} {P : Program} {w : World} {K : PySem.W.Frag} {mg : Str → Option Value} {base : Heap} {k : Nat} {f : Addr} {name qual : Str} {params : Arguments} {body : List Stmt} {scope : Scope} {dV kV doc pm cdv ct oc : Value} {an od : Option Addr}
    {osl : Array (Option Value)} {N ps : List Str} {sp : Sp} (lk : K.lookup f = some ⟨oc, od, .func (PySem.W.fnOf name qual params body scope dV kV doc pm an cdv ct), osl⟩) (hcd : PySem.W.codeIn K cdv qual = true) (S : FnScope N ps scope)
    (len : ∀ vs H Q E, sp vs H Q E → vs.length = ps.length)
    (hbody : ∀ (A : Around) (outer : List Env) (s : Shared) (H : Hp) (vs : List V) (Q : VK) (E : XK), RoomH k (A.deeper (envOfC qual scope s.heap.objs.size f cdv)) → sp vs H Q E →
      ∃ t, PSs (cxH CX P w K mg base N qual scope f cdv A outer s H E) body t ∧ t { nx := fun _ H' => Q .non H', rt := Q } (start N vs) H) :
    FnOkH P w K mg base CX (k + 1) f (PySem.W.fnOf name qual params body scope dV kV doc pm an cdv ct) ps sp := by
  refine ⟨len, fun A outer s H args us vs Q E hr e0 hb r hsp => ?_⟩
  have hl := len _ _ _ _ hsp
  have KX : K.In s.heap := e0.mod.kin.keeps fun b o e => (e0.bs b o e).1
  have lim : s.heap.NoLimit := e0.mod.nolimit.keeps fun b o e => (e0.bs b o e).1
  have hkind : ∀ y ∈ ps.zip us, scope.names.lookup y.1 = some .local ∨ (scope.names.lookup y.1 = some .cell ∧ ((cellsFrom (s.heap.objs.size + 1) scope.names []).lookup y.1).isSome = true) := fun ⟨n, v⟩ hy => by
    rcases S.par n (List.of_mem_zip hy).1 with q | q
    · exact .inl q
    · exact .inr ⟨q, PySem.W.cellsFrom_some _ _ _ (.inl q)⟩
  refine codeAny_call_function hr.depth (KX _ _ lk) rfl S.co S.gen rfl (PySem.W.codeRec_of KX hcd) (hb _ _ _ _ ?_)
  refine wpAny_newFunctionEnv_cells S.kind hkind fun env he s1 x => ?_
  subst he
  refine ⟨lim.keeps x.toInCall.keep, codeAny_func ?_⟩
  obtain ⟨t, ht, hq⟩ := hbody A outer s H vs Q E (hr.deeper _) hsp
  have e1 : Env0 P w K mg base { A with handled := none } outer s H := ⟨e0.frames, e0.mod, e0.bs, e0.bsz, e0.funs, e0.frf, e0.hok, e0.bare⟩
  have I0 : Inv (cxOf CX P w K mg base N qual scope f cdv { A with handled := none } outer s H E) [] (start N vs) H s1 := inv_start S rfl e1 hl r x
  have I : Inv (cxH CX P w K mg base N qual scope f cdv A outer s H E) [] (start N vs) H s1 := I0.turn (fun p z => z) (Around.frames_deeper e0.frames) (fun z => nomatch z)
  refine wpAny_mono (ht [] s1 (start N vs) H _ I hq) (fun fl s' hs => ?_) fun e s' hs => hs
  have fin : ∀ {σ' : St} {H' : Hp} {v : V} {u : Value}, Inv (cxH CX P w K mg base N qual scope f cdv A outer s H E) [] σ' H' s' → RelV v u → Q v H' → CE outer P w H s Q u s' :=
    fun {σ' H' v u} J rv q => ⟨v, H', J.os, J.bare, J.base, J.hok, rv, q⟩
  cases fl with
  | ret u =>
    obtain ⟨v, σ', H', J, rv, q⟩ := hs
    exact fin J rv q
  | next =>
    obtain ⟨σ', H', J, q⟩ := hs
    exact fin (v := V.non) (u := Value.none) J rfl q
  | brk =>
    obtain ⟨_, _, _, q⟩ := hs
    exact False.elim q
  | cont =>
    obtain ⟨_, _, _, q⟩ := hs
    exact False.elim q
theorem Fun.okH {P : Program} {w : World} {K : PySem.W.Frag} {mg : Str → Option Value} {base : Heap} {x qual : Str} {st : Stmt} {f : Addr} {fd : FuncData} {N ps : List Str} {k : Nat} {sp : Sp} (F : Fun K x qual st f fd) (S : FnScope N ps (defScope st)) (len : ∀ vs H Q E, sp vs H Q E → vs.length = ps.length)
    (hbody : ∀ (cdv : Value) (A : Around) (outer : List Env) (s : Shared) (H : Hp) (vs : List V) (Q : VK) (E : XK), RoomH k (A.deeper (envOfC qual (defScope st) s.heap.objs.size f cdv)) → sp vs H Q E →
      ∃ t, PSs (cxH CX0 P w K mg base N qual (defScope st) f cdv A outer s H E).nox (defBody st) t ∧ t { nx := fun _ H' => Q .non H', rt := Q } (start N vs) H) : FnOkH P w K mg base CX0 (k + 1) f fd ps sp := by
  obtain ⟨oc, od, kV, doc, pm, an, cdv, ct, osl, rfl, lk, hcd⟩ := F.ex
  refine fnH_of lk hcd S len fun A outer s H vs Q E hr hsp => ?_
  obtain ⟨t, h, q⟩ := hbody cdv A outer s H vs Q E hr hsp
  exact ⟨t, h.nox, q⟩
/-- a def that may raise -/
theorem Fun.okX {P : Program} {w : World} {K : PySem.W.Frag} {mg : Str → Option Value} {base : Heap} {x qual : Str} {st : Stmt} {f : Addr} {fd : FuncData} {N ps : List Str} {k : Nat} {sp : Sp} (F : Fun K x qual st f fd) (S : FnScope N ps (defScope st)) (len : ∀ vs H Q E, sp vs H Q E → vs.length = ps.length)
    (hbody : ∀ (cdv : Value) (A : Around) (outer : List Env) (s : Shared) (H : Hp) (vs : List V) (Q : VK) (E : XK), Room k (A.deeper (envOfC qual (defScope st) s.heap.objs.size f cdv)) → sp vs H Q E →
      ∃ t, PSs (cxOf (CXr P w) P w K mg base N qual (defScope st) f cdv A outer s H E) (defBody st) t ∧ t { nx := fun _ H' => Q .non H', rt := Q } (start N vs) H) : FnOk P w K mg base (CXr P w) (k + 1) f fd ps sp := by
  obtain ⟨oc, od, kV, doc, pm, an, cdv, ct, osl, rfl, lk, hcd⟩ := F.ex
  exact fn_of lk hcd S len fun A outer s H vs Q E hr hsp => hbody cdv A outer s H vs Q E hr hsp

section
variable {X : Cx} {CX : CXT} {k : Nat} {f C : Addr} {fd : FuncData} {ps : List Str} {sp : Sp} {dvs : List V} {ds : List Value} {E : XK} {x m : Str} {p pos apos : Pos} {e o : Expr} {es : List Expr} {ta : TE} {t : TA}
theorem pe_callH (F : FnOkH X.prog X.w X.K X.mg X.base CX k f fd ps sp) (hr : RoomH k X.A) (hg : Gl X x) (hm : X.mg x = some (.ref f)) (hk : PySem.W.keepIn X.K (.ref f) = true) (hb : Binds X.K fd ps ds) (hd : Vals dvs ds) (hx : Passes CX X E)
    (ha : PA X (e :: es) t) (hdb : (x == ("__debug__" : Str)) = false := by decide) (he : starEach (e :: es) X.env = (false, eval e X.env) :: starEach es X.env := by rfl) (hpl : (backTo pos (starEach es X.env)).any (·.1) = false := by rfl) :
    PE X (.Call (.Name x p) (e :: es) [] pos) (tCall sp dvs E t) := by
  intro pins s σ H Q I h
  refine wpAny_Call_Name_kw (ld_glob I hg hm ?_ hdb)
  refine PySem.W.callWith_K (h₀ := X.base) I.ok.mod.kin hk (thn (ha pos pins s σ H _ I h) fun us s1 ⟨vs, H1, I1, r, q⟩ => ⟨I1.kIn, ?_⟩) he hpl
  have r2 : Vals (vs ++ dvs) (us ++ ds) := r.append hd
  have hl : (us ++ ds).length = ps.length := by rw [← r2.length]; exact F.len _ _ _ _ q
  refine wpAny_call (codeAny_mono (F.run X.A X.stack s1 H1 ⟨us, []⟩ (us ++ ds) (vs ++ dvs) Q E hr I1.env0 (hb s1 us I1.kIn hl) r2 q) fun r s' hq => ?_)
  cases r with
  | error e => exact hx pins σ H1 s1 e s' I1 hq
  | ok fl =>
    cases fl with
    | ret u => exact I1.after hq
    | next => exact False.elim hq
    | brk => exact False.elim hq
    | cont => exact False.elim hq

/-! ### isinstance -/
/-- what type() tells of a value -/
inductive TyX (K : Frag) (H : Hp) : V → Value → Prop where
  | of {x : V} {t : Value} (h : TyOf K H x t) : TyX K H x t
  | exc {a C : Addr} (e : H a = some (.ext (Ex1 a C))) (T : ExcK K C) : TyX K H (.ref a) (.ref C)
/-- a class as a value -/
def ClsV : V → Value → Prop
  | .ref a, c => c = .ref a
  | .ty n, c => c = .type n
  | _, _ => False
def rInst (K : Frag) : List V → Hp → VK → Prop := fun vs H Q => ∃ x c t cv b, vs = [x, c] ∧ TyX K H x t ∧ ClsV c cv ∧ kitOne K t cv = some b ∧ Q (.bl b) H
theorem call_inst : CallR X (.builtin "isinstance") (rInst X.K) := by
  intro pins s σ H xs us Q I rv h
  obtain ⟨x, c, t, cv, b, rfl, ty, hc, e, q⟩ := h
  cases rv with
  | cons r1 r2 =>
    cases r2 with
    | cons r3 r4 =>
      cases r4
      rename_i u1 u2
      have ec : u2 = cv := by
        cases c with
        | ref a => exact (show u2 = .ref a from r3).trans (show cv = .ref a from hc).symm
        | ty n => exact (show u2 = .type n from r3).trans (show cv = .type n from hc).symm
        | non => exact hc.elim
        | bl _ => exact hc.elim
        | int _ => exact hc.elim
        | str _ => exact hc.elim
        | byt _ => exact hc.elim
        | flt _ => exact hc.elim
      subst ec
      cases ty with
      | of ty => exact isinst_ok I r1 ty e fun tk => ⟨.bl b, H, I.tok tk, rfl, q⟩
      | @exc a C ea T =>
        cases (show u1 = Value.ref a from r1)
        obtain ⟨p, _, _⟩ := (show ObjOk X.prog X.w H s.heap a (.ext (Ex1 a C)) from I.hok a _ ea)
        exact PySem.W.kia_one (kitx_exc T) I.kIn p e (fun z => nomatch z) fun tk => ⟨.bl b, H, I.tok tk, rfl, q⟩
end
end L2

set_option Elab.async false
set_option linter.all false
set_option maxRecDepth 100000
set_option maxHeartbeats 4000000
namespace L2
open PySem PySem.Spec PyProof.Rows PySem.W
section
variable {X : Cx}

/-- a part that is never come to -/
def tNo : TE := fun _ _ _ => False
theorem pe_no {e : Expr} : PE X e tNo := fun _ _ _ _ _ _ h => h.elim

/-- xs.count(y), xs.index(y): all flat -/
def rCount : V → List V → Hp → VK → Prop := fun x vs H Q => ∃ l xs y, x = .ref l ∧ vs = [y] ∧ H l = some (.lst xs) ∧ xs.all flatV = true ∧ flatV y = true ∧ Q (.int (xs.countP fun z => eqV z y : Nat)) H
theorem all_flat {A : Around} {s : Shared} {y : V} {u : Value} (ry : RelV y u) (fy : flatV y = true) (f : Value → Bool) : ∀ {xs : List V} {us : List Value}, Vals xs us → xs.all flatV = true →
    (∀ z w, z ∈ xs → w ∈ us → RelV z w → f w = eqV z y) → ∀ w ∈ us, SeqAt.EqAt A s w u (f w)
  | _, _, .nil, _, _, _, h => nomatch h
  | z :: zs, w :: ws, .cons r t, ha, hf, v, hv => by
    rw [List.all_cons, Bool.and_eq_true] at ha
    rcases List.mem_cons.mp hv with e | e
    · subst e
      rw [hf z v List.mem_cons_self List.mem_cons_self r]
      exact eqAt_V r ry ha.1 fy
    · exact all_flat ry fy f t ha.2 (fun a b h1 h2 => hf a b (List.mem_cons_of_mem _ h1) (List.mem_cons_of_mem _ h2)) v e
/-- what a flat value is equal to, told of the value itself -/
def eqW (y : V) (w : Value) : Bool := match w with
  | .none => eqV .non y
  | .bool b => eqV (.bl b) y
  | .int i _ => eqV (.int i) y
  | .str x _ => eqV (.str x) y
  | _ => false
theorem eqW_of {z y : V} {w : Value} (r : RelV z w) (f : flatV z = true) : eqW y w = eqV z y := by
  cases z with
  | non => cases (show w = Value.none from r); rfl
  | bl b => cases (show w = Value.bool b from r); rfl
  | int i => obtain ⟨t, rfl⟩ := (show ∃ t, w = Value.int i t from r); rfl
  | str x => obtain ⟨t, rfl⟩ := (show ∃ t, w = Value.str x t from r); rfl
  | byt b => exact nomatch f
  | flt b => exact nomatch f
  | ref a => exact nomatch f
  | ty n => exact nomatch f
theorem countP_U {y : V} : ∀ {xs : List V} {us : List Value}, Vals xs us → xs.all flatV = true → us.countP (eqW y) = xs.countP fun z => eqV z y
  | _, _, .nil, _ => rfl
  | z :: zs, w :: ws, .cons r t, ha => by
    rw [List.all_cons, Bool.and_eq_true] at ha
    rw [List.countP_cons, List.countP_cons, countP_U t ha.2, eqW_of r ha.1]
theorem at_U {y : V} : ∀ {xs : List V} {us : List Value} {j : Nat} (h : j < us.length), Vals xs us → xs.all flatV = true → ∃ z, xs[j]? = some z ∧ eqW y us[j] = eqV z y
  | _, _, _, h, .nil, _ => absurd h (by simp)
  | z :: zs, w :: ws, 0, _, .cons r t, ha => by
    rw [List.all_cons, Bool.and_eq_true] at ha
    exact ⟨z, rfl, eqW_of r ha.1⟩
  | z :: zs, w :: ws, j + 1, h, .cons r t, ha => by
    rw [List.all_cons, Bool.and_eq_true] at ha
    obtain ⟨v, e1, e2⟩ := at_U (y := y) (j := j) (by simpa using h) t ha.2
    exact ⟨v, by simpa using e1, by simpa using e2⟩
theorem mt_count : MtM X "list.count" rCount := by
  intro pins s σ H x vs v us Q I rx rv h
  obtain ⟨l, xs, y, rfl, rfl, hH, ha, hy, q⟩ := h
  cases rx
  obtain ⟨u, rfl, ru⟩ := rv.one
  obtain ⟨z, its, n, r, hl, e⟩ := I.lstM hH
  refine call_meets F.slot_list_count ⟨_, e, rfl⟩ F.entry_list_count (F.args_list_count_2 _ _) (SeqAt.list_countAt l its.toArray n none #[] u (eqW y)) ⟨e, ?_, ?_⟩
  · intro w hw
    refine all_flat ru hy (eqW y) r ha (fun z w h1 h2 rz => eqW_of rz (List.all_eq_true.mp ha z h1)) w (by simpa using hw)
  · refine ⟨.int _, H, I.tok _, ⟨_, rfl⟩, ?_⟩
    rw [show its.toArray.toList = its from rfl, countP_U r ha]
    exact q
def rIndex : V → List V → Hp → VK → Prop := fun x vs H Q => ∃ l xs y j, x = .ref l ∧ vs = [y] ∧ H l = some (.lst xs) ∧ xs.all flatV = true ∧ flatV y = true ∧ j < xs.length ∧
  (∀ z, xs[j]? = some z → eqV z y = true) ∧ (∀ (m : Nat) z, m < j → xs[m]? = some z → eqV z y = false) ∧ Q (.int (j : Nat)) H
theorem mt_index : MtM X "list.index" rIndex := by
  intro pins s σ H x vs v us Q I rx rv h
  obtain ⟨l, xs, y, j, rfl, rfl, hH, ha, hy, hj, hit, hno, q⟩ := h
  cases rx
  obtain ⟨u, rfl, ru⟩ := rv.one
  obtain ⟨z, its, n, r, hl, e⟩ := I.lstM hH
  have hj' : j < its.length := by omega
  have small : (j : Int) < 2 ^ 63 - 1 := by have := line63; omega
  refine call_meets F.slot_list_index ⟨_, e, rfl⟩ F.entry_list_index (F.args_list_index_2 _ _) (SeqAt.list_indexAt l its.toArray n none #[] u (eqW y) j (by simpa using hj') small ?_ ?_) ⟨e, ?_, ?_⟩
  · obtain ⟨v, e1, e2⟩ := at_U (y := y) hj' r ha
    rw [show (its.toArray[j]'(by simpa using hj')) = its[j] from rfl, e2]
    exact hit v e1
  · intro m hm hmj
    have hm' : m < its.length := by simpa using hm
    obtain ⟨v, e1, e2⟩ := at_U (y := y) hm' r ha
    rw [show (its.toArray[m]'hm) = its[m] from rfl, e2]
    exact hno m v hmj e1
  · intro w hw
    exact all_flat ru hy (eqW y) r ha (fun z w h1 h2 rz => eqW_of rz (List.all_eq_true.mp ha z h1)) w (by simpa using hw)
  · exact ⟨.int (j : Nat), H, I.tok _, ⟨_, rfl⟩, q⟩

/-- a != b of two lists of flat values -/
def rNeL (K : Frag) : R2 := fun x y H Q => ∃ a b xs ys, x = .ref a ∧ y = .ref b ∧ SqL K H a xs ∧ SqL K H b ys ∧ xs.length = ys.length ∧ xs.all flatV = true ∧ ys.all flatV = true ∧ Q (.bl (!(List.range xs.length).all fun j => eqV (xs.getD j .non) (ys.getD j .non))) H
theorem op_neL (hu : X.A.units < cLine) : OpR X (compareOp .NotEq) (rNeL X.K) := by
  intro pins s σ H x y v u Q I rx ry h
  obtain ⟨a, b, xs, ys, rfl, rfl, h1, h2, hl, fx, fy, q⟩ := h
  cases rx; cases ry
  obtain ⟨i1, r1, p1, z1⟩ := I.list h1
  obtain ⟨i2, r2, p2, z2⟩ := I.list h2
  have l1 := r1.length
  have l2 := r2.length
  refine SeqAt.RcNeAt.lists (items := i1.toArray) (items2 := i2.toArray) (e := fun j => eqV (xs.getD j .non) (ys.getD j .non)) p1.isList p2.isList (by simp; omega) hu (fun j h1 h2 => ?_) X.prog X.w X.xe _ ?_
  · have g1 : j < i1.length := by simpa using h1
    have g2 : j < i2.length := by simpa using h2
    obtain ⟨w1, e1, q1⟩ := r1.get (i := j) (x := xs[j]'(by omega)) (by simp [show j < xs.length by omega])
    obtain ⟨w2, e2, q2⟩ := r2.get (i := j) (x := ys[j]'(by omega)) (by simp [show j < ys.length by omega])
    have k1 : i1[j] = w1 := by rw [List.getElem?_eq_getElem g1] at e1; exact Option.some.inj e1
    have k2 : i2[j] = w2 := by rw [List.getElem?_eq_getElem g2] at e2; exact Option.some.inj e2
    have f1 : flatV (xs[j]'(by omega)) = true := List.all_eq_true.mp fx _ (List.getElem_mem _)
    have f2 : flatV (ys[j]'(by omega)) = true := List.all_eq_true.mp fy _ (List.getElem_mem _)
    show SeqAt.EqAt _ _ i1[j] i2[j] _
    rw [k1, k2]
    have d1 : xs.getD j .non = xs[j]'(by omega) := by simp [List.getD, show j < xs.length by omega]
    have d2 : ys.getD j .non = ys[j]'(by omega) := by simp [List.getD, show j < ys.length by omega]
    rw [d1, d2]
    exact eqAt_V q1 q2 f1 f2
  · rw [show i1.toArray.size = xs.length by simp; omega]
    exact ⟨.bl _, H, I, rfl, q⟩

/-- sep.join(xs), xs a list of texts -/
def rJoin (K : Frag) : V → List V → Hp → VK → Prop := fun x vs H Q => ∃ sep a ys, x = .str sep ∧ vs = [.ref a] ∧ SqL K H a (ys.map V.str) ∧ sep.length ≤ 16 ∧ (ys.map (·.length)).sum + ys.length ≤ 1048576 ∧ Q (.str (Txt.join sep ys)) H
theorem strs_of : ∀ {ys : List Str} {us : List Value}, Vals (ys.map V.str) us → StrsAre us ys
  | [], _, .nil => .nil
  | y :: ys, _, .cons r t => by
    obtain ⟨k, rfl⟩ := (show ∃ t, _ = Value.str y t from r)
    exact .cons y k (strs_of t)
theorem mt_join : MtM X "str.join" (rJoin X.K) := by
  intro pins s σ H x vs v us Q I rx rv h
  obtain ⟨sep, a, ys, rfl, rfl, h1, h2, h3, q⟩ := h
  obtain ⟨t, rfl⟩ := (show ∃ t, v = Value.str sep t from rx)
  obtain ⟨u, rfl, ru⟩ := rv.one
  cases (show u = Value.ref a from ru)
  obtain ⟨its, r, p, z⟩ := I.list h1
  exact join_listW p.isList (by simpa using strs_of r) h2 h3 fun t' k => ⟨.str _, H, I.tok _, ⟨_, rfl⟩, q⟩
end
end L2

set_option Elab.async false
set_option linter.all false
set_option maxRecDepth 100000
set_option maxHeartbeats 4000000
namespace L2
open PySem PySem.Spec PyProof.Rows PySem.W
section
variable {X : Cx}
/-- written texts in a row -/
def txtOf : Expr → Option Str
  | .Constant (.str x) _ _ => some x
  | _ => none
def tStrs (xs : List Str) : TA := fun _ H Q => Q (xs.map V.str) H
theorem pa_strs : ∀ {es : List Expr} {xs : List Str}, es.map txtOf = xs.map some → PA X es (tStrs xs)
  | [], [], _ => pa_nil
  | [], _ :: _, h => by simp at h
  | _ :: _, [], h => by simp at h
  | e :: es, x :: xs, h => by
    rw [List.map_cons, List.map_cons, List.cons.injEq] at h
    have ih := pa_strs h.2
    cases e with
    | Constant k j pos =>
      cases k with
      | str y =>
        have e1 : y = x := Option.some.inj h.1
        subst e1
        exact pa_cons pe_str ih
      | _ => exact nomatch h.1
    | _ => exact nomatch h.1
end
end L2

set_option Elab.async false
set_option linter.all false
set_option maxRecDepth 100000
set_option maxHeartbeats 4000000
namespace K4
open PySem L2 PySem.W PyProof.Rows
def top (i : Nat) : Stmt := PySem.Challenge.pw_rimehold_k04_errors.main.body.getD i (.Pass ⟨0, 0, 0, 0⟩)
abbrev sIsTuple : Stmt := top 23
abbrev sIsHouse : Stmt := top 29
abbrev sNeedHouse : Stmt := top 36
abbrev sAreOuts : Stmt := top 37
abbrev sNeedOuts : Stmt := top 40
abbrev sColdAt : Stmt := top 42
abbrev sCell : Stmt := top 45
abbrev sPot : Stmt := top 46
abbrev sTake : Stmt := top 47
abbrev sWord : Stmt := top 48
abbrev sFirst : Stmt := top 49
abbrev sSecond : Stmt := top 50
abbrev sMet : Stmt := top 51
abbrev sLaw : Stmt := top 52

def names : List Str := ["NoHouse", "NoOuts", "NoRoom", "NoHour", "NoPages", "NoLot", "NoAsks", "NoNumber", "NoMoves", "NoEach", "NoOrder", "NoPage", "NoOut", "Twice", "Missing", "TooMany", "NoDeed"]
def words : List Str := ["house", "outs", "room", "hour", "pages", "lot", "asks", "number", "moves", "each", "order", "page", "out", "twice", "missing", "many", "deed"]
def wordOf (i : Nat) : Str := words.getD i ""

structure Txt (K : Frag) (mg : Str → Option Value) (R : Addr) (c : Nat → Addr) : Prop where
  m : ∀ i x, names[i]? = some x → mg x = some (.ref (c i))
  mR : mg "RimeError" = some (.ref R)
  len : mg "len" = none
  range : mg "range" = none
  max : mg "max" = none
  min : mg "min" = none
  inst : mg "isinstance" = none
  verr : mg "ValueError" = none
  tuple : mg "tuple" = none
  ex : ∀ i, i < 17 → excIn K (c i) vErr "ValueError.__new__" = true
  ek : ∀ i, i < 17 → ExcK K (c i)
  kt : ∀ i j, i < 17 → j < 17 → kitOne K (.ref (c i)) (.ref (c j)) = some (decide (i = j))
  kv : ∀ i, i < 17 → kitOne K (.ref (c i)) (.type "ValueError") = some true
  kr : ∀ i, i < 17 → kitCls K (.ref (c i)) (.ref R) = some true
  rb : mroIn K R (.type "BaseException") = some true
  st : kitOne K (.type "str") (.type "tuple") = some false

section
variable {P : Program} {w : World} {K : Frag} {mg : Str → Option Value} {base : Heap} {R : Addr} {c : Nat → Addr}

/-! the cell -/
def spCell (K : Frag) : Sp := fun vs H Q _ => ∃ (a : Addr) (ns : List Int) (k : Nat), vs = [.ref a, .int k] ∧ SqL K H a (ns.map V.int) ∧ ∀ v : Int, Q (.int v) H
theorem scCell : FnScope ["_law_script", "_law_k"] ["_law_script", "_law_k"] (defScope sCell) := ⟨rfl, rfl, rfl, by decide +kernel, rfl, by decide +kernel, by decide +kernel⟩
theorem ok_cell {f : Addr} {fd : FuncData} (F : Fun K "_law_cell_at" "_law_cell_at" sCell f fd) (T : Txt K mg R c) : FnOk P w K mg base CX0 1 f fd ["_law_script", "_law_k"] (spCell K) := by
  refine F.ok scCell (fun vs H Q E h => ?_) (fun cdv A outer s H vs Q E hr h => ?_)
  · obtain ⟨a, ns, k, rfl, _⟩ := h
    rfl
  · obtain ⟨a, ns, k, rfl, hS, q⟩ := h
    refine ⟨_, pss_cons (ps_if (pt_cmpR op_lt (pv 1) (pe_callB call_len_seq (by rfl) T.len PySem.boot_len (pa_cons (pv 0) pa_nil)) (nomark _))
      (pss_one (ps_ret (pe_ix ix_list (pv 0) (pv 1) (fun _ _ => rfl)))) pss_nil) (pss_one (ps_ret pe_int)), ?_⟩
    refine ⟨_, rfl, _, rfl, a, _, rfl, .inl hS, _, _, rfl, rfl, _, rfl, ?_⟩
    refine ite2 (fun hlt => ?_) fun _ => q 0
    have hk : k < ns.length := by
      have := of_decide_eq_true hlt
      rw [List.length_map] at this
      omega
    refine ⟨_, rfl, _, rfl, a, _, _, _, rfl, rfl, hS, atI_nat (v := V.int (ns[k]'hk)) (by rw [List.getElem?_map, List.getElem?_eq_getElem hk]; rfl), q _⟩

/-! the pot -/
def spPot : Sp := fun vs H Q _ => ∃ n : Int, vs = [.int n] ∧ ∀ (l : Addr) (m : Int), H l = none → Q (.ref l) (upd H l (.lst [.int m]))
theorem scPot : FnScope ["_law_cell", "_law_number", "_law_j", "_law_more"] ["_law_cell"] (defScope sPot) := ⟨rfl, rfl, rfl, by decide +kernel, rfl, by decide +kernel, by decide +kernel⟩
theorem mod_lt_2 (a b : Int) (h : 0 < b) : 0 ≤ a % b ∧ a % b < b := ⟨Int.emod_nonneg a (by omega), Int.emod_lt_of_pos a h⟩
theorem ok_pot {f : Addr} {fd : FuncData} (F : Fun K "_law_pot" "_law_pot" sPot f fd) (T : Txt K mg R c) : FnOk P w K mg base CX0 1 f fd ["_law_cell"] spPot := by
  refine F.ok scPot (fun vs H Q E h => ?_) (fun cdv A outer s H vs Q E hr h => ?_)
  · obtain ⟨n, rfl, _⟩ := h
    rfl
  · obtain ⟨n, rfl, q⟩ := h
    refine ⟨_, pss_cons (ps_if (pt_cmpR op_ge (pv 0) (pe_op op_pow pe_int pe_int) (nomark _)) (pss_one (ps_ret (pe_lst (pa_cons (pe_op op_sub (pv 0) (pe_op op_pow pe_int pe_int)) pa_nil)))) pss_nil)
      (pss_cons (ps_set (i := 1) scPot.nd rfl (Or.inl rfl) pe_int)
      (pss_cons (ps_for PassesOwn.never rfl (pi_range1 rfl T.range (pa_cons pe_int pa_nil)) (pg_name (i := 2) scPot.nd rfl (Or.inl rfl))
        (pss_cons (ps_set (i := 3) scPot.nd rfl (Or.inl rfl) (pe_op op_mod (pe_op op_mul (pe_op op_add (pe_op op_add (pe_op op_mod (pv 0) pe_int) (pe_op op_mul pe_int (pv 2))) pe_int) pe_int) pe_int))
        (pss_cons (ps_set (i := 3) scPot.nd rfl (Or.inl rfl) (pe_op op_mod (pe_op op_add (pe_op op_add (pe_op op_mul (pv 3) (pv 3)) (pe_op op_mul pe_int (pv 2))) pe_int) pe_int))
        (pss_one (ps_set (i := 1) scPot.nd rfl (Or.inl rfl) (pe_op op_add (pe_op op_mul (pv 1) pe_int) (pv 3)))))))
      (pss_one (ps_ret (pe_lst (pa_cons (pv 1) pa_nil)))))), ?_⟩
    refine ⟨_, rfl, _, _, rfl, rfl, ⟨by decide, by decide, by decide⟩, _, _, rfl, rfl, _, rfl, ?_⟩
    refine ite2 (fun _ => ?_) fun _ => ?_
    · exact ⟨_, rfl, _, _, rfl, rfl, ⟨by decide, by decide, by decide⟩, _, _, rfl, rfl, by show 1 ≤ sizeLine; decide, fun l hl => q l _ hl⟩
    · refine ⟨64, rfl, by decide, by decide, for_range (lo := 0) (n := 64) (fun i σ H' => H' = H ∧ ∃ (m : Int) (a b : Option V), σ = [some (.int n), some (.int m), a, b]) ⟨rfl, 0, none, none, rfl⟩ ?_ ?_⟩
      · rintro i σ H' hi ⟨rfl, m, a, b, rfl⟩
        have h1 := mod_lt_2 n 2147483629 (by decide)
        refine ⟨_, rfl, _, _, rfl, rfl, (by show (0 : Int) < 2147483629; decide), _, rfl, _, _, rfl, rfl, .inl ⟨by decide, by decide⟩, _, _, rfl, rfl, _, _, rfl, rfl, _, _, rfl, rfl, .inr ⟨by decide, by decide⟩, _, _, rfl, rfl, (by show (0 : Int) < 2147483647; decide), ?_⟩
        have h2 := mod_lt_2 ((n % 2147483629 + 7919 * (0 + (i : Int)) + 1) * 48271) 2147483647 (by decide)
        refine ⟨_, rfl, _, rfl, _, _, rfl, rfl, .inl ⟨Int.lt_of_lt_of_le (by decide) h2.1, Int.lt_trans h2.2 (by decide)⟩, _, rfl, _, _, rfl, rfl, .inl ⟨by decide, by decide⟩, _, _, rfl, rfl, _, _, rfl, rfl, _, _, rfl, rfl, (by show (0 : Int) < 2147483587; decide), ?_⟩
        exact ⟨_, rfl, _, _, rfl, rfl, .inr ⟨by decide, by decide⟩, _, rfl, _, _, rfl, rfl, rfl, _, _, _, rfl⟩
      · rintro σ H' ⟨rfl, m, a, b, rfl⟩
        exact ⟨_, rfl, by show 1 ≤ sizeLine; decide, fun l hl => q l _ hl⟩

/-! a draw -/
def spTake : Sp := fun vs H Q _ => ∃ (l : Addr) (n far : Int), vs = [.ref l, .int far] ∧ H l = some (.lst [.int n]) ∧ 0 < far ∧ far < 1073741824 ∧ ∀ r m : Int, 0 ≤ r → r < far → Q (.int r) (upd H l (.lst [.int m]))
theorem scTake : FnScope ["_law_pot_here", "_law_far", "_law_found"] ["_law_pot_here", "_law_far"] (defScope sTake) := ⟨rfl, rfl, rfl, by decide +kernel, rfl, by decide +kernel, by decide +kernel⟩
theorem ok_take {f : Addr} {fd : FuncData} (F : Fun K "_law_take" "_law_take" sTake f fd) (T : Txt K mg R c) : FnOk P w K mg base CX0 1 f fd ["_law_pot_here", "_law_far"] spTake := by
  refine F.ok scTake (fun vs H Q E h => ?_) (fun cdv A outer s H vs Q E hr h => ?_)
  · obtain ⟨l, n, far, rfl, _⟩ := h
    rfl
  · obtain ⟨l, n, far, rfl, hl, h1, h2, q⟩ := h
    refine ⟨_, pss_cons (ps_set (i := 2) scTake.nd rfl (Or.inl rfl) (pe_op op_mod (pe_ix ix_list (pv 0) pe_int (fun _ _ => rfl)) (pv 1)))
      (pss_cons (ps_asg (pe_op op_fdiv (pe_ix ix_list (pv 0) pe_int (fun _ _ => rfl)) (pv 1)) (pg_sub (pv 0) pe_int set_list))
      (pss_one (ps_ret (pv 2)))), ?_⟩
    refine ⟨_, rfl, l, _, _, _, rfl, rfl, SqL.of hl, atI_nat (j := 0) rfl, _, rfl, _, _, rfl, rfl, h1, ?_⟩
    refine ⟨_, rfl, l, _, _, _, rfl, rfl, SqL.of hl, atI_nat (j := 0) rfl, _, rfl, _, _, rfl, rfl, ⟨h1, h2⟩, _, rfl, l, _, _, 0, rfl, rfl, hl, rfl, ?_⟩
    exact ⟨_, rfl, q _ _ (Int.emod_nonneg _ (by omega)) (Int.emod_lt_of_pos _ h1)⟩

/-! the word of an exception -/
theorem same_upd {H : Hp} {l : Addr} {o : HO} (h : H l = none) : Same H (upd H l o) := fun b u e => by rw [upd_ne (ne_of_none e h)]; exact e
def bls (i n : Nat) : List V := (List.range n).map fun j => V.bl (decide (i = j))
theorem bls_flat (i n : Nat) : (bls i n).all flatV = true := by
  rw [List.all_eq_true]
  intro x hx
  obtain ⟨j, _, rfl⟩ := List.mem_map.mp hx
  rfl
theorem bls_count : ∀ i, i < 17 → (bls i 17).countP (fun z => eqV z (.bl true)) = 1 := by decide
theorem bls_at : ∀ i, i < 17 → (bls i 17)[i]? = some (.bl true) := by decide
theorem bls_no : ∀ i, i < 17 → ∀ m, m < i → (bls i 17)[m]? = some (.bl false) := by decide
def spWord (c : Nat → Addr) : Sp := fun vs H Q _ => ∃ (a : Addr) (i : Nat), vs = [.ref a] ∧ i < 17 ∧ H a = some (.ext (Ex1 a (c i))) ∧ ∀ H', Same H H' → Q (.str (wordOf i)) H'
theorem scWord : FnScope ["_law_e", "_law_some", "_law_words"] ["_law_e"] (defScope sWord) := ⟨rfl, rfl, rfl, by decide +kernel, rfl, by decide +kernel, by decide +kernel⟩
theorem boot_verr : bootBuiltins "ValueError" = some (.type "ValueError") := by decide +kernel
end
end K4

set_option Elab.async false
set_option linter.all false
set_option maxRecDepth 100000
set_option maxHeartbeats 4000000
namespace K4
open PySem L2 PySem.W PyProof.Rows
def stW (i : Nat) : Stmt := (defBody sWord).getD i (.Pass ⟨0, 0, 0, 0⟩)
theorem swaps_list {env : Env} {x : Str} (es : List Expr) (p pos' : Pos) (line : Nat) : swapsWith (.List es p) (some (.Name x pos')) line env = pure false := by rfl
section
variable {P : Program} {w : World} {K : Frag} {mg : Str → Option Value} {base : Heap} {R : Addr} {c : Nat → Addr} {f : Addr} {cdv : Value} {A : Around} {outer : List Env} {s : Shared} {Hx : Hp} {E : XK}
abbrev XW (P : Program) (w : World) (K : Frag) (mg : Str → Option Value) (base : Heap) (f : Addr) (cdv : Value) (A : Around) (outer : List Env) (s : Shared) (H : Hp) (E : XK) : Cx := (cxH CX0 P w K mg base ["_law_e", "_law_some", "_law_words"] "_law_word" (defScope sWord) f cdv A outer s H E).nox
theorem up_same {H0 H : Hp} {l : Addr} {o : HO} (s : Same H0 H) (h : H0 l = none) : Same H0 (upd H l o) := fun b u e => by rw [upd_ne (ne_of_none e h)]; exact s b u e
theorem w0 (T : Txt K mg R c) {i : Nat} (hi : i < 17) {a : Addr} {H0 : Hp} (ha : H0 a = some (.ext (Ex1 a (c i)))) : ∃ t, PS (XW P w K mg base f cdv A outer s Hx E) (stW 0) t ∧ ∀ D,
    (∀ l H', H0 l = none → Same H0 H' → H' l = some (.lst [.bl (decide (i = 0)), .bl (decide (i = 1)), .bl (decide (i = 2)), .bl (decide (i = 3))]) → D.nx [some (.ref a), some (.ref l), none] H') → t D [some (.ref a), none, none] H0 := by
  refine ⟨_, ps_set (i := 1) scWord.nd rfl (Or.inl rfl) (pe_lst (pa_cons (pe_callB call_inst (by rfl) T.inst boot_isinstance (pa_cons (pv 0) (pa_cons (pe_glob (v := .ref (c 0)) rfl (T.m 0 _ rfl) rfl) pa_nil))) (pa_cons (pe_callB call_inst (by rfl) T.inst boot_isinstance (pa_cons (pv 0) (pa_cons (pe_glob (v := .ref (c 1)) rfl (T.m 1 _ rfl) rfl) pa_nil))) (pa_cons (pe_callB call_inst (by rfl) T.inst boot_isinstance (pa_cons (pv 0) (pa_cons (pe_glob (v := .ref (c 2)) rfl (T.m 2 _ rfl) rfl) pa_nil))) (pa_cons (pe_callB call_inst (by rfl) T.inst boot_isinstance (pa_cons (pv 0) (pa_cons (pe_glob (v := .ref (c 3)) rfl (T.m 3 _ rfl) rfl) pa_nil))) pa_nil))))), fun D k => ?_⟩
  exact ⟨_, rfl, _, _, _, _, _, rfl, .exc ha (T.ek i hi), rfl, T.kt i 0 hi (by decide), _, rfl, _, _, _, _, _, rfl, .exc ha (T.ek i hi), rfl, T.kt i 1 hi (by decide), _, rfl, _, _, _, _, _, rfl, .exc ha (T.ek i hi), rfl, T.kt i 2 hi (by decide), _, rfl, _, _, _, _, _, rfl, .exc ha (T.ek i hi), rfl, T.kt i 3 hi (by decide), by show 4 ≤ sizeLine; decide, fun l n => k l _ n (same_upd n) upd_same⟩
theorem w1 (T : Txt K mg R c) {i : Nat} (hi : i < 17) {a : Addr} {H0 : Hp} (ha : H0 a = some (.ext (Ex1 a (c i)))) : ∃ t, PS (XW P w K mg base f cdv A outer s Hx E) (stW 1) t ∧ ∀ D H l xs, Same H0 H → H0 l = none → H l = some (.lst xs) → xs.length ≤ 100 →
    (∀ p H', H0 p = none → Same H0 H' → H' p = some (.lst (xs ++ [.bl (decide (i = 4)), .bl (decide (i = 5)), .bl (decide (i = 6)), .bl (decide (i = 7))])) → D.nx [some (.ref a), some (.ref p), none] H') → t D [some (.ref a), some (.ref l), none] H := by
  refine ⟨_, ps_set (i := 1) scWord.nd rfl (Or.inl rfl) (pe_op op_cat (pv 1) (pe_lst (pa_cons (pe_callB call_inst (by rfl) T.inst boot_isinstance (pa_cons (pv 0) (pa_cons (pe_glob (v := .ref (c 4)) rfl (T.m 4 _ rfl) rfl) pa_nil))) (pa_cons (pe_callB call_inst (by rfl) T.inst boot_isinstance (pa_cons (pv 0) (pa_cons (pe_glob (v := .ref (c 5)) rfl (T.m 5 _ rfl) rfl) pa_nil))) (pa_cons (pe_callB call_inst (by rfl) T.inst boot_isinstance (pa_cons (pv 0) (pa_cons (pe_glob (v := .ref (c 6)) rfl (T.m 6 _ rfl) rfl) pa_nil))) (pa_cons (pe_callB call_inst (by rfl) T.inst boot_isinstance (pa_cons (pv 0) (pa_cons (pe_glob (v := .ref (c 7)) rfl (T.m 7 _ rfl) rfl) pa_nil))) pa_nil)))))), fun D H l xs sm hn hl hx k => ?_⟩
  have ha' := sm _ _ ha
  refine ⟨_, rfl, _, rfl, _, _, _, _, _, rfl, .exc ha' (T.ek i hi), rfl, T.kt i 4 hi (by decide), _, rfl, _, _, _, _, _, rfl, .exc ha' (T.ek i hi), rfl, T.kt i 5 hi (by decide), _, rfl, _, _, _, _, _, rfl, .exc ha' (T.ek i hi), rfl, T.kt i 6 hi (by decide), _, rfl, _, _, _, _, _, rfl, .exc ha' (T.ek i hi), rfl, T.kt i 7 hi (by decide), by show 4 ≤ sizeLine; decide, fun l2 n2 => ?_⟩
  refine ⟨l, l2, xs, _, rfl, rfl, by rw [upd_ne (ne_of_none hl n2)]; exact hl, upd_same, small1000 (by simp; omega) |> Nat.le_of_lt, fun p np => ?_⟩
  have m2 : H0 l2 = none := sm.free n2
  have s2 := up_same (o := .lst [.bl (decide (i = 4)), .bl (decide (i = 5)), .bl (decide (i = 6)), .bl (decide (i = 7))]) sm m2
  have mp : H0 p = none := s2.free np
  exact k p _ mp (up_same s2 mp) upd_same
theorem w2 (T : Txt K mg R c) {i : Nat} (hi : i < 17) {a : Addr} {H0 : Hp} (ha : H0 a = some (.ext (Ex1 a (c i)))) : ∃ t, PS (XW P w K mg base f cdv A outer s Hx E) (stW 2) t ∧ ∀ D H l xs, Same H0 H → H0 l = none → H l = some (.lst xs) → xs.length ≤ 100 →
    (∀ p H', H0 p = none → Same H0 H' → H' p = some (.lst (xs ++ [.bl (decide (i = 8)), .bl (decide (i = 9)), .bl (decide (i = 10)), .bl (decide (i = 11))])) → D.nx [some (.ref a), some (.ref p), none] H') → t D [some (.ref a), some (.ref l), none] H := by
  refine ⟨_, ps_set (i := 1) scWord.nd rfl (Or.inl rfl) (pe_op op_cat (pv 1) (pe_lst (pa_cons (pe_callB call_inst (by rfl) T.inst boot_isinstance (pa_cons (pv 0) (pa_cons (pe_glob (v := .ref (c 8)) rfl (T.m 8 _ rfl) rfl) pa_nil))) (pa_cons (pe_callB call_inst (by rfl) T.inst boot_isinstance (pa_cons (pv 0) (pa_cons (pe_glob (v := .ref (c 9)) rfl (T.m 9 _ rfl) rfl) pa_nil))) (pa_cons (pe_callB call_inst (by rfl) T.inst boot_isinstance (pa_cons (pv 0) (pa_cons (pe_glob (v := .ref (c 10)) rfl (T.m 10 _ rfl) rfl) pa_nil))) (pa_cons (pe_callB call_inst (by rfl) T.inst boot_isinstance (pa_cons (pv 0) (pa_cons (pe_glob (v := .ref (c 11)) rfl (T.m 11 _ rfl) rfl) pa_nil))) pa_nil)))))), fun D H l xs sm hn hl hx k => ?_⟩
  have ha' := sm _ _ ha
  refine ⟨_, rfl, _, rfl, _, _, _, _, _, rfl, .exc ha' (T.ek i hi), rfl, T.kt i 8 hi (by decide), _, rfl, _, _, _, _, _, rfl, .exc ha' (T.ek i hi), rfl, T.kt i 9 hi (by decide), _, rfl, _, _, _, _, _, rfl, .exc ha' (T.ek i hi), rfl, T.kt i 10 hi (by decide), _, rfl, _, _, _, _, _, rfl, .exc ha' (T.ek i hi), rfl, T.kt i 11 hi (by decide), by show 4 ≤ sizeLine; decide, fun l2 n2 => ?_⟩
  refine ⟨l, l2, xs, _, rfl, rfl, by rw [upd_ne (ne_of_none hl n2)]; exact hl, upd_same, small1000 (by simp; omega) |> Nat.le_of_lt, fun p np => ?_⟩
  have m2 : H0 l2 = none := sm.free n2
  have s2 := up_same (o := .lst [.bl (decide (i = 8)), .bl (decide (i = 9)), .bl (decide (i = 10)), .bl (decide (i = 11))]) sm m2
  have mp : H0 p = none := s2.free np
  exact k p _ mp (up_same s2 mp) upd_same
theorem w3 (T : Txt K mg R c) {i : Nat} (hi : i < 17) {a : Addr} {H0 : Hp} (ha : H0 a = some (.ext (Ex1 a (c i)))) : ∃ t, PS (XW P w K mg base f cdv A outer s Hx E) (stW 3) t ∧ ∀ D H l xs, Same H0 H → H0 l = none → H l = some (.lst xs) → xs.length ≤ 100 →
    (∀ p H', H0 p = none → Same H0 H' → H' p = some (.lst (xs ++ [.bl (decide (i = 12)), .bl (decide (i = 13)), .bl (decide (i = 14)), .bl (decide (i = 15))])) → D.nx [some (.ref a), some (.ref p), none] H') → t D [some (.ref a), some (.ref l), none] H := by
  refine ⟨_, ps_set (i := 1) scWord.nd rfl (Or.inl rfl) (pe_op op_cat (pv 1) (pe_lst (pa_cons (pe_callB call_inst (by rfl) T.inst boot_isinstance (pa_cons (pv 0) (pa_cons (pe_glob (v := .ref (c 12)) rfl (T.m 12 _ rfl) rfl) pa_nil))) (pa_cons (pe_callB call_inst (by rfl) T.inst boot_isinstance (pa_cons (pv 0) (pa_cons (pe_glob (v := .ref (c 13)) rfl (T.m 13 _ rfl) rfl) pa_nil))) (pa_cons (pe_callB call_inst (by rfl) T.inst boot_isinstance (pa_cons (pv 0) (pa_cons (pe_glob (v := .ref (c 14)) rfl (T.m 14 _ rfl) rfl) pa_nil))) (pa_cons (pe_callB call_inst (by rfl) T.inst boot_isinstance (pa_cons (pv 0) (pa_cons (pe_glob (v := .ref (c 15)) rfl (T.m 15 _ rfl) rfl) pa_nil))) pa_nil)))))), fun D H l xs sm hn hl hx k => ?_⟩
  have ha' := sm _ _ ha
  refine ⟨_, rfl, _, rfl, _, _, _, _, _, rfl, .exc ha' (T.ek i hi), rfl, T.kt i 12 hi (by decide), _, rfl, _, _, _, _, _, rfl, .exc ha' (T.ek i hi), rfl, T.kt i 13 hi (by decide), _, rfl, _, _, _, _, _, rfl, .exc ha' (T.ek i hi), rfl, T.kt i 14 hi (by decide), _, rfl, _, _, _, _, _, rfl, .exc ha' (T.ek i hi), rfl, T.kt i 15 hi (by decide), by show 4 ≤ sizeLine; decide, fun l2 n2 => ?_⟩
  refine ⟨l, l2, xs, _, rfl, rfl, by rw [upd_ne (ne_of_none hl n2)]; exact hl, upd_same, small1000 (by simp; omega) |> Nat.le_of_lt, fun p np => ?_⟩
  have m2 : H0 l2 = none := sm.free n2
  have s2 := up_same (o := .lst [.bl (decide (i = 12)), .bl (decide (i = 13)), .bl (decide (i = 14)), .bl (decide (i = 15))]) sm m2
  have mp : H0 p = none := s2.free np
  exact k p _ mp (up_same s2 mp) upd_same
theorem w4 (T : Txt K mg R c) {i : Nat} (hi : i < 17) {a : Addr} {H0 : Hp} (ha : H0 a = some (.ext (Ex1 a (c i)))) : ∃ t, PS (XW P w K mg base f cdv A outer s Hx E) (stW 4) t ∧ ∀ D H l xs, Same H0 H → H0 l = none → H l = some (.lst xs) → xs.length ≤ 100 →
    (∀ H', Same H0 H' → H' l = some (.lst (xs ++ [.bl (decide (i = 16))])) → D.nx [some (.ref a), some (.ref l), none] H') → t D [some (.ref a), some (.ref l), none] H := by
  refine ⟨_, ps_expr (pe_bm PySem.F.plainAttrs_list PySem.F.slot_list_append PySem.F.type_list_append mt_append (pv 1) (pa_cons (pe_callB call_inst (by rfl) T.inst boot_isinstance (pa_cons (pv 0) (pa_cons (pe_glob (v := .ref (c 16)) rfl (T.m 16 _ rfl) rfl) pa_nil))) pa_nil)), fun D H l xs sm hn hl hx k => ?_⟩
  exact ⟨_, rfl, .inl ⟨rfl, _, SqL.of hl⟩, _, rfl, _, _, _, _, _, rfl, .exc (sm _ _ ha) (T.ek i hi), rfl, T.kt i 16 hi (by decide), l, xs, _, rfl, rfl, hl, small1000 (by omega), k _ (up_same sm hn) upd_same⟩
theorem w5 (T : Txt K mg R c) {i : Nat} (hi : i < 17) {a : Addr} {H0 : Hp} (ha : H0 a = some (.ext (Ex1 a (c i)))) : ∃ t, PS (XW P w K mg base f cdv A outer s Hx E) (stW 5) t ∧ ∀ D H l, Same H0 H → H l = some (.lst (bls i 17)) →
    D.nx [some (.ref a), some (.ref l), none] H → t D [some (.ref a), some (.ref l), none] H := by
  refine ⟨_, (ps_if (PW.pt (pw_or (pt_cmpR op_ne (pe_bm PySem.F.plainAttrs_list PySem.F.slot_list_count PySem.F.type_list_count mt_count (pv 1) (pa_cons pe_bl pa_nil)) pe_int (nomark _)) (pw_or1 (pt_not (pt_val (pe_callB call_inst (by rfl) T.inst boot_isinstance (pa_cons (pv 0) (pa_cons (pe_bltn (v := .ty "ValueError") rfl T.verr boot_verr rfl) pa_nil)))))))) (pss_one (ps_ret pe_str)) pss_nil), fun D H l sm hl k => ?_⟩
  refine ⟨_, rfl, .inl ⟨rfl, _, SqL.of hl⟩, l, _, _, rfl, rfl, hl, bls_flat i 17, rfl, rfl, _, rfl, ?_⟩
  rw [bls_count i hi]
  refine iteF ?_
  exact ⟨_, rfl, _, _, _, _, _, rfl, .exc (sm _ _ ha) (T.ek i hi), rfl, T.kv i hi, _, rfl, iteF k⟩
theorem w6 (T : Txt K mg R c) {a : Addr} {H0 : Hp} : ∃ t, PS (XW P w K mg base f cdv A outer s Hx E) (stW 6) t ∧ ∀ D H l, Same H0 H →
    (∀ l2 H', H l2 = none → H' = upd H l2 (.lst ((words.take 12).map V.str)) → D.nx [some (.ref a), some (.ref l), some (.ref l2)] H') → t D [some (.ref a), some (.ref l), none] H := by
  have e : ∃ p es q r, stW 6 = .Assign [.Name "_law_words" p] (.List es q) r ∧ es.map txtOf = (words.take 12).map some := ⟨_, _, _, _, rfl, rfl⟩
  obtain ⟨p, es, q, r, h, he⟩ := e
  rw [h]
  refine ⟨_, ps_set (i := 2) (x := "_law_words") scWord.nd rfl (Or.inl rfl) (pe_lst (pa_strs he)) (swaps_list _ _ _ _), fun D H l sm k => ?_⟩
  exact ⟨by decide, fun l2 n2 => k l2 _ n2 rfl⟩
theorem w7 (T : Txt K mg R c) {i : Nat} (hi : i < 17) {a : Addr} {H0 : Hp} : ∃ t, PS (XW P w K mg base f cdv A outer s Hx E) (stW 7) t ∧ ∀ D H l l2, Same H0 H → H l = some (.lst (bls i 17)) → H l2 = some (.lst ((words.take 12).map V.str)) →
    (∀ H', Same H0 H' → D.rt (.str (wordOf i)) H') → t D [some (.ref a), some (.ref l), some (.ref l2)] H := by
  refine ⟨_, (ps_ret (pe_ix ix_list (pe_op op_cat (pv 2) (pe_lst (pa_strs (xs := words.drop 12) rfl))) (pe_bm PySem.F.plainAttrs_list PySem.F.slot_list_index PySem.F.type_list_index mt_index (pv 1) (pa_cons pe_bl pa_nil)) (fun _ _ => rfl))), fun D H l l2 sm hl h2 k => ?_⟩
  refine ⟨_, rfl, by decide, fun l3 n3 => ?_⟩
  refine ⟨l2, l3, _, _, rfl, rfl, by rw [upd_ne (ne_of_none h2 n3)]; exact h2, upd_same, by decide, fun p np => ?_⟩
  have m3 : H0 l3 = none := sm.free n3
  have s3 := up_same (o := .lst ((words.drop 12).map V.str)) sm m3
  have mp : H0 p = none := s3.free np
  have lp : l ≠ p := by
    intro z
    rw [← z, upd_ne (ne_of_none hl n3), hl] at np
    cases np
  have hl' : (upd (upd H l3 (.lst ((words.drop 12).map V.str))) p (.lst ((words.take 12).map V.str ++ (words.drop 12).map V.str))) l = some (.lst (bls i 17)) := by rw [upd_ne lp, upd_ne (ne_of_none hl n3)]; exact hl
  refine ⟨_, rfl, .inl ⟨rfl, _, SqL.of hl'⟩, l, _, _, i, rfl, rfl, hl', bls_flat i 17, rfl, ?_, ?_, ?_, p, _, _, _, rfl, rfl, SqL.of upd_same, atI_nat (j := i) (v := .str (wordOf i)) ?_, k _ (up_same s3 mp)⟩
  · exact hi
  · intro z e; rw [bls_at i hi] at e; cases e; rfl
  · intro m z hm e; rw [bls_no i hi m hm] at e; cases e; rfl
  · have : ∀ i, i < 17 → ((words.take 12).map V.str ++ (words.drop 12).map V.str)[i]? = some (.str (wordOf i)) := by decide
    exact this i hi
theorem bodyW : defBody sWord = [stW 0, stW 1, stW 2, stW 3, stW 4, stW 5, stW 6, stW 7] := rfl
end
end K4

set_option Elab.async false
set_option linter.all false
set_option maxRecDepth 100000
set_option maxHeartbeats 4000000
namespace K4
open PySem L2 PySem.W PyProof.Rows
section
variable {P : Program} {w : World} {K : Frag} {mg : Str → Option Value} {base : Heap} {R : Addr} {c : Nat → Addr} {f : Addr}
theorem bls17 (i : Nat) : (([.bl (decide (i = 0)), .bl (decide (i = 1)), .bl (decide (i = 2)), .bl (decide (i = 3))] ++ [.bl (decide (i = 4)), .bl (decide (i = 5)), .bl (decide (i = 6)), .bl (decide (i = 7))] ++ [.bl (decide (i = 8)), .bl (decide (i = 9)), .bl (decide (i = 10)), .bl (decide (i = 11))] ++ [.bl (decide (i = 12)), .bl (decide (i = 13)), .bl (decide (i = 14)), .bl (decide (i = 15))] ++ [.bl (decide (i = 16))] : List V)) = bls i 17 := rfl
theorem ok_word {fd : FuncData} (F : Fun K "_law_word" "_law_word" sWord f fd) (T : Txt K mg R c) : FnOkH P w K mg base CX0 1 f fd ["_law_e"] (spWord c) := by
  refine F.okH scWord (fun vs H Q E h => ?_) (fun cdv A outer s H vs Q E hr h => ?_)
  · obtain ⟨a, i, rfl, _⟩ := h
    rfl
  · obtain ⟨a, i, rfl, hi, ha, q⟩ := h
    rw [bodyW]
    obtain ⟨t0, p0, r0⟩ := w0 (P := P) (w := w) (K := K) (mg := mg) (base := base) (f := f) (cdv := cdv) (A := A) (outer := outer) (s := s) (Hx := H) (E := E) T hi ha
    obtain ⟨t1, p1, r1⟩ := w1 (P := P) (w := w) (K := K) (mg := mg) (base := base) (f := f) (cdv := cdv) (A := A) (outer := outer) (s := s) (Hx := H) (E := E) T hi ha
    obtain ⟨t2, p2, r2⟩ := w2 (P := P) (w := w) (K := K) (mg := mg) (base := base) (f := f) (cdv := cdv) (A := A) (outer := outer) (s := s) (Hx := H) (E := E) T hi ha
    obtain ⟨t3, p3, r3⟩ := w3 (P := P) (w := w) (K := K) (mg := mg) (base := base) (f := f) (cdv := cdv) (A := A) (outer := outer) (s := s) (Hx := H) (E := E) T hi ha
    obtain ⟨t4, p4, r4⟩ := w4 (P := P) (w := w) (K := K) (mg := mg) (base := base) (f := f) (cdv := cdv) (A := A) (outer := outer) (s := s) (Hx := H) (E := E) T hi ha
    obtain ⟨t5, p5, r5⟩ := w5 (P := P) (w := w) (K := K) (mg := mg) (base := base) (f := f) (cdv := cdv) (A := A) (outer := outer) (s := s) (Hx := H) (E := E) T hi ha
    obtain ⟨t6, p6, r6⟩ := w6 (P := P) (w := w) (K := K) (mg := mg) (base := base) (f := f) (cdv := cdv) (A := A) (outer := outer) (s := s) (Hx := H) (E := E) (a := a) (H0 := H) T
    obtain ⟨t7, p7, r7⟩ := w7 (P := P) (w := w) (K := K) (mg := mg) (base := base) (f := f) (cdv := cdv) (A := A) (outer := outer) (s := s) (Hx := H) (E := E) (a := a) (H0 := H) T hi
    generalize stW 0 = x0 at p0 ⊢
    generalize stW 1 = x1 at p1 ⊢
    generalize stW 2 = x2 at p2 ⊢
    generalize stW 3 = x3 at p3 ⊢
    generalize stW 4 = x4 at p4 ⊢
    generalize stW 5 = x5 at p5 ⊢
    generalize stW 6 = x6 at p6 ⊢
    generalize stW 7 = x7 at p7 ⊢
    refine ⟨_, pss_cons p0 (pss_cons p1 (pss_cons p2 (pss_cons p3 (pss_cons p4 (pss_cons p5 (pss_cons p6 (pss_one p7))))))), ?_⟩
    refine r0 _ fun l1 H1 n1 s1 e1 => ?_
    refine r1 _ _ _ _ s1 n1 e1 (by simp) fun l2 H2 n2 s2 e2 => ?_
    refine r2 _ _ _ _ s2 n2 e2 (by simp) fun l3 H3 n3 s3 e3 => ?_
    refine r3 _ _ _ _ s3 n3 e3 (by simp) fun l4 H4 n4 s4 e4 => ?_
    refine r4 _ _ _ _ s4 n4 e4 (by simp) fun H5 s5 e5 => ?_
    have e5' : H5 l4 = some (.lst (bls i 17)) := by rw [← bls17 i]; exact e5
    refine r5 _ _ _ s5 e5' ?_
    refine r6 _ _ _ s5 fun l6 H6 n6 e6 => ?_
    subst e6
    have m6 : H l6 = none := s5.free n6
    refine r7 _ _ _ _ (up_same s5 m6) (by rw [upd_ne (ne_of_none e5' n6)]; exact e5') upd_same fun H7 s7 => q H7 s7
end
end K4

set_option Elab.async false
set_option linter.all false
set_option maxRecDepth 100000
set_option maxHeartbeats 4000000
namespace K4
open PySem L2 PySem.W PyProof.Rows
section
variable {P : Program} {w : World} {K : Frag} {mg : Str → Option Value} {base : Heap} {R : Addr} {c : Nat → Addr} {fW : Addr} {fdW : FuncData}

def spFirst : Sp := fun vs H Q _ => ∃ (n : Nat) (x : Str), vs = [.int n, .str x] ∧ n < 9 ∧ ∀ H', Same H H' → Q (.str (wordOf (0 + n))) H'
theorem scFirst : FnScope ["_law_way", "_law_text", "_law_e"] ["_law_way", "_law_text"] (defScope sFirst) := ⟨rfl, rfl, rfl, by decide +kernel, rfl, by decide +kernel, by decide +kernel⟩
theorem ok_first {f : Addr} {fd : FuncData} (F : Fun K "_law_first" "_law_first" sFirst f fd) (T : Txt K mg R c) (W : FnOkH P w K mg base CX0 1 fW fdW ["_law_e"] (spWord c)) (mW : mg "_law_word" = some (.ref fW)) (kW : keepIn K (.ref fW) = true) (bW : Binds K fdW ["_law_e"] []) :
    FnOk P w K mg base CX0 2 f fd ["_law_way", "_law_text"] spFirst := by
  refine F.ok scFirst (fun vs H Q E h => ?_) (fun cdv A outer s H vs Q E hr h => ?_)
  · obtain ⟨n, x, rfl, _⟩ := h
    rfl
  · obtain ⟨n, x, rfl, hn, q⟩ := h
    have hw : RoomH 1 (A.deeper (envOfC "_law_first" (defScope sFirst) s.heap.objs.size f cdv)) := hr.h
    refine ⟨_, pss_one (ps_try (i := 2) (E := fun Cv _ H' => ∃ i, i = 0 + n ∧ Cv = .ref (c i) ∧ H' = H) rfl rfl rfl rfl T.mR T.rb scFirst.nd rfl rfl
      (fun pn => (pss_cons (ps_if (pt_cmpR op_eq (pv 0) pe_int (nomark _)) (pss_one (ps_raise rfl lands_tri rfl (T.m 0 _ rfl) (T.ex 0 (by decide)) (pv 1))) pss_nil) (pss_cons (ps_if (pt_cmpR op_eq (pv 0) pe_int (nomark _)) (pss_one (ps_raise rfl lands_tri rfl (T.m 1 _ rfl) (T.ex 1 (by decide)) (pv 1))) pss_nil) (pss_cons (ps_if (pt_cmpR op_eq (pv 0) pe_int (nomark _)) (pss_one (ps_raise rfl lands_tri rfl (T.m 2 _ rfl) (T.ex 2 (by decide)) (pv 1))) pss_nil) (pss_cons (ps_if (pt_cmpR op_eq (pv 0) pe_int (nomark _)) (pss_one (ps_raise rfl lands_tri rfl (T.m 3 _ rfl) (T.ex 3 (by decide)) (pv 1))) pss_nil) (pss_cons (ps_if (pt_cmpR op_eq (pv 0) pe_int (nomark _)) (pss_one (ps_raise rfl lands_tri rfl (T.m 4 _ rfl) (T.ex 4 (by decide)) (pv 1))) pss_nil) (pss_cons (ps_if (pt_cmpR op_eq (pv 0) pe_int (nomark _)) (pss_one (ps_raise rfl lands_tri rfl (T.m 5 _ rfl) (T.ex 5 (by decide)) (pv 1))) pss_nil) (pss_cons (ps_if (pt_cmpR op_eq (pv 0) pe_int (nomark _)) (pss_one (ps_raise rfl lands_tri rfl (T.m 6 _ rfl) (T.ex 6 (by decide)) (pv 1))) pss_nil) (pss_cons (ps_if (pt_cmpR op_eq (pv 0) pe_int (nomark _)) (pss_one (ps_raise rfl lands_tri rfl (T.m 7 _ rfl) (T.ex 7 (by decide)) (pv 1))) pss_nil) (pss_one (ps_raise rfl lands_tri rfl (T.m 8 _ rfl) (T.ex 8 (by decide)) (pv 1))))))))))))
      (fun pn ea => pss_one (ps_ret (pe_callH W hw.mark rfl mW kW bW .nil pass0 (pa_cons (pv 2) pa_nil))))), ?_, ?_⟩
    · refine ⟨_, rfl, rfl, _, rfl, ite2 (fun hc => ⟨_, rfl, rfl, 0, by simp at hc; omega, rfl, rfl⟩) (fun hc => ?_)⟩
      have g0 : n ≠ 0 := fun z => hc (by rw [z]; rfl)
      refine ⟨_, rfl, rfl, _, rfl, ite2 (fun hc => ⟨_, rfl, rfl, 1, by simp at hc; omega, rfl, rfl⟩) (fun hc => ?_)⟩
      have g1 : n ≠ 1 := fun z => hc (by rw [z]; rfl)
      refine ⟨_, rfl, rfl, _, rfl, ite2 (fun hc => ⟨_, rfl, rfl, 2, by simp at hc; omega, rfl, rfl⟩) (fun hc => ?_)⟩
      have g2 : n ≠ 2 := fun z => hc (by rw [z]; rfl)
      refine ⟨_, rfl, rfl, _, rfl, ite2 (fun hc => ⟨_, rfl, rfl, 3, by simp at hc; omega, rfl, rfl⟩) (fun hc => ?_)⟩
      have g3 : n ≠ 3 := fun z => hc (by rw [z]; rfl)
      refine ⟨_, rfl, rfl, _, rfl, ite2 (fun hc => ⟨_, rfl, rfl, 4, by simp at hc; omega, rfl, rfl⟩) (fun hc => ?_)⟩
      have g4 : n ≠ 4 := fun z => hc (by rw [z]; rfl)
      refine ⟨_, rfl, rfl, _, rfl, ite2 (fun hc => ⟨_, rfl, rfl, 5, by simp at hc; omega, rfl, rfl⟩) (fun hc => ?_)⟩
      have g5 : n ≠ 5 := fun z => hc (by rw [z]; rfl)
      refine ⟨_, rfl, rfl, _, rfl, ite2 (fun hc => ⟨_, rfl, rfl, 6, by simp at hc; omega, rfl, rfl⟩) (fun hc => ?_)⟩
      have g6 : n ≠ 6 := fun z => hc (by rw [z]; rfl)
      refine ⟨_, rfl, rfl, _, rfl, ite2 (fun hc => ⟨_, rfl, rfl, 7, by simp at hc; omega, rfl, rfl⟩) (fun hc => ?_)⟩
      have g7 : n ≠ 7 := fun z => hc (by rw [z]; rfl)
      exact ⟨_, rfl, rfl, 8, by omega, rfl, rfl⟩
    · rintro σ' ea C H' hl ⟨i, hi, e1, rfl⟩ hea
      have e2 : C = c i := Value.ref.inj e1
      subst e2
      have hi' : i < 17 := by omega
      refine ⟨T.kr i hi', _, List.getElem?_set_self (by rw [hl]; show 2 < 3; decide), ea, i, rfl, hi', upd_same, fun H2 s2 => ?_⟩
      rw [hi]
      exact q H2 fun b o e => s2 b o (by rw [upd_ne (ne_of_none e hea)]; exact e)
end
end K4

set_option Elab.async false
set_option linter.all false
set_option maxRecDepth 100000
set_option maxHeartbeats 4000000
namespace K4
open PySem L2 PySem.W PyProof.Rows
section
variable {P : Program} {w : World} {K : Frag} {mg : Str → Option Value} {base : Heap} {R : Addr} {c : Nat → Addr} {fW : Addr} {fdW : FuncData}

def spSecond : Sp := fun vs H Q _ => ∃ (n : Nat) (x : Str), vs = [.int n, .str x] ∧ n < 8 ∧ ∀ H', Same H H' → Q (.str (wordOf (9 + n))) H'
theorem scSecond : FnScope ["_law_way", "_law_text", "_law_e"] ["_law_way", "_law_text"] (defScope sSecond) := ⟨rfl, rfl, rfl, by decide +kernel, rfl, by decide +kernel, by decide +kernel⟩
theorem ok_second {f : Addr} {fd : FuncData} (F : Fun K "_law_second" "_law_second" sSecond f fd) (T : Txt K mg R c) (W : FnOkH P w K mg base CX0 1 fW fdW ["_law_e"] (spWord c)) (mW : mg "_law_word" = some (.ref fW)) (kW : keepIn K (.ref fW) = true) (bW : Binds K fdW ["_law_e"] []) :
    FnOk P w K mg base CX0 2 f fd ["_law_way", "_law_text"] spSecond := by
  refine F.ok scSecond (fun vs H Q E h => ?_) (fun cdv A outer s H vs Q E hr h => ?_)
  · obtain ⟨n, x, rfl, _⟩ := h
    rfl
  · obtain ⟨n, x, rfl, hn, q⟩ := h
    have hw : RoomH 1 (A.deeper (envOfC "_law_second" (defScope sSecond) s.heap.objs.size f cdv)) := hr.h
    refine ⟨_, pss_one (ps_try (i := 2) (E := fun Cv _ H' => ∃ i, i = 9 + n ∧ Cv = .ref (c i) ∧ H' = H) rfl rfl rfl rfl T.mR T.rb scSecond.nd rfl rfl
      (fun pn => (pss_cons (ps_if (pt_cmpR op_eq (pv 0) pe_int (nomark _)) (pss_one (ps_raise rfl lands_tri rfl (T.m 9 _ rfl) (T.ex 9 (by decide)) (pv 1))) pss_nil) (pss_cons (ps_if (pt_cmpR op_eq (pv 0) pe_int (nomark _)) (pss_one (ps_raise rfl lands_tri rfl (T.m 10 _ rfl) (T.ex 10 (by decide)) (pv 1))) pss_nil) (pss_cons (ps_if (pt_cmpR op_eq (pv 0) pe_int (nomark _)) (pss_one (ps_raise rfl lands_tri rfl (T.m 11 _ rfl) (T.ex 11 (by decide)) (pv 1))) pss_nil) (pss_cons (ps_if (pt_cmpR op_eq (pv 0) pe_int (nomark _)) (pss_one (ps_raise rfl lands_tri rfl (T.m 12 _ rfl) (T.ex 12 (by decide)) (pv 1))) pss_nil) (pss_cons (ps_if (pt_cmpR op_eq (pv 0) pe_int (nomark _)) (pss_one (ps_raise rfl lands_tri rfl (T.m 13 _ rfl) (T.ex 13 (by decide)) (pv 1))) pss_nil) (pss_cons (ps_if (pt_cmpR op_eq (pv 0) pe_int (nomark _)) (pss_one (ps_raise rfl lands_tri rfl (T.m 14 _ rfl) (T.ex 14 (by decide)) (pv 1))) pss_nil) (pss_cons (ps_if (pt_cmpR op_eq (pv 0) pe_int (nomark _)) (pss_one (ps_raise rfl lands_tri rfl (T.m 15 _ rfl) (T.ex 15 (by decide)) (pv 1))) pss_nil) (pss_one (ps_raise rfl lands_tri rfl (T.m 16 _ rfl) (T.ex 16 (by decide)) (pv 1)))))))))))
      (fun pn ea => pss_one (ps_ret (pe_callH W hw.mark rfl mW kW bW .nil pass0 (pa_cons (pv 2) pa_nil))))), ?_, ?_⟩
    · refine ⟨_, rfl, rfl, _, rfl, ite2 (fun hc => ⟨_, rfl, rfl, 9, by simp at hc; omega, rfl, rfl⟩) (fun hc => ?_)⟩
      have g0 : n ≠ 0 := fun z => hc (by rw [z]; rfl)
      refine ⟨_, rfl, rfl, _, rfl, ite2 (fun hc => ⟨_, rfl, rfl, 10, by simp at hc; omega, rfl, rfl⟩) (fun hc => ?_)⟩
      have g1 : n ≠ 1 := fun z => hc (by rw [z]; rfl)
      refine ⟨_, rfl, rfl, _, rfl, ite2 (fun hc => ⟨_, rfl, rfl, 11, by simp at hc; omega, rfl, rfl⟩) (fun hc => ?_)⟩
      have g2 : n ≠ 2 := fun z => hc (by rw [z]; rfl)
      refine ⟨_, rfl, rfl, _, rfl, ite2 (fun hc => ⟨_, rfl, rfl, 12, by simp at hc; omega, rfl, rfl⟩) (fun hc => ?_)⟩
      have g3 : n ≠ 3 := fun z => hc (by rw [z]; rfl)
      refine ⟨_, rfl, rfl, _, rfl, ite2 (fun hc => ⟨_, rfl, rfl, 13, by simp at hc; omega, rfl, rfl⟩) (fun hc => ?_)⟩
      have g4 : n ≠ 4 := fun z => hc (by rw [z]; rfl)
      refine ⟨_, rfl, rfl, _, rfl, ite2 (fun hc => ⟨_, rfl, rfl, 14, by simp at hc; omega, rfl, rfl⟩) (fun hc => ?_)⟩
      have g5 : n ≠ 5 := fun z => hc (by rw [z]; rfl)
      refine ⟨_, rfl, rfl, _, rfl, ite2 (fun hc => ⟨_, rfl, rfl, 15, by simp at hc; omega, rfl, rfl⟩) (fun hc => ?_)⟩
      have g6 : n ≠ 6 := fun z => hc (by rw [z]; rfl)
      exact ⟨_, rfl, rfl, 16, by omega, rfl, rfl⟩
    · rintro σ' ea C H' hl ⟨i, hi, e1, rfl⟩ hea
      have e2 : C = c i := Value.ref.inj e1
      subst e2
      have hi' : i < 17 := by omega
      refine ⟨T.kr i hi', _, List.getElem?_set_self (by rw [hl]; show 2 < 3; decide), ea, i, rfl, hi', upd_same, fun H2 s2 => ?_⟩
      rw [hi]
      exact q H2 fun b o e => s2 b o (by rw [upd_ne (ne_of_none e hea)]; exact e)
end
end K4

set_option Elab.async false
set_option linter.all false
set_option maxRecDepth 100000
set_option maxHeartbeats 4000000
namespace K4
open PySem L2 PySem.W PyProof.Rows
section
variable {P : Program} {w : World} {K : Frag} {mg : Str → Option Value} {base : Heap} {R : Addr} {c : Nat → Addr}
theorem boot_tup : bootBuiltins "tuple" = some (.type "tuple") := by decide +kernel
def spIsTuple : Sp := fun vs H Q _ => ∃ (x : Str) (a b : V), vs = [.str x, a, b] ∧ Q (.bl false) H
theorem scIsTuple : FnScope ["thing", "fewest", "most"] ["thing", "fewest", "most"] (defScope sIsTuple) := ⟨rfl, rfl, rfl, by decide +kernel, rfl, by decide +kernel, by decide +kernel⟩
theorem ok_isTuple {f : Addr} {fd : FuncData} (F : Fun K "is_tuple" "is_tuple" sIsTuple f fd) (T : Txt K mg R c) : FnOk P w K mg base CX0 1 f fd ["thing", "fewest", "most"] spIsTuple := by
  refine F.ok scIsTuple (fun vs H Q E h => ?_) (fun cdv A outer s H vs Q E hr h => ?_)
  · obtain ⟨x, a, b, rfl, _⟩ := h
    rfl
  · obtain ⟨x, a, b, rfl, q⟩ := h
    refine ⟨_, pss_one (ps_ret (pe_and (pe_callB call_inst (by rfl) T.inst boot_isinstance (pa_cons (pv 0) (pa_cons (pe_bltn (v := .ty "tuple") rfl T.tuple boot_tup rfl) pa_nil))) pe_no)), ?_⟩
    exact ⟨_, rfl, _, _, _, _, _, rfl, .of (.str x), rfl, T.st, _, rfl, iteF q⟩
def spIsHouse : Sp := fun vs H Q _ => ∃ (x : Str), vs = [.str x] ∧ Q (.bl false) H
theorem scIsHouse : FnScope ["thing", "rooms", "kinds", "apart", "hold"] ["thing"] (defScope sIsHouse) := ⟨rfl, rfl, rfl, by decide +kernel, rfl, by decide +kernel, by decide +kernel⟩
theorem ok_isHouse {f fT : Addr} {fd fdT : FuncData} (F : Fun K "is_house" "is_house" sIsHouse f fd) (T : Txt K mg R c) (G : FnOk P w K mg base CX0 1 fT fdT ["thing", "fewest", "most"] spIsTuple) (mT : mg "is_tuple" = some (.ref fT)) (kT : keepIn K (.ref fT) = true) (bT : Binds K fdT ["thing", "fewest", "most"] []) :
    FnOk P w K mg base CX0 2 f fd ["thing"] spIsHouse := by
  refine F.ok scIsHouse (fun vs H Q E h => ?_) (fun cdv A outer s H vs Q E hr h => ?_)
  · obtain ⟨x, rfl, _⟩ := h
    rfl
  · obtain ⟨x, rfl, q⟩ := h
    refine ⟨_, pss_cons (ps_if (pt_not (pt_val (pe_call G hr rfl mT kT bT .nil pass0 (pa_cons (pv 0) (pa_cons pe_int (pa_cons pe_int pa_nil)))))) (pss_one (ps_ret pe_bl)) pss_nil) pss_never, ?_⟩
    exact ⟨_, rfl, x, _, _, rfl, _, rfl, iteT q⟩
/-- a text is handed in for a house: NoHouse -/
def spNo (n : Nat) (c : Nat → Addr) : Sp := fun vs H _ E => ∃ (x : Str), vs = List.replicate n (.str x) ∧ E (.ref (c 0)) none H
theorem scNeedHouse : FnScope ["thing"] ["thing"] (defScope sNeedHouse) := ⟨rfl, rfl, rfl, by decide +kernel, rfl, by decide +kernel, by decide +kernel⟩
theorem ok_needHouse {f fT : Addr} {fd fdT : FuncData} (F : Fun K "need_house" "need_house" sNeedHouse f fd) (T : Txt K mg R c) (G : FnOk P w K mg base CX0 2 fT fdT ["thing"] spIsHouse) (mT : mg "is_house" = some (.ref fT)) (kT : keepIn K (.ref fT) = true) (bT : Binds K fdT ["thing"] []) :
    FnOk P w K mg base (CXr P w) 3 f fd ["thing"] (spNo 1 c) := by
  refine F.okX scNeedHouse (fun vs H Q E h => ?_) (fun cdv A outer s H vs Q E hr h => ?_)
  · obtain ⟨x, rfl, _⟩ := h
    rfl
  · obtain ⟨x, rfl, q⟩ := h
    refine ⟨_, pss_one (ps_if (pt_not (pt_val (pe_call G hr rfl mT kT bT .nil pass0 (pa_cons (pv 0) pa_nil)))) (pss_one (ps_raise rfl lands_fn rfl (T.m 0 _ rfl) (T.ex 0 (by decide)) pe_str)) pss_nil), ?_⟩
    exact ⟨_, rfl, x, rfl, _, rfl, iteT ⟨rfl, q⟩⟩
theorem scAreOuts : FnScope ["house", "thing"] ["house", "thing"] (defScope sAreOuts) := ⟨rfl, rfl, rfl, by decide +kernel, rfl, by decide +kernel, by decide +kernel⟩
theorem ok_areOuts {f fT : Addr} {fd fdT : FuncData} (F : Fun K "are_outs" "are_outs" sAreOuts f fd) (T : Txt K mg R c) (G : FnOk P w K mg base (CXr P w) 3 fT fdT ["thing"] (spNo 1 c)) (mT : mg "need_house" = some (.ref fT)) (kT : keepIn K (.ref fT) = true) (bT : Binds K fdT ["thing"] []) :
    FnOk P w K mg base (CXr P w) 4 f fd ["house", "thing"] (spNo 2 c) := by
  refine F.okX scAreOuts (fun vs H Q E h => ?_) (fun cdv A outer s H vs Q E hr h => ?_)
  · obtain ⟨x, rfl, _⟩ := h
    rfl
  · obtain ⟨x, rfl, q⟩ := h
    refine ⟨_, pss_cons (ps_expr (pe_call G hr rfl mT kT bT .nil lands_fn.passes (pa_cons (pv 0) pa_nil))) pss_never, ?_⟩
    exact ⟨_, rfl, x, rfl, q⟩
theorem scNeedOuts : FnScope ["house", "thing"] ["house", "thing"] (defScope sNeedOuts) := ⟨rfl, rfl, rfl, by decide +kernel, rfl, by decide +kernel, by decide +kernel⟩
theorem ok_needOuts {f fT : Addr} {fd fdT : FuncData} (F : Fun K "need_outs" "need_outs" sNeedOuts f fd) (T : Txt K mg R c) (G : FnOk P w K mg base (CXr P w) 4 fT fdT ["house", "thing"] (spNo 2 c)) (mT : mg "are_outs" = some (.ref fT)) (kT : keepIn K (.ref fT) = true) (bT : Binds K fdT ["house", "thing"] []) :
    FnOk P w K mg base (CXr P w) 5 f fd ["house", "thing"] (spNo 2 c) := by
  refine F.okX scNeedOuts (fun vs H Q E h => ?_) (fun cdv A outer s H vs Q E hr h => ?_)
  · obtain ⟨x, rfl, _⟩ := h
    rfl
  · obtain ⟨x, rfl, q⟩ := h
    refine ⟨_, pss_one (ps_if (pt_not (pt_val (pe_call G hr rfl mT kT bT .nil lands_fn.passes (pa_cons (pv 0) (pa_cons (pv 1) pa_nil))))) pss_never pss_nil), ?_⟩
    exact ⟨_, rfl, _, rfl, x, rfl, q⟩
theorem scColdAt : FnScope ["house", "outs", "room", "hour"] ["house", "outs", "room", "hour"] (defScope sColdAt) := ⟨rfl, rfl, rfl, by decide +kernel, rfl, by decide +kernel, by decide +kernel⟩
theorem ok_coldAt {f fT : Addr} {fd fdT : FuncData} (F : Fun K "cold_at" "cold_at" sColdAt f fd) (T : Txt K mg R c) (G : FnOk P w K mg base (CXr P w) 5 fT fdT ["house", "thing"] (spNo 2 c)) (mT : mg "need_outs" = some (.ref fT)) (kT : keepIn K (.ref fT) = true) (bT : Binds K fdT ["house", "thing"] []) :
    FnOk P w K mg base (CXr P w) 6 f fd ["house", "outs", "room", "hour"] (spNo 4 c) := by
  refine F.okX scColdAt (fun vs H Q E h => ?_) (fun cdv A outer s H vs Q E hr h => ?_)
  · obtain ⟨x, rfl, _⟩ := h
    rfl
  · obtain ⟨x, rfl, q⟩ := h
    refine ⟨_, pss_cons (ps_expr (pe_call G hr rfl mT kT bT .nil lands_fn.passes (pa_cons (pv 0) (pa_cons (pv 1) pa_nil)))) pss_never, ?_⟩
    exact ⟨_, rfl, _, rfl, x, rfl, q⟩
def spMet : Sp := fun vs H Q _ => ∃ (x : Str), vs = [.str x] ∧ ∀ H', Same H H' → Q (.str (wordOf 0)) H'
theorem scMet : FnScope ["_law_thing", "_law_e"] ["_law_thing"] (defScope sMet) := ⟨rfl, rfl, rfl, by decide +kernel, rfl, by decide +kernel, by decide +kernel⟩
theorem ok_met {f fT fW : Addr} {fd fdT fdW : FuncData} (F : Fun K "_law_cold_met" "_law_cold_met" sMet f fd) (T : Txt K mg R c) (G : FnOk P w K mg base (CXr P w) 6 fT fdT ["house", "outs", "room", "hour"] (spNo 4 c)) (mT : mg "cold_at" = some (.ref fT)) (kT : keepIn K (.ref fT) = true) (bT : Binds K fdT ["house", "outs", "room", "hour"] [])
    (W : FnOkH P w K mg base CX0 1 fW fdW ["_law_e"] (spWord c)) (mW : mg "_law_word" = some (.ref fW)) (kW : keepIn K (.ref fW) = true) (bW : Binds K fdW ["_law_e"] []) :
    FnOk P w K mg base CX0 7 f fd ["_law_thing"] spMet := by
  refine F.ok scMet (fun vs H Q E h => ?_) (fun cdv A outer s H vs Q E hr h => ?_)
  · obtain ⟨x, rfl, _⟩ := h
    rfl
  · obtain ⟨x, rfl, q⟩ := h
    have hw : RoomH 1 (A.deeper (envOfC "_law_cold_met" (defScope sMet) s.heap.objs.size f cdv)) := hr.h.mono (by decide)
    refine ⟨_, pss_cons (ps_try (i := 1) (E := fun Cv _ H' => Cv = .ref (c 0) ∧ H' = H) rfl rfl rfl rfl T.mR T.rb scMet.nd rfl rfl
      (fun pn => pss_one (ps_expr (pe_call G hr rfl mT kT bT .nil lands_tri.passes (pa_cons (pv 0) (pa_cons (pv 0) (pa_cons (pv 0) (pa_cons (pv 0) pa_nil)))))))
      (fun pn ea => pss_one (ps_ret (pe_callH W hw.mark rfl mW kW bW .nil pass0 (pa_cons (pv 1) pa_nil))))) pss_never, ?_, ?_⟩
    · exact ⟨_, rfl, _, rfl, _, rfl, _, rfl, x, rfl, rfl, rfl⟩
    · rintro σ' ea C H' hl ⟨e1, rfl⟩ hea
      have e2 : C = c 0 := Value.ref.inj e1
      subst e2
      refine ⟨T.kr 0 (by decide), _, List.getElem?_set_self (by rw [hl]; show 1 < 2; decide), ea, 0, rfl, by decide, upd_same, fun H2 s2 => ?_⟩
      exact q H2 fun b o e => s2 b o (by rw [upd_ne (ne_of_none e hea)]; exact e)
end
end K4

set_option Elab.async false
set_option linter.all false
set_option maxRecDepth 100000
set_option maxHeartbeats 4000000
namespace L2
open PySem PySem.Spec PyProof.Rows PySem.W
/-- a comprehension over range -/
theorem comp_range {lo : Int} {n : Nat} {g : TG} {tf : TT} {te : TE} {D : Addr} {σ0 : St} {H0 : Hp} {Q : VK} (Pv : Nat → St → Hp → Prop) (h0 : Pv 0 σ0 H0)
    (hs : ∀ i σ H, i < n → Pv i σ H → g (.int (lo + i)) σ H fun σ2 H3 => tf σ2 H3 fun b H4 => if b = true then te σ2 H4 fun y H5 => ∃ ys, H5 D = some (.lst ys) ∧ ys.length < sizeLine ∧ Pv (i + 1) σ2 (upd H5 D (.lst (ys ++ [y]))) else Pv (i + 1) σ2 H4)
    (hd : ∀ σ H, Pv n σ H → Q (.ref D) H) :
    CompW (Itr lo n) g tf te D Q σ0 H0 := by
  refine ⟨fun i m σ H => m = n - i ∧ i ≤ n ∧ Pv i σ H, ⟨n, by simp, Nat.zero_le _, h0⟩, ?_⟩
  rintro i m σ H ⟨rfl, hi, p⟩
  by_cases hlt : i < n
  · refine .inr ⟨hlt, Pv (i + 1), fun σ' H' p' => ⟨n - (i + 1), by omega, rfl, hlt, p'⟩, fun x H' y => ?_⟩
    obtain ⟨e, y⟩ := y
    subst e; subst y
    exact hs i σ _ hlt p
  · have e : i = n := by omega
    subst e
    exact .inl ⟨Nat.le_refl _, hd σ H p⟩
end L2
namespace K4
open PySem L2 PySem.W PyProof.Rows
def stL (i : Nat) : Stmt := (defBody sLaw).getD i (.Pass ⟨0, 0, 0, 0⟩)
def forBody : List Stmt := match stL 2 with | .For _ _ b _ _ => b | _ => []
def forIter : Expr := match stL 2 with | .For _ it _ _ _ => it | _ => .Name "" ⟨0, 0, 0, 0⟩
def bF (i : Nat) : Stmt := forBody.getD i (.Pass ⟨0, 0, 0, 0⟩)
def cScope (e : Expr) : Scope := match e with | .ListComp _ _ sc _ => sc | _ => { kind := .function, names := [], isGenerator := false, isCoroutine := false }
def eText : Expr := match bF 1 with | .Assign _ (.Call _ (e :: _) _ _) _ => e | _ => .Name "" ⟨0, 0, 0, 0⟩
def eFirst : Expr := match bF 2 with | .If (.BoolOp _ (.Compare e _ _ _ :: _) _) _ _ _ => e | _ => .Name "" ⟨0, 0, 0, 0⟩
def eSecond : Expr := match bF 3 with | .If (.Compare e _ _ _) _ _ _ => e | _ => .Name "" ⟨0, 0, 0, 0⟩
abbrev NL : List Str := ["_law_script", "_law_first_here", "_law_second_here", "_law_k", "_law_pot_here", "_law_text"]
theorem scLaw : FnScope NL ["_law_script"] (defScope sLaw) := ⟨rfl, rfl, rfl, by decide +kernel, rfl, by decide +kernel, by decide +kernel⟩
theorem freeOk (e : Expr) (h : e = eText ∨ e = eFirst ∨ e = eSecond) : ∀ y ∈ (cScope e).names, y.2 = .free → (defScope sLaw).names.lookup y.1 = some .cell ∨ (defScope sLaw).names.lookup y.1 = some .free := by
  rcases h with rfl | rfl | rfl
  · decide +kernel
  · decide +kernel
  · decide +kernel
section
variable {P : Program} {w : World} {K : Frag} {mg : Str → Option Value} {base : Heap} {R : Addr} {c : Nat → Addr} {f : Addr} {cdv : Value} {A : Around} {outer : List Env} {s : Shared} {Hx : Hp} {E : XK}
abbrev XL (P : Program) (w : World) (K : Frag) (mg : Str → Option Value) (base : Heap) (f : Addr) (cdv : Value) (A : Around) (outer : List Env) (s : Shared) (H : Hp) (E : XK) : Cx := (cxOf CX0 P w K mg base NL "law" (defScope sLaw) f cdv A outer s H E).nox
theorem csText : CompScope (XL P w K mg base f cdv A outer s Hx E) ["_law_turn", "_law_pot_here"] [none, some 4] (cScope eText) := by
  refine ⟨by decide +kernel, by decide +kernel, by decide +kernel, freeOk _ (.inl rfl), rfl, ?_⟩
  intro j i x h1 h2
  match j, h1, h2 with
  | 0, h1, _ => cases h1
  | 1, h1, h2 => cases h1; cases h2; exact ⟨rfl, by decide +kernel⟩
  | n + 2, h1, _ => simp at h1
theorem csFirst : CompScope (XL P w K mg base f cdv A outer s Hx E) ["_law_way", "_law_text"] [none, some 5] (cScope eFirst) := by
  refine ⟨by decide +kernel, by decide +kernel, by decide +kernel, freeOk _ (.inr (.inl rfl)), rfl, ?_⟩
  intro j i x h1 h2
  match j, h1, h2 with
  | 0, h1, _ => cases h1
  | 1, h1, h2 => cases h1; cases h2; exact ⟨rfl, by decide +kernel⟩
  | n + 2, h1, _ => simp at h1
theorem csSecond : CompScope (XL P w K mg base f cdv A outer s Hx E) ["_law_way", "_law_text"] [none, some 5] (cScope eSecond) := by
  refine ⟨by decide +kernel, by decide +kernel, by decide +kernel, freeOk _ (.inr (.inr rfl)), rfl, ?_⟩
  intro j i x h1 h2
  match j, h1, h2 with
  | 0, h1, _ => cases h1
  | 1, h1, h2 => cases h1; cases h2; exact ⟨rfl, by decide +kernel⟩
  | n + 2, h1, _ => simp at h1
theorem l0 {σ0 : Option V} : ∃ t, PS (XL P w K mg base f cdv A outer s Hx E) (stL 0) t ∧ ∀ D H, (∀ l, H l = none → D.nx [σ0, some (.ref l), none, none, none, none] (upd H l (.lst ((words.take 9).map V.str)))) → t D [σ0, none, none, none, none, none] H := by
  have e : ∃ p es q r, stL 0 = .Assign [.Name "_law_first_here" p] (.List es q) r ∧ es.map txtOf = (words.take 9).map some := ⟨_, _, _, _, rfl, rfl⟩
  obtain ⟨p, es, q, r, h, he⟩ := e
  rw [h]
  refine ⟨_, ps_set (i := 1) (x := "_law_first_here") scLaw.nd rfl (Or.inl rfl) (pe_lst (pa_strs he)) (swaps_list _ _ _ _), fun D H k => ?_⟩
  exact ⟨by decide, fun l n => k l n⟩
theorem l1 {σ0 : Option V} : ∃ t, PS (XL P w K mg base f cdv A outer s Hx E) (stL 1) t ∧ ∀ D H (σ1 : Option V), (∀ l, H l = none → D.nx [σ0, σ1, some (.ref l), none, none, none] (upd H l (.lst ((words.drop 9).map V.str)))) → t D [σ0, σ1, none, none, none, none] H := by
  have e : ∃ p es q r, stL 1 = .Assign [.Name "_law_second_here" p] (.List es q) r ∧ es.map txtOf = (words.drop 9).map some := ⟨_, _, _, _, rfl, rfl⟩
  obtain ⟨p, es, q, r, h, he⟩ := e
  rw [h]
  refine ⟨_, ps_set (i := 2) (x := "_law_second_here") scLaw.nd rfl (Or.inl rfl) (pe_lst (pa_strs he)) (swaps_list _ _ _ _), fun D H σ1 k => ?_⟩
  exact ⟨by decide, fun l n => k l n⟩
/-- what the law's defs are -/
structure Defs (P : Program) (w : World) (K : Frag) (mg : Str → Option Value) (base : Heap) (c : Nat → Addr) (fC fP fT f1 f2 fM : Addr) (dC dP dT d1 d2 dM : FuncData) : Prop where
  gC : FnOk P w K mg base CX0 1 fC dC ["_law_script", "_law_k"] (spCell K)
  mC : mg "_law_cell_at" = some (.ref fC)
  kC : keepIn K (.ref fC) = true
  bC : Binds K dC ["_law_script", "_law_k"] []
  gP : FnOk P w K mg base CX0 1 fP dP ["_law_cell"] spPot
  mP : mg "_law_pot" = some (.ref fP)
  kP : keepIn K (.ref fP) = true
  bP : Binds K dP ["_law_cell"] []
  gT : FnOk P w K mg base CX0 1 fT dT ["_law_pot_here", "_law_far"] spTake
  mT : mg "_law_take" = some (.ref fT)
  kT : keepIn K (.ref fT) = true
  bT : Binds K dT ["_law_pot_here", "_law_far"] []
  g1 : FnOk P w K mg base CX0 2 f1 d1 ["_law_way", "_law_text"] spFirst
  m1 : mg "_law_first" = some (.ref f1)
  k1 : keepIn K (.ref f1) = true
  b1 : Binds K d1 ["_law_way", "_law_text"] []
  g2 : FnOk P w K mg base CX0 2 f2 d2 ["_law_way", "_law_text"] spSecond
  m2 : mg "_law_second" = some (.ref f2)
  k2 : keepIn K (.ref f2) = true
  b2 : Binds K d2 ["_law_way", "_law_text"] []
  gM : FnOk P w K mg base CX0 7 fM dM ["_law_thing"] spMet
  mM : mg "_law_cold_met" = some (.ref fM)
  kM : keepIn K (.ref fM) = true
  bM : Binds K dM ["_law_thing"] []
variable {fC fP fT f1 f2 fM : Addr} {dC dP dT d1 d2 dM : FuncData}
theorem b0 (G : Defs P w K mg base c fC fP fT f1 f2 fM dC dP dT d1 d2 dM) (hr : Room 7 (XL P w K mg base f cdv A outer s Hx E).A) : ∃ t, PS (XL P w K mg base f cdv A outer s Hx E) (bF 0) t ∧ ∀ D H (a : Addr) (ns : List Int) (k : Nat) (x1 x2 x4 x5 : Option V), SqL K H a (ns.map V.int) →
    (∀ l m, H l = none → D.nx [some (.ref a), x1, x2, some (.int (k : Nat)), some (.ref l), x5] (upd H l (.lst [.int m]))) → t D [some (.ref a), x1, x2, some (.int (k : Nat)), x4, x5] H := by
  have r1 : Room 1 (XL P w K mg base f cdv A outer s Hx E).A := hr.mono (by decide)
  refine ⟨_, ps_set (i := 4) scLaw.nd rfl (Or.inr rfl) (pe_call G.gP r1 rfl G.mP G.kP G.bP .nil pass0 (pa_cons (pe_call G.gC r1 rfl G.mC G.kC G.bC .nil pass0 (pa_cons (pv 0) (pa_cons (pv 3) pa_nil))) pa_nil)), fun D H a ns k x1 x2 x4 x5 hS q => ?_⟩
  exact ⟨_, rfl, _, rfl, a, ns, k, rfl, hS, fun v => ⟨v, rfl, fun l m n => q l m n⟩⟩
end
end K4

set_option Elab.async false
set_option linter.all false
set_option maxRecDepth 100000
set_option maxHeartbeats 4000000
namespace K4
open PySem L2 PySem.W PyProof.Rows
section
variable {P : Program} {w : World} {K : Frag} {mg : Str → Option Value} {base : Heap} {R : Addr} {c : Nat → Addr} {f : Addr} {cdv : Value} {A : Around} {outer : List Env} {s : Shared} {Hx : Hp} {E : XK}
variable {fC fP fT f1 f2 fM : Addr} {dC dP dT d1 d2 dM : FuncData}
theorem ones_sum : ∀ (ys : List Str), (∀ y ∈ ys, y.length = 1) → (ys.map (·.length)).sum = ys.length
  | [], _ => rfl
  | y :: r, h => by
    rw [List.map_cons, List.sum_cons, ones_sum r fun z hz => h z (List.mem_cons_of_mem _ hz), h y List.mem_cons_self, List.length_cons]
    omega
theorem seven7 : ∀ r : Nat, r < 7 → (("abc xyz" : Str).cps.toList[r]?).isSome = true := by decide +kernel
theorem seven (r : Nat) (h : r < 7) : ∃ c, ("abc xyz" : Str).cps.toList[r]? = some c := Option.isSome_iff_exists.mp (seven7 r h)
theorem ndT : (["_law_turn", "_law_pot_here"] : List Str).Nodup := by decide +kernel
theorem ndW : (["_law_way", "_law_text"] : List Str).Nodup := by decide +kernel
theorem b1 (T : Txt K mg R c) (G : Defs P w K mg base c fC fP fT f1 f2 fM dC dP dT d1 d2 dM) (hr : Room 7 (XL P w K mg base f cdv A outer s Hx E).A) : ∃ t, PS (XL P w K mg base f cdv A outer s Hx E) (bF 1) t ∧ ∀ D H HB (l : Addr) (m : Int) (x0 x1 x2 x3 x5 : Option V), Same HB H → HB l = none → H l = some (.lst [.int m]) →
    (∀ x H', Same HB H' → D.nx [x0, x1, x2, x3, some (.ref l), some (.str x)] H') → t D [x0, x1, x2, x3, some (.ref l), x5] H := by
  have r1 : Room 1 (XL P w K mg base f cdv A outer s Hx E).A := hr.mono (by decide)
  refine ⟨_, ps_set (i := 5) scLaw.nd rfl (Or.inr rfl) (pe_bm PySem.F.plainAttrs_str PySem.F.slot_str_join PySem.F.type_str_join mt_join pe_str
    (pa_cons (pe_comp rfl csText (pi_range1 rfl T.range (pa_cons (pe_call G.gT r1 rfl G.mT G.kT G.bT .nil pass0 (pa_cons (pv 4) (pa_cons pe_int pa_nil))) pa_nil))
      (fun cl s H C fp => pg_name (i := 0) ndT rfl (Or.inl rfl)) (fun cl s H C fp => pf_nil)
      (fun cl s H C fp => pe_ix ix_str pe_str (pe_call G.gT r1 rfl G.mT G.kT G.bT .nil pass0 (pa_cons (pv 1) (pa_cons pe_int pa_nil))) (fun _ _ => rfl))) pa_nil)), fun D H HB l m x0 x1 x2 x3 x5 sm hn hl k => ?_⟩
  refine ⟨rfl, _, rfl, l, m, 9, rfl, hl, by decide, by decide, fun r m2 hr0 hr9 => ?_⟩
  refine ⟨r, rfl, by omega, by omega, fun d nd => ?_⟩
  have ld : l ≠ d := by
    intro z
    rw [← z, upd_same] at nd
    cases nd
  have nd' : H d = none := by rw [upd_ne ld.symm] at nd; exact nd
  have hbd : HB d = none := sm.free nd'
  refine comp_range (fun i σ H' => ∃ (m : Int) (ys : List Str) (y0 : Option V), σ = [y0, some (.ref l)] ∧ Same HB H' ∧ H' l = some (.lst [.int m]) ∧ H' d = some (.lst (ys.map V.str)) ∧ ys.length = i ∧ ∀ y ∈ ys, y.length = 1)
    ⟨m2, [], none, rfl, up_same (up_same sm hn) hbd, by rw [upd_ne ld, upd_same], upd_same, rfl, fun _ h => nomatch h⟩ ?_ ?_
  · rintro i σ H' hi ⟨m3, ys, y0, rfl, s3, e3, e4, e5, e6⟩
    refine ⟨_, rfl, l, m3, 7, rfl, e3, by decide, by decide, fun r2 m4 h0 h7 => ?_⟩
    obtain ⟨r3, rfl⟩ : ∃ n : Nat, r2 = n := ⟨r2.toNat, by omega⟩
    obtain ⟨ch, hch⟩ := seven r3 (by omega)
    refine ⟨_, _, ch, rfl, rfl, by decide +kernel, atI_nat hch, ys.map V.str, by rw [upd_ne ld.symm]; exact e4, by rw [List.length_map]; exact small1000 (by omega), m4, ys ++ [⟨#[ch]⟩], _, rfl, up_same (up_same s3 hn) hbd, by rw [upd_ne ld, upd_same], ?_, by rw [List.length_append, e5]; rfl, ?_⟩
    · rw [upd_same, List.map_append]; rfl
    · intro y hy
      rcases List.mem_append.mp hy with z | z
      · exact e6 y z
      · rw [List.mem_singleton.mp z]; rfl
  · rintro σ H' ⟨m3, ys, y0, rfl, s3, e3, e4, e5, e6⟩
    refine ⟨_, d, ys, rfl, rfl, SqL.of e4, by decide, ?_, k _ _ s3⟩
    rw [ones_sum ys e6]
    omega
theorem b2 (T : Txt K mg R c) (G : Defs P w K mg base c fC fP fT f1 f2 fM dC dP dT d1 d2 dM) (hr : Room 7 (XL P w K mg base f cdv A outer s Hx E).A) : ∃ t, PS (XL P w K mg base f cdv A outer s Hx E) (bF 2) t ∧ ∀ D H HB (l1 : Addr) (x : Str) (x0 x2 x3 x4 : Option V), Same HB H → HB l1 = some (.lst ((words.take 9).map V.str)) →
    (∀ H', Same HB H' → D.nx [x0, some (.ref l1), x2, x3, x4, some (.str x)] H') → t D [x0, some (.ref l1), x2, x3, x4, some (.str x)] H := by
  have r2 : Room 2 (XL P w K mg base f cdv A outer s Hx E).A := hr.mono (by decide)
  have hu : (XL P w K mg base f cdv A outer s Hx E).A.units < cLine := by have := hu_of hr; omega
  refine ⟨_, ps_if (PW.pt (pw_or (pt_cmpR (op_neL hu) (pe_comp rfl csFirst (pi_range1 rfl T.range (pa_cons pe_int pa_nil)) (fun cl s H C fp => pg_name (i := 0) ndW rfl (Or.inl rfl)) (fun cl s H C fp => pf_nil)
      (fun cl s H C fp => pe_call G.g1 r2 rfl G.m1 G.k1 G.b1 .nil pass0 (pa_cons (pv 0) (pa_cons (pv 1) pa_nil)))) (pv 1) (nomark _))
      (pw_or1 (pt_cmpR op_ne (pe_call G.gM hr rfl G.mM G.kM G.bM .nil pass0 (pa_cons (pv 5) pa_nil)) pe_str (nomark _))))) (pss_one (ps_ret pe_bl)) pss_nil, fun D H HB l1 x x0 x2 x3 x4 sm e1 k => ?_⟩
  refine ⟨9, rfl, by decide, by decide, fun d nd => ?_⟩
  have hbd : HB d = none := sm.free nd
  refine comp_range (n := 9) (fun i σ H' => ∃ (y0 : Option V), σ = [y0, some (.str x)] ∧ Same HB H' ∧ H' d = some (.lst ((words.take i).map V.str))) ⟨none, rfl, up_same sm hbd, upd_same⟩ ?_ ?_
  · rintro i σ H' hi ⟨y0, rfl, s3, e3⟩
    refine ⟨_, rfl, _, rfl, i, x, (by rw [Int.zero_add]; rfl), hi, fun H2 s2 => ⟨(words.take i).map V.str, s2 _ _ e3, by rw [List.length_map, List.length_take]; exact small1000 (by omega), _, rfl, up_same (fun b o e => s2 b o (s3 b o e)) hbd, ?_⟩⟩
    rw [upd_same]
    have : ∀ i, i < 9 → (words.take i).map V.str ++ [V.str (wordOf (0 + i))] = (words.take (i + 1)).map V.str := by decide
    rw [this i hi]
  · rintro σ H' ⟨y0, rfl, s3, e3⟩
    refine ⟨_, rfl, d, l1, _, _, rfl, rfl, SqL.of e3, SqL.of (s3 _ _ e1), rfl, by decide, by decide, _, rfl, ?_⟩
    have z : (!(List.range ((words.take 9).map V.str).length).all fun j => eqV (((words.take 9).map V.str).getD j .non) (((words.take 9).map V.str).getD j .non)) = false := by decide +kernel
    rw [z]
    refine iteF ⟨_, rfl, x, rfl, fun H2 s2 => ⟨rfl, _, rfl, ?_⟩⟩
    have z2 : (!decide (V.str (wordOf 0) = V.str "house")) = false := by decide +kernel
    rw [z2]
    exact iteF (k _ fun b o e => s2 b o (s3 b o e))
theorem b3 (T : Txt K mg R c) (G : Defs P w K mg base c fC fP fT f1 f2 fM dC dP dT d1 d2 dM) (hr : Room 7 (XL P w K mg base f cdv A outer s Hx E).A) : ∃ t, PS (XL P w K mg base f cdv A outer s Hx E) (bF 3) t ∧ ∀ D H HB (l2 : Addr) (x : Str) (x0 x1 x3 x4 : Option V), Same HB H → HB l2 = some (.lst ((words.drop 9).map V.str)) →
    (∀ H', Same HB H' → D.nx [x0, x1, some (.ref l2), x3, x4, some (.str x)] H') → t D [x0, x1, some (.ref l2), x3, x4, some (.str x)] H := by
  have r2 : Room 2 (XL P w K mg base f cdv A outer s Hx E).A := hr.mono (by decide)
  have hu : (XL P w K mg base f cdv A outer s Hx E).A.units < cLine := by have := hu_of hr; omega
  refine ⟨_, ps_if (pt_cmpR (op_neL hu) (pe_comp rfl csSecond (pi_range1 rfl T.range (pa_cons pe_int pa_nil)) (fun cl s H C fp => pg_name (i := 0) ndW rfl (Or.inl rfl)) (fun cl s H C fp => pf_nil)
      (fun cl s H C fp => pe_call G.g2 r2 rfl G.m2 G.k2 G.b2 .nil pass0 (pa_cons (pv 0) (pa_cons (pv 1) pa_nil)))) (pv 2) (nomark _)) (pss_one (ps_ret pe_bl)) pss_nil, fun D H HB l2 x x0 x1 x3 x4 sm e1 k => ?_⟩
  refine ⟨8, rfl, by decide, by decide, fun d nd => ?_⟩
  have hbd : HB d = none := sm.free nd
  refine comp_range (n := 8) (fun i σ H' => ∃ (y0 : Option V), σ = [y0, some (.str x)] ∧ Same HB H' ∧ H' d = some (.lst (((words.drop 9).take i).map V.str))) ⟨none, rfl, up_same sm hbd, upd_same⟩ ?_ ?_
  · rintro i σ H' hi ⟨y0, rfl, s3, e3⟩
    refine ⟨_, rfl, _, rfl, i, x, (by rw [Int.zero_add]; rfl), hi, fun H2 s2 => ⟨((words.drop 9).take i).map V.str, s2 _ _ e3, by rw [List.length_map, List.length_take]; exact small1000 (by omega), _, rfl, up_same (fun b o e => s2 b o (s3 b o e)) hbd, ?_⟩⟩
    rw [upd_same]
    have : ∀ i, i < 8 → ((words.drop 9).take i).map V.str ++ [V.str (wordOf (9 + i))] = ((words.drop 9).take (i + 1)).map V.str := by decide
    rw [this i hi]
  · rintro σ H' ⟨y0, rfl, s3, e3⟩
    have e3' : H' d = some (.lst ((words.drop 9).map V.str)) := by
      rw [e3]
      have : ((words.drop 9).take 8).map V.str = (words.drop 9).map V.str := by decide
      rw [this]
    refine ⟨_, rfl, d, l2, _, _, rfl, rfl, SqL.of e3', SqL.of (s3 _ _ e1), rfl, by decide, by decide, _, rfl, ?_⟩
    have z : (!(List.range ((words.drop 9).map V.str).length).all fun j => eqV (((words.drop 9).map V.str).getD j .non) (((words.drop 9).map V.str).getD j .non)) = false := by decide +kernel
    rw [z]
    exact iteF (k _ s3)
end
end K4

set_option Elab.async false
set_option linter.all false
set_option maxRecDepth 100000
set_option maxHeartbeats 4000000
namespace K4
open PySem L2 PySem.W PyProof.Rows
section
variable {P : Program} {w : World} {K : Frag} {mg : Str → Option Value} {base : Heap} {R : Addr} {c : Nat → Addr} {f : Addr} {cdv : Value} {A : Around} {outer : List Env} {s : Shared} {Hx : Hp} {E : XK}
variable {fC fP fT f1 f2 fM : Addr} {dC dP dT d1 d2 dM : FuncData}
theorem itL (T : Txt K mg R c) {tg : Expr} : ∃ wi, PI (XL P w K mg base f cdv A outer s Hx E) tg forIter wi ∧ ∀ σ H R' (a : Addr) (ns : List Int), σ[0]? = some (some (.ref a)) → SqL K H a (ns.map V.int) → (∀ n : Nat, R' (Itr 0 n) H) → wi σ H R' := by
  refine ⟨_, pi_range1 rfl T.range (pa_cons (pe_callB (call_max2 rfl) (by rfl) T.max boot_max (pa_cons pe_int (pa_cons (pe_callB (call_min2 rfl) (by rfl) T.min boot_min (pa_cons (pe_callB call_len_seq (by rfl) T.len PySem.boot_len (pa_cons (pv 0) pa_nil)) (pa_cons pe_int pa_nil))) pa_nil))) pa_nil), fun σ H R' a ns h0 hS k => ?_⟩
  refine ⟨_, h0, a, _, rfl, .inl hS, _, _, rfl, _, _, rfl, _, rfl, ?_, ?_, k _⟩
  · split <;> (try split) <;> omega
  · split <;> (try split) <;> omega
theorem stL2 : ∃ p pos, stL 2 = .For (.Name "_law_k" p) forIter [bF 0, bF 1, bF 2, bF 3] [] pos := ⟨_, _, rfl⟩
theorem bodyL : defBody sLaw = [stL 0, stL 1, stL 2, stL 3] := rfl
theorem l3 : ∃ t, PS (XL P w K mg base f cdv A outer s Hx E) (stL 3) t ∧ ∀ D σ H, D.rt (.bl true) H → t D σ H := ⟨_, ps_ret pe_bl, fun D σ H h => h⟩
theorem foldedL {env : Env} (x) : foldedSetIterable forIter env x = pure x := rfl
theorem l2 (T : Txt K mg R c) (G : Defs P w K mg base c fC fP fT f1 f2 fM dC dP dT d1 d2 dM) (hr : Room 7 (XL P w K mg base f cdv A outer s Hx E).A) : ∃ t, PS (XL P w K mg base f cdv A outer s Hx E) (stL 2) t ∧ ∀ D H (a l1 l2 : Addr) (ns : List Int), SqL K H a (ns.map V.int) → H l1 = some (.lst ((words.take 9).map V.str)) → H l2 = some (.lst ((words.drop 9).map V.str)) →
    (∀ σ H', D.nx σ H') → t D [some (.ref a), some (.ref l1), some (.ref l2), none, none, none] H := by
  obtain ⟨p, pos, e⟩ := stL2
  obtain ⟨wi, hi, ri⟩ := itL (P := P) (w := w) (K := K) (mg := mg) (base := base) (f := f) (cdv := cdv) (A := A) (outer := outer) (s := s) (Hx := Hx) (E := E) (tg := .Name "_law_k" p) T
  obtain ⟨t0, p0, r0⟩ := b0 (P := P) (w := w) (K := K) (mg := mg) (base := base) (f := f) (cdv := cdv) (A := A) (outer := outer) (s := s) (Hx := Hx) (E := E) G hr
  obtain ⟨t1, p1, r1⟩ := b1 (P := P) (w := w) (K := K) (mg := mg) (base := base) (f := f) (cdv := cdv) (A := A) (outer := outer) (s := s) (Hx := Hx) (E := E) T G hr
  obtain ⟨t2, p2, r2⟩ := b2 (P := P) (w := w) (K := K) (mg := mg) (base := base) (f := f) (cdv := cdv) (A := A) (outer := outer) (s := s) (Hx := Hx) (E := E) T G hr
  obtain ⟨t3, p3, r3⟩ := b3 (P := P) (w := w) (K := K) (mg := mg) (base := base) (f := f) (cdv := cdv) (A := A) (outer := outer) (s := s) (Hx := Hx) (E := E) T G hr
  have hfold : ∀ x, foldedSetIterable forIter (XL P w K mg base f cdv A outer s Hx E).env x = pure x := fun x => foldedL x
  rw [e]
  generalize bF 0 = x0 at p0 ⊢
  generalize bF 1 = x1 at p1 ⊢
  generalize bF 2 = x2 at p2 ⊢
  generalize bF 3 = x3 at p3 ⊢
  generalize forIter = itx at hi hfold ⊢
  refine ⟨_, ps_for PassesOwn.never rfl hi (pg_name (i := 3) scLaw.nd rfl (Or.inl rfl)) (pss_cons p0 (pss_cons p1 (pss_cons p2 (pss_one p3)))) hfold, fun D H a l1 l2 ns hS e1 e2 k => ?_⟩
  refine ri _ _ _ a ns rfl hS fun n => ?_
  refine for_range (lo := 0) (n := n) (fun i σ H' => ∃ (a3 a4 a5 : Option V), σ = [some (.ref a), some (.ref l1), some (.ref l2), a3, a4, a5] ∧ Same H H') ⟨none, none, none, rfl, Same.refl H⟩ ?_ fun σ H' _ => k σ H'
  rintro i σ H' hi' ⟨a3, a4, a5, rfl, sm⟩
  have step := r0 { D with nx := (tSeq t1 (tSeq t2 t3)) { D with nx := fun σ2 H2 => ∃ (a3 a4 a5 : Option V), σ2 = [some (.ref a), some (.ref l1), some (.ref l2), a3, a4, a5] ∧ Same H H2, ct := fun σ2 H2 => ∃ (a3 a4 a5 : Option V), σ2 = [some (.ref a), some (.ref l1), some (.ref l2), a3, a4, a5] ∧ Same H H2, bk := D.nx }, ct := fun σ2 H2 => ∃ (a3 a4 a5 : Option V), σ2 = [some (.ref a), some (.ref l1), some (.ref l2), a3, a4, a5] ∧ Same H H2, bk := D.nx } H' a ns i (some (.ref l1)) (some (.ref l2)) a4 a5 (sm.seq hS) fun l m nl => by
    have hbl : H l = none := sm.free nl
    refine r1 _ _ H l m _ _ _ _ _ (up_same sm hbl) hbl upd_same fun x H2 s2 => ?_
    refine r2 _ _ H l1 x _ _ _ _ s2 e1 fun H3 s3 => ?_
    refine r3 _ _ H l2 x _ _ _ _ s3 e2 fun H4 s4 => ?_
    exact ⟨_, _, _, rfl, s4⟩
  have hz : (V.int (0 + (i : Int))) = V.int (i : Int) := by rw [Int.zero_add]
  show (tSeq t0 (tSeq t1 (tSeq t2 t3))) _ ([some (.ref a), some (.ref l1), some (.ref l2), some (V.int (0 + (i : Int))), a4, a5]) H'
  rw [hz]
  exact step
def spLaw (K : Frag) : Sp := fun vs H Q _ => ∃ (a : Addr) (ns : List Int), vs = [.ref a] ∧ SqL K H a (ns.map V.int) ∧ ∀ H', Q (.bl true) H'
theorem ok_law {fd : FuncData} (F : Fun K "law" "law" sLaw f fd) (T : Txt K mg R c) (G : Defs P w K mg base c fC fP fT f1 f2 fM dC dP dT d1 d2 dM) : FnOk P w K mg base CX0 8 f fd ["_law_script"] (spLaw K) := by
  refine F.ok scLaw (fun vs H Q E h => ?_) (fun cdv A outer s H vs Q E hr h => ?_)
  · obtain ⟨a, ns, rfl, _⟩ := h
    rfl
  · obtain ⟨a, ns, rfl, hS, q⟩ := h
    rw [bodyL]
    obtain ⟨t0, p0, r0⟩ := l0 (P := P) (w := w) (K := K) (mg := mg) (base := base) (f := f) (cdv := cdv) (A := A) (outer := outer) (s := s) (Hx := H) (E := E) (σ0 := some (.ref a))
    obtain ⟨t2, p2, r2⟩ := l2 (P := P) (w := w) (K := K) (mg := mg) (base := base) (f := f) (cdv := cdv) (A := A) (outer := outer) (s := s) (Hx := H) (E := E) T G hr
    obtain ⟨t3, p3, r3⟩ := l3 (P := P) (w := w) (K := K) (mg := mg) (base := base) (f := f) (cdv := cdv) (A := A) (outer := outer) (s := s) (Hx := H) (E := E)
    obtain ⟨t1, p1, r1⟩ := l1 (P := P) (w := w) (K := K) (mg := mg) (base := base) (f := f) (cdv := cdv) (A := A) (outer := outer) (s := s) (Hx := H) (E := E) (σ0 := some (.ref a))
    generalize stL 0 = x0 at p0 ⊢
    generalize stL 1 = x1 at p1 ⊢
    generalize stL 2 = x2 at p2 ⊢
    generalize stL 3 = x3 at p3 ⊢
    refine ⟨_, pss_cons p0 (pss_cons p1 (pss_cons p2 (pss_one p3))), ?_⟩
    refine r0 _ _ fun u1 n1 => ?_
    refine r1 _ _ _ fun u2 n2 => ?_
    have s1 := same_upd (o := .lst ((words.take 9).map V.str)) n1
    have s2 := same_upd (o := .lst ((words.drop 9).map V.str)) n2
    refine r2 _ _ a u1 u2 ns ((s1.trans s2).seq hS) (s2 _ _ upd_same) upd_same fun σ H' => ?_
    exact r3 _ _ _ (q H')
end
end K4

namespace K4
open PySem L2 PySem.W PyProof.Rows
def chk1 (K : Frag) (R C : Addr) : Bool := excIn K C vErr "ValueError.__new__" && (findIn K (.ref C) "__getattribute__" == some (some (.builtin "BaseException.__getattribute__"))) && (findIn K (.ref C) "__getattr__" == some none) &&
  (findIn K (.ref C) "__class__" == some (some (.builtin "object.__class__"))) && (mroIn K C (.type "object") == some true) && (mroIn K C (.type "BaseException") == some true) && (clsIn K C).isSome && (kitOne K (.ref C) (.type "ValueError") == some true) && (kitCls K (.ref C) (.ref R) == some true)
def chk2 (K : Frag) (cs : List Addr) : Bool := (List.range 17).all fun i => (List.range 17).all fun j => kitOne K (.ref (cs.getD i 0)) (.ref (cs.getD j 0)) == some (decide (i = j))
def chk3 (K : Frag) (R : Addr) : Bool := (mroIn K R (.type "BaseException") == some true) && (kitOne K (.type "str") (.type "tuple") == some false) && (specialIn K (.builtin "object.__class__") "__get__" == some (some (.builtin "getset_descriptor.__get__"))) && (takesIn K (.builtin "object.__class__") == some true)
theorem getD_mem {l : List Addr} {i : Nat} (h : i < l.length) : l.getD i 0 ∈ l := by
  rw [List.getD, List.getElem?_eq_getElem h]
  exact List.getElem_mem h
structure Chk1 (K : Frag) (R C : Addr) : Prop where
  y1 : excIn K C vErr "ValueError.__new__" = true
  y2 : findIn K (.ref C) "__getattribute__" = some (some (.builtin "BaseException.__getattribute__"))
  y3 : findIn K (.ref C) "__getattr__" = some none
  y4 : findIn K (.ref C) "__class__" = some (some (.builtin "object.__class__"))
  y5 : mroIn K C (.type "object") = some true
  y6 : mroIn K C (.type "BaseException") = some true
  y7 : (clsIn K C).isSome = true
  y8 : kitOne K (.ref C) (.type "ValueError") = some true
  y9 : kitCls K (.ref C) (.ref R) = some true
theorem chk1_of {K : Frag} {R C : Addr} (z : chk1 K R C = true) : Chk1 K R C := by
  unfold chk1 at z
  simp only [Bool.and_eq_true, beq_iff_eq] at z
  obtain ⟨⟨⟨⟨⟨⟨⟨⟨y1, y2⟩, y3⟩, y4⟩, y5⟩, y6⟩, y7⟩, y8⟩, y9⟩ := z
  exact ⟨y1, y2, y3, y4, y5, y6, y7, y8, y9⟩
theorem all_mk {l : PySem.W.OpenLaw} {w : World} {K : Frag} {h : Heap} {mg : Str → Option Value} {fa R : Addr} (X : K.In h) (G : h.Ns mainGlobals mg) (hfa : mg "law" = some (.ref fa))
    {c0 c1 c2 c3 c4 c5 c6 c7 c8 c9 c10 c11 c12 c13 c14 c15 c16 : Addr}
    (eR : nsIn K mainGlobals "RimeError" = some (some (.ref R)))
    (e0 : nsIn K mainGlobals "NoHouse" = some (some (.ref c0)))
    (e1 : nsIn K mainGlobals "NoOuts" = some (some (.ref c1)))
    (e2 : nsIn K mainGlobals "NoRoom" = some (some (.ref c2)))
    (e3 : nsIn K mainGlobals "NoHour" = some (some (.ref c3)))
    (e4 : nsIn K mainGlobals "NoPages" = some (some (.ref c4)))
    (e5 : nsIn K mainGlobals "NoLot" = some (some (.ref c5)))
    (e6 : nsIn K mainGlobals "NoAsks" = some (some (.ref c6)))
    (e7 : nsIn K mainGlobals "NoNumber" = some (some (.ref c7)))
    (e8 : nsIn K mainGlobals "NoMoves" = some (some (.ref c8)))
    (e9 : nsIn K mainGlobals "NoEach" = some (some (.ref c9)))
    (e10 : nsIn K mainGlobals "NoOrder" = some (some (.ref c10)))
    (e11 : nsIn K mainGlobals "NoPage" = some (some (.ref c11)))
    (e12 : nsIn K mainGlobals "NoOut" = some (some (.ref c12)))
    (e13 : nsIn K mainGlobals "Twice" = some (some (.ref c13)))
    (e14 : nsIn K mainGlobals "Missing" = some (some (.ref c14)))
    (e15 : nsIn K mainGlobals "TooMany" = some (some (.ref c15)))
    (e16 : nsIn K mainGlobals "NoDeed" = some (some (.ref c16)))
    (z0 : nsIn K mainGlobals "len" = some none)
    (z1 : nsIn K mainGlobals "range" = some none)
    (z2 : nsIn K mainGlobals "max" = some none)
    (z3 : nsIn K mainGlobals "min" = some none)
    (z4 : nsIn K mainGlobals "isinstance" = some none)
    (z5 : nsIn K mainGlobals "ValueError" = some none)
    (z6 : nsIn K mainGlobals "tuple" = some none)
    {f0 : Addr} {od0 an0 : Option Addr} {sl0 : Array (Option Value)} {oc0 kV0 dc0 pm0 cd0 ct0 : Value} (a0 : nsIn K mainGlobals "is_tuple" = some (some (.ref f0))) (l0 : K.lookup f0 = some ⟨oc0, od0, .func (PySem.W.fnOf "is_tuple" "is_tuple" (defArgs sIsTuple) (defBody sIsTuple) (defScope sIsTuple) .none kV0 dc0 pm0 an0 cd0 ct0), sl0⟩) (g0 : codeIn K cd0 "is_tuple" = true) (k0 : keepIn K (.ref f0) = true)
    {f1 : Addr} {od1 an1 : Option Addr} {sl1 : Array (Option Value)} {oc1 kV1 dc1 pm1 cd1 ct1 : Value} (a1 : nsIn K mainGlobals "is_house" = some (some (.ref f1))) (l1 : K.lookup f1 = some ⟨oc1, od1, .func (PySem.W.fnOf "is_house" "is_house" (defArgs sIsHouse) (defBody sIsHouse) (defScope sIsHouse) .none kV1 dc1 pm1 an1 cd1 ct1), sl1⟩) (g1 : codeIn K cd1 "is_house" = true) (k1 : keepIn K (.ref f1) = true)
    {f2 : Addr} {od2 an2 : Option Addr} {sl2 : Array (Option Value)} {oc2 kV2 dc2 pm2 cd2 ct2 : Value} (a2 : nsIn K mainGlobals "need_house" = some (some (.ref f2))) (l2 : K.lookup f2 = some ⟨oc2, od2, .func (PySem.W.fnOf "need_house" "need_house" (defArgs sNeedHouse) (defBody sNeedHouse) (defScope sNeedHouse) .none kV2 dc2 pm2 an2 cd2 ct2), sl2⟩) (g2 : codeIn K cd2 "need_house" = true) (k2 : keepIn K (.ref f2) = true)
    {f3 : Addr} {od3 an3 : Option Addr} {sl3 : Array (Option Value)} {oc3 kV3 dc3 pm3 cd3 ct3 : Value} (a3 : nsIn K mainGlobals "are_outs" = some (some (.ref f3))) (l3 : K.lookup f3 = some ⟨oc3, od3, .func (PySem.W.fnOf "are_outs" "are_outs" (defArgs sAreOuts) (defBody sAreOuts) (defScope sAreOuts) .none kV3 dc3 pm3 an3 cd3 ct3), sl3⟩) (g3 : codeIn K cd3 "are_outs" = true) (k3 : keepIn K (.ref f3) = true)
    {f4 : Addr} {od4 an4 : Option Addr} {sl4 : Array (Option Value)} {oc4 kV4 dc4 pm4 cd4 ct4 : Value} (a4 : nsIn K mainGlobals "need_outs" = some (some (.ref f4))) (l4 : K.lookup f4 = some ⟨oc4, od4, .func (PySem.W.fnOf "need_outs" "need_outs" (defArgs sNeedOuts) (defBody sNeedOuts) (defScope sNeedOuts) .none kV4 dc4 pm4 an4 cd4 ct4), sl4⟩) (g4 : codeIn K cd4 "need_outs" = true) (k4 : keepIn K (.ref f4) = true)
    {f5 : Addr} {od5 an5 : Option Addr} {sl5 : Array (Option Value)} {oc5 kV5 dc5 pm5 cd5 ct5 : Value} (a5 : nsIn K mainGlobals "cold_at" = some (some (.ref f5))) (l5 : K.lookup f5 = some ⟨oc5, od5, .func (PySem.W.fnOf "cold_at" "cold_at" (defArgs sColdAt) (defBody sColdAt) (defScope sColdAt) .none kV5 dc5 pm5 an5 cd5 ct5), sl5⟩) (g5 : codeIn K cd5 "cold_at" = true) (k5 : keepIn K (.ref f5) = true)
    {f6 : Addr} {od6 an6 : Option Addr} {sl6 : Array (Option Value)} {oc6 kV6 dc6 pm6 cd6 ct6 : Value} (a6 : nsIn K mainGlobals "_law_cell_at" = some (some (.ref f6))) (l6 : K.lookup f6 = some ⟨oc6, od6, .func (PySem.W.fnOf "_law_cell_at" "_law_cell_at" (defArgs sCell) (defBody sCell) (defScope sCell) .none kV6 dc6 pm6 an6 cd6 ct6), sl6⟩) (g6 : codeIn K cd6 "_law_cell_at" = true) (k6 : keepIn K (.ref f6) = true)
    {f7 : Addr} {od7 an7 : Option Addr} {sl7 : Array (Option Value)} {oc7 kV7 dc7 pm7 cd7 ct7 : Value} (a7 : nsIn K mainGlobals "_law_pot" = some (some (.ref f7))) (l7 : K.lookup f7 = some ⟨oc7, od7, .func (PySem.W.fnOf "_law_pot" "_law_pot" (defArgs sPot) (defBody sPot) (defScope sPot) .none kV7 dc7 pm7 an7 cd7 ct7), sl7⟩) (g7 : codeIn K cd7 "_law_pot" = true) (k7 : keepIn K (.ref f7) = true)
    {f8 : Addr} {od8 an8 : Option Addr} {sl8 : Array (Option Value)} {oc8 kV8 dc8 pm8 cd8 ct8 : Value} (a8 : nsIn K mainGlobals "_law_take" = some (some (.ref f8))) (l8 : K.lookup f8 = some ⟨oc8, od8, .func (PySem.W.fnOf "_law_take" "_law_take" (defArgs sTake) (defBody sTake) (defScope sTake) .none kV8 dc8 pm8 an8 cd8 ct8), sl8⟩) (g8 : codeIn K cd8 "_law_take" = true) (k8 : keepIn K (.ref f8) = true)
    {f9 : Addr} {od9 an9 : Option Addr} {sl9 : Array (Option Value)} {oc9 kV9 dc9 pm9 cd9 ct9 : Value} (a9 : nsIn K mainGlobals "_law_word" = some (some (.ref f9))) (l9 : K.lookup f9 = some ⟨oc9, od9, .func (PySem.W.fnOf "_law_word" "_law_word" (defArgs sWord) (defBody sWord) (defScope sWord) .none kV9 dc9 pm9 an9 cd9 ct9), sl9⟩) (g9 : codeIn K cd9 "_law_word" = true) (k9 : keepIn K (.ref f9) = true)
    {f10 : Addr} {od10 an10 : Option Addr} {sl10 : Array (Option Value)} {oc10 kV10 dc10 pm10 cd10 ct10 : Value} (a10 : nsIn K mainGlobals "_law_first" = some (some (.ref f10))) (l10 : K.lookup f10 = some ⟨oc10, od10, .func (PySem.W.fnOf "_law_first" "_law_first" (defArgs sFirst) (defBody sFirst) (defScope sFirst) .none kV10 dc10 pm10 an10 cd10 ct10), sl10⟩) (g10 : codeIn K cd10 "_law_first" = true) (k10 : keepIn K (.ref f10) = true)
    {f11 : Addr} {od11 an11 : Option Addr} {sl11 : Array (Option Value)} {oc11 kV11 dc11 pm11 cd11 ct11 : Value} (a11 : nsIn K mainGlobals "_law_second" = some (some (.ref f11))) (l11 : K.lookup f11 = some ⟨oc11, od11, .func (PySem.W.fnOf "_law_second" "_law_second" (defArgs sSecond) (defBody sSecond) (defScope sSecond) .none kV11 dc11 pm11 an11 cd11 ct11), sl11⟩) (g11 : codeIn K cd11 "_law_second" = true) (k11 : keepIn K (.ref f11) = true)
    {f12 : Addr} {od12 an12 : Option Addr} {sl12 : Array (Option Value)} {oc12 kV12 dc12 pm12 cd12 ct12 : Value} (a12 : nsIn K mainGlobals "_law_cold_met" = some (some (.ref f12))) (l12 : K.lookup f12 = some ⟨oc12, od12, .func (PySem.W.fnOf "_law_cold_met" "_law_cold_met" (defArgs sMet) (defBody sMet) (defScope sMet) .none kV12 dc12 pm12 an12 cd12 ct12), sl12⟩) (g12 : codeIn K cd12 "_law_cold_met" = true) (k12 : keepIn K (.ref f12) = true)
    {f13 : Addr} {od13 an13 : Option Addr} {sl13 : Array (Option Value)} {oc13 kV13 dc13 pm13 cd13 ct13 : Value} (a13 : nsIn K mainGlobals "law" = some (some (.ref f13))) (l13 : K.lookup f13 = some ⟨oc13, od13, .func (PySem.W.fnOf "law" "law" (defArgs sLaw) (defBody sLaw) (defScope sLaw) .none kV13 dc13 pm13 an13 cd13 ct13), sl13⟩) (g13 : codeIn K cd13 "law" = true) (k13 : keepIn K (.ref f13) = true)
    (h1 : ([c0, c1, c2, c3, c4, c5, c6, c7, c8, c9, c10, c11, c12, c13, c14, c15, c16] : List Addr).all (chk1 K R) = true) (h2 : chk2 K [c0, c1, c2, c3, c4, c5, c6, c7, c8, c9, c10, c11, c12, c13, c14, c15, c16] = true) (h3 : chk3 K R = true) :
    ∃ fd : FuncData, (∀ (s : Shared) (v : Value), BindsTo s fd ⟨[v], []⟩ [("_law_script", v)]) ∧ ∀ base : Heap, K.In base → base.Ns mainGlobals mg → FnOk l.prog w K mg base CX0 8 fa fd ["_law_script"] (spLaw K) := by
  have e := hfa.symm.trans (PySem.W.mg_of X G a13)
  cases e
  unfold chk3 at h3
  simp only [Bool.and_eq_true, beq_iff_eq] at h3
  obtain ⟨⟨⟨q1, q2⟩, q3⟩, q4⟩ := h3
  have hc : ∀ i, i < 17 → Chk1 K R (([c0, c1, c2, c3, c4, c5, c6, c7, c8, c9, c10, c11, c12, c13, c14, c15, c16] : List Addr).getD i 0) := fun i hi => by
    rw [List.all_eq_true] at h1
    exact chk1_of (h1 _ (getD_mem (by show i < 17; exact hi)))
  have T : Txt K mg R (fun i => ([c0, c1, c2, c3, c4, c5, c6, c7, c8, c9, c10, c11, c12, c13, c14, c15, c16] : List Addr).getD i 0) := by
    refine ⟨?_, PySem.W.mg_of X G eR, PySem.W.mg_none_of X G z0, PySem.W.mg_none_of X G z1, PySem.W.mg_none_of X G z2, PySem.W.mg_none_of X G z3, PySem.W.mg_none_of X G z4, PySem.W.mg_none_of X G z5, PySem.W.mg_none_of X G z6, fun i hi => (hc i hi).y1, fun i hi => ?_, fun i j hi hj => ?_, fun i hi => (hc i hi).y8, fun i hi => (hc i hi).y9, q1, q2⟩
    · intro i x hx
      match i, hx with
      | 0, hx => cases hx; exact PySem.W.mg_of X G e0
      | 1, hx => cases hx; exact PySem.W.mg_of X G e1
      | 2, hx => cases hx; exact PySem.W.mg_of X G e2
      | 3, hx => cases hx; exact PySem.W.mg_of X G e3
      | 4, hx => cases hx; exact PySem.W.mg_of X G e4
      | 5, hx => cases hx; exact PySem.W.mg_of X G e5
      | 6, hx => cases hx; exact PySem.W.mg_of X G e6
      | 7, hx => cases hx; exact PySem.W.mg_of X G e7
      | 8, hx => cases hx; exact PySem.W.mg_of X G e8
      | 9, hx => cases hx; exact PySem.W.mg_of X G e9
      | 10, hx => cases hx; exact PySem.W.mg_of X G e10
      | 11, hx => cases hx; exact PySem.W.mg_of X G e11
      | 12, hx => cases hx; exact PySem.W.mg_of X G e12
      | 13, hx => cases hx; exact PySem.W.mg_of X G e13
      | 14, hx => cases hx; exact PySem.W.mg_of X G e14
      | 15, hx => cases hx; exact PySem.W.mg_of X G e15
      | 16, hx => cases hx; exact PySem.W.mg_of X G e16
      | n + 17, hx => simp [names] at hx
    · exact ⟨(hc i hi).y2, (hc i hi).y3, (hc i hi).y4, q3, q4, (hc i hi).y5, (hc i hi).y6, (hc i hi).y7⟩
    · unfold chk2 at h2
      rw [List.all_eq_true] at h2
      have z := h2 i (List.mem_range.mpr hi)
      rw [List.all_eq_true] at z
      exact beq_iff_eq.mp (z j (List.mem_range.mpr hj))
  have F0 := fun_mk (st := sIsTuple) l0 g0 k0
  have B0 := F0.binds (ps := ["thing", "fewest", "most"]) fun _ _ _ _ _ _ us hl => match us, hl with | [_, _, _], _ => rfl
  have M0 := PySem.W.mg_of X G a0
  have F1 := fun_mk (st := sIsHouse) l1 g1 k1
  have B1 := F1.binds (ps := ["thing"]) fun _ _ _ _ _ _ us hl => match us, hl with | [_], _ => rfl
  have M1 := PySem.W.mg_of X G a1
  have F2 := fun_mk (st := sNeedHouse) l2 g2 k2
  have B2 := F2.binds (ps := ["thing"]) fun _ _ _ _ _ _ us hl => match us, hl with | [_], _ => rfl
  have M2 := PySem.W.mg_of X G a2
  have F3 := fun_mk (st := sAreOuts) l3 g3 k3
  have B3 := F3.binds (ps := ["house", "thing"]) fun _ _ _ _ _ _ us hl => match us, hl with | [_, _], _ => rfl
  have M3 := PySem.W.mg_of X G a3
  have F4 := fun_mk (st := sNeedOuts) l4 g4 k4
  have B4 := F4.binds (ps := ["house", "thing"]) fun _ _ _ _ _ _ us hl => match us, hl with | [_, _], _ => rfl
  have M4 := PySem.W.mg_of X G a4
  have F5 := fun_mk (st := sColdAt) l5 g5 k5
  have B5 := F5.binds (ps := ["house", "outs", "room", "hour"]) fun _ _ _ _ _ _ us hl => match us, hl with | [_, _, _, _], _ => rfl
  have M5 := PySem.W.mg_of X G a5
  have F6 := fun_mk (st := sCell) l6 g6 k6
  have B6 := F6.binds (ps := ["_law_script", "_law_k"]) fun _ _ _ _ _ _ us hl => match us, hl with | [_, _], _ => rfl
  have M6 := PySem.W.mg_of X G a6
  have F7 := fun_mk (st := sPot) l7 g7 k7
  have B7 := F7.binds (ps := ["_law_cell"]) fun _ _ _ _ _ _ us hl => match us, hl with | [_], _ => rfl
  have M7 := PySem.W.mg_of X G a7
  have F8 := fun_mk (st := sTake) l8 g8 k8
  have B8 := F8.binds (ps := ["_law_pot_here", "_law_far"]) fun _ _ _ _ _ _ us hl => match us, hl with | [_, _], _ => rfl
  have M8 := PySem.W.mg_of X G a8
  have F9 := fun_mk (st := sWord) l9 g9 k9
  have B9 := F9.binds (ps := ["_law_e"]) fun _ _ _ _ _ _ us hl => match us, hl with | [_], _ => rfl
  have M9 := PySem.W.mg_of X G a9
  have F10 := fun_mk (st := sFirst) l10 g10 k10
  have B10 := F10.binds (ps := ["_law_way", "_law_text"]) fun _ _ _ _ _ _ us hl => match us, hl with | [_, _], _ => rfl
  have M10 := PySem.W.mg_of X G a10
  have F11 := fun_mk (st := sSecond) l11 g11 k11
  have B11 := F11.binds (ps := ["_law_way", "_law_text"]) fun _ _ _ _ _ _ us hl => match us, hl with | [_, _], _ => rfl
  have M11 := PySem.W.mg_of X G a11
  have F12 := fun_mk (st := sMet) l12 g12 k12
  have B12 := F12.binds (ps := ["_law_thing"]) fun _ _ _ _ _ _ us hl => match us, hl with | [_], _ => rfl
  have M12 := PySem.W.mg_of X G a12
  have F13 := fun_mk (st := sLaw) l13 g13 k13
  refine ⟨PySem.W.fnOf "law" "law" (defArgs sLaw) (defBody sLaw) (defScope sLaw) .none kV13 dc13 pm13 an13 cd13 ct13, fun s v => .of_eq rfl, fun base _ _ => ?_⟩
  have W := ok_word (P := l.prog) (w := w) (base := base) F9 T
  have tup := ok_isTuple (P := l.prog) (w := w) (base := base) F0 T
  have hou := ok_isHouse (P := l.prog) (w := w) (base := base) F1 T tup M0 k0 B0
  have nho := ok_needHouse (P := l.prog) (w := w) (base := base) F2 T hou M1 k1 B1
  have are := ok_areOuts (P := l.prog) (w := w) (base := base) F3 T nho M2 k2 B2
  have nou := ok_needOuts (P := l.prog) (w := w) (base := base) F4 T are M3 k3 B3
  have cold := ok_coldAt (P := l.prog) (w := w) (base := base) F5 T nou M4 k4 B4
  exact ok_law F13 T ⟨ok_cell F6 T, M6, k6, B6, ok_pot F7 T, M7, k7, B7, ok_take F8 T, M8, k8, B8, ok_first F10 T W M9 k9 B9, M10, k10, B10, ok_second F11 T W M9 k9 B9, M11, k11, B11, ok_met F12 T cold M5 k5 B5 W M9 k9 B9, M12, k12, B12⟩
theorem walk {l : PySem.W.OpenLaw} {q : Program} {loose : List Str} {XP : (Str → Option Value) → Heap → Prop} {YP : World → Heap → Prop} {d : DefRec} {K : Params → PySem.W.Frag} (hn : l.most = some 63) (hdf : d.params.defaults = [])
    (hY : ∀ (w : World) (h : Heap), YP w h → (K w.params).In h)
    (F : ∀ (w : World) (mg : Str → Option Value) (fa : Addr) (h : Heap), (K w.params).In h → h.Ns mainGlobals mg → mg d.name = some (.ref fa) →
      ∃ fd : FuncData, (∀ (s : Shared) (u : Value), BindsTo s fd ⟨[u], []⟩ [("_law_script", u)]) ∧ ∀ base : Heap, (K w.params).In base → base.Ns mainGlobals mg → FnOk l.prog w (K w.params) mg base CX0 8 fa fd ["_law_script"] (spLaw (K w.params))) :
    PySem.W.WalkO q loose XP YP l.row.toRowW d [] (fun f vs => PySem.call f vs) :=
  L2.walk_of (n := 63) (k := 8) (x := "_law_script") (CX := fun _ => CX0) (sp := fun w => spLaw (K w.params)) hn (by decide) hdf ⟨rfl, by decide, by decide⟩ hY F (fun _ _ a ns hl _ hS => ⟨a, ns, rfl, hS, fun _ => rfl⟩) fun _ _ _ _ _ z => z
end K4
open PySem PySem.W PyProof.Rows
set_option maxRecDepth 100000
set_option maxHeartbeats 0
def PySem.W.Fast.tw16615682735927983610 : Unit := ()
def PySem.W.Fast.tw15479304205517989347 : Unit := ()
def PySem.W.Fast.tw5136872449751264276 : Unit := ()
def PySem.W.Fast.tw6122914061479478220 : Unit := ()
def PySem.W.Fast.tw6802111273533483469 : Unit := ()
open_top hd04 for PySem.Challenge.rw_rimehold_k04_errors
set_option maxRecDepth 100000 in
set_option maxHeartbeats 0 in
theorem PySem.Challenge.cw_rimehold_k04_errors_holds : PySem.Challenge.rw_rimehold_k04_errors.Holds :=
  hd04 (by
  k_fill
  refine K4.walk (l := PySem.Challenge.rw_rimehold_k04_errors) rfl rfl (fun w h Y => PySem.W.kIn_of Y) ?F
  case F =>
    intro w mg fa h KX G hmg
    refine' K4.all_mk KX G hmg ?kq_eR ?kq_e0 ?kq_e1 ?kq_e2 ?kq_e3 ?kq_e4 ?kq_e5 ?kq_e6 ?kq_e7 ?kq_e8 ?kq_e9 ?kq_e10 ?kq_e11 ?kq_e12 ?kq_e13 ?kq_e14 ?kq_e15 ?kq_e16 ?kq_z0 ?kq_z1 ?kq_z2 ?kq_z3 ?kq_z4 ?kq_z5 ?kq_z6 ?kq_a0 ?kq_l0 ?kq_g0 ?kq_k0 ?kq_a1 ?kq_l1 ?kq_g1 ?kq_k1 ?kq_a2 ?kq_l2 ?kq_g2 ?kq_k2 ?kq_a3 ?kq_l3 ?kq_g3 ?kq_k3 ?kq_a4 ?kq_l4 ?kq_g4 ?kq_k4 ?kq_a5 ?kq_l5 ?kq_g5 ?kq_k5 ?kq_a6 ?kq_l6 ?kq_g6 ?kq_k6 ?kq_a7 ?kq_l7 ?kq_g7 ?kq_k7 ?kq_a8 ?kq_l8 ?kq_g8 ?kq_k8 ?kq_a9 ?kq_l9 ?kq_g9 ?kq_k9 ?kq_a10 ?kq_l10 ?kq_g10 ?kq_k10 ?kq_a11 ?kq_l11 ?kq_g11 ?kq_k11 ?kq_a12 ?kq_l12 ?kq_g12 ?kq_k12 ?kq_a13 ?kq_l13 ?kq_g13 ?kq_k13 ?kq_h1 ?kq_h2 ?kq_h3
    (case kq_eR => k_is)
    (case kq_e0 => k_is)
    (case kq_e1 => k_is)
    (case kq_e2 => k_is)
    (case kq_e3 => k_is)
    (case kq_e4 => k_is)
    (case kq_e5 => k_is)
    (case kq_e6 => k_is)
    (case kq_e7 => k_is)
    (case kq_e8 => k_is)
    (case kq_e9 => k_is)
    (case kq_e10 => k_is)
    (case kq_e11 => k_is)
    (case kq_e12 => k_is)
    (case kq_e13 => k_is)
    (case kq_e14 => k_is)
    (case kq_e15 => k_is)
    (case kq_e16 => k_is)
    (case kq_z0 => k_is)
    (case kq_z1 => k_is)
    (case kq_z2 => k_is)
    (case kq_z3 => k_is)
    (case kq_z4 => k_is)
    (case kq_z5 => k_is)
    (case kq_z6 => k_is)
    (case kq_a0 => k_is)
    (case kq_l0 => k_is)
    (case kq_g0 => k_is)
    (case kq_k0 => k_is)
    (case kq_a1 => k_is)
    (case kq_l1 => k_is)
    (case kq_g1 => k_is)
    (case kq_k1 => k_is)
    (case kq_a2 => k_is)
    (case kq_l2 => k_is)
    (case kq_g2 => k_is)
    (case kq_k2 => k_is)
    (case kq_a3 => k_is)
    (case kq_l3 => k_is)
    (case kq_g3 => k_is)
    (case kq_k3 => k_is)
    (case kq_a4 => k_is)
    (case kq_l4 => k_is)
    (case kq_g4 => k_is)
    (case kq_k4 => k_is)
    (case kq_a5 => k_is)
    (case kq_l5 => k_is)
    (case kq_g5 => k_is)
    (case kq_k5 => k_is)
    (case kq_a6 => k_is)
    (case kq_l6 => k_is)
    (case kq_g6 => k_is)
    (case kq_k6 => k_is)
    (case kq_a7 => k_is)
    (case kq_l7 => k_is)
    (case kq_g7 => k_is)
    (case kq_k7 => k_is)
    (case kq_a8 => k_is)
    (case kq_l8 => k_is)
    (case kq_g8 => k_is)
    (case kq_k8 => k_is)
    (case kq_a9 => k_is)
    (case kq_l9 => k_is)
    (case kq_g9 => k_is)
    (case kq_k9 => k_is)
    (case kq_a10 => k_is)
    (case kq_l10 => k_is)
    (case kq_g10 => k_is)
    (case kq_k10 => k_is)
    (case kq_a11 => k_is)
    (case kq_l11 => k_is)
    (case kq_g11 => k_is)
    (case kq_k11 => k_is)
    (case kq_a12 => k_is)
    (case kq_l12 => k_is)
    (case kq_g12 => k_is)
    (case kq_k12 => k_is)
    (case kq_a13 => k_is)
    (case kq_l13 => k_is)
    (case kq_g13 => k_is)
    (case kq_k13 => k_is)
    (case kq_h1 => kernel_rfl)
    (case kq_h2 => kernel_rfl)
    (case kq_h3 => kernel_rfl)
  )
#print axioms PySem.Challenge.cw_rimehold_k04_errors_holds
